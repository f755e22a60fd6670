/-
  LAYER 7 (nvm): the statements' do: a meter set, Load.
-/
import Derived.Test.YtmfahmbebpojpaaNvDo
namespace Go.Proofs.Ytmfahmbebpojpaa
open Go Go.RowKit Go.IntWalk
set_option linter.unusedSimpArgs false
set_option maxRecDepth 8000

theorem size4' (w : World) (a b c d : Obj) : ((((w.alloc a).alloc b).alloc c).alloc d).heap.size = w.heap.size + 1 + 1 + 1 + 1 := by simp
theorem heap4_low (w : World) (a b c d : Obj) : ((((w.alloc a).alloc b).alloc c).alloc d).heap[w.heap.size]? = some a := (heap_alloc_old _ _ (by rw [size3]; omega)).trans (heap_low w a b c)
theorem heap4_mid (w : World) (a b c d : Obj) : ((((w.alloc a).alloc b).alloc c).alloc d).heap[w.heap.size + 1]? = some b := (heap_alloc_old _ _ (by rw [size3]; omega)).trans (heap_mid w a b c)
theorem heap4_third (w : World) (a b c d : Obj) : ((((w.alloc a).alloc b).alloc c).alloc d).heap[w.heap.size + 1 + 1]? = some c := (heap_alloc_old _ _ (by rw [size3]; omega)).trans (heap_third w a b c)
theorem heap_fourth (w : World) (a b c d : Obj) : ((((w.alloc a).alloc b).alloc c).alloc d).heap[w.heap.size + 1 + 1 + 1]? = some d := by
  have := heap_alloc_new (((w.alloc a).alloc b).alloc c) d
  rwa [size3] at this
section
variable (g q : Nat) (s : NV) (x : RM) (p : Option Addr) (c : Nat) (L : Int) (kd ad nn : Int) (bp : Option Addr) (nb bc : Nat) (w0 : World) (hI : DoIn g q s x p c L w0) (hL : -9223372036854775807 ≤ L ∧ L ≤ 0)
set_option linter.unusedSectionVars false
include hI hL
set_option maxHeartbeats 2000000 in
theorem do_meter (hk : kd.tmod 9 = 4) : Calls Try.prog 13 #[.pointer (some ⟨q, 0, none⟩), rmv x p c, opv kd ad nn bp nb bc] w0 (DoPost g q s p L x.B.length w0) := by
  have HI := Lib.hid hI
  clear hI
  by_cases h1 : (1000 : Int) < nn
  · have h2 : ¬ nn < 0 := by omega
    have HM : Hid (∀ (b : Nat) (W : World), NvS W g q s → W.heap[b]? = some (.cells #[.int .i64 1000] 3) → b ≠ q → Calls Try.prog 22 #[.pointer (some ⟨q, 0, none⟩), .func (.func 42) #[] #[.pointer (some ⟨b, 0, none⟩)]] W fun e w' => e = .returned (.tuple #[]) ∧ NvS w' g q { s with mt := .down b 1000 } ∧ Chg W w' (Nvb g q s.mt)) := Lib.hid fun b W h hm h1 =>
      meter_any g q s (.down b 1000) W h hm (fun n b' e => by cases e; exact h1) (fun _ _ _ _ e => by cases e)
    go_enter Try.func13, Try.ntmps13
    go_wp2_with (first
      | (go_at_call 34; (with_reducible refine (mkmeter_any 1000 _).mono ?_); rintro e w1 ⟨rfl, rfl⟩)
      | (go_at_call 22; (with_reducible refine (HM.out _ _ (HI.out.S.grew ((((((((Grew.refl w0).al _).al _).al _)).al _)))) (heap_fourth w0 _ _ _ _) (fun e => by have := HI.out.S.lt.2; omega)).mono ?_); rintro e w1 ⟨rfl, s1, c1⟩; have hA := (c1.block w0.heap.size (by rw [size4']; omega) (HI.out.notNew (Nat.le_refl _))).trans (heap4_low w0 _ _ _ _); have hO := (c1.block (w0.heap.size + 1) (by rw [size4']; omega) (HI.out.notNew (by omega))).trans (heap4_mid w0 _ _ _ _); have hZ := (c1.block (w0.heap.size + 1 + 1) (by rw [size4']; omega) (HI.out.notNew (by omega))).trans (heap4_third w0 _ _ _ _); obtain ⟨o0, o1, o2, o3⟩ := box4 hO; obtain ⟨a0, a1, a2, a3, a4, a5, a6, af⟩ := box7 hA; obtain ⟨z0, z1, z2, z3, z4, z5, z6, zf⟩ := box7 hZ; have HA := Lib.hid hA; have HZ := Lib.hid hZ; have S1 := Lib.hid s1; have hsz := lt_of_heap hZ; have hsz1 := lt_of_heap hO; have hsz0 := lt_of_heap hA; have C1 := Lib.hid ((Chg.of_grew ((((((Grew.refl w0).al _).al _).al _)).al _) _).trans c1); have B1 := Lib.hid ((HI.out.B.gr ((((((Grew.refl w0).al _).al _).al _)).al _)).chg c1 HI.out.A); clear s1 c1 hA hZ hO))
    refine do_end2 g q s x p L w0 Try.results13 x p c { x with metered := true, bud := 1000 } p c { s with mt := .down (w0.heap.size + 1 + 1 + 1) 1000 } rfl rfl HA.out (((Chg.refl w1 (fun k => k = w0.heap.size)).then_set ⟨w0.heap.size, 4, none⟩ _ rfl).then_set ⟨w0.heap.size, 5, none⟩ _ rfl) HZ.out S1.out B1.out (.inl rfl) ⟨HI.out.M.B, HI.out.M.off, HI.out.M.wr, HI.out.M.left, .inr ⟨_, 1000, rfl, rfl, by omega, by omega, by show 1000 = _; rw [if_pos (by omega)]⟩⟩ C1.out (fun j hj => .inr (by have : j = w0.heap.size + 1 + 1 + 1 := hj; omega)) (fun a1 ha1 hj => ?_) rfl
    rcases hj with hj | hj | hj
    · exact HI.out.A a1 ha1 (.inl hj)
    · exact HI.out.A a1 ha1 (.inr (.inl hj))
    · have hj : a1.block = w0.heap.size + 1 + 1 + 1 := hj
      obtain ⟨b', o', e', hc'⟩ := HI.out.B.cells HI.out.pos
      rw [ha1] at e'
      obtain rfl := Option.some.inj e'
      have hl' : b' < w0.heap.size := World.block_lt_of_cell? _ _ (hc' 0 HI.out.pos)
      simp only at hj
      omega
  · by_cases h2 : nn < 0
    ·
      have HM : Hid (∀ (b : Nat) (W : World), NvS W g q s → W.heap[b]? = some (.cells #[.int .i64 0] 3) → b ≠ q → Calls Try.prog 22 #[.pointer (some ⟨q, 0, none⟩), .func (.func 42) #[] #[.pointer (some ⟨b, 0, none⟩)]] W fun e w' => e = .returned (.tuple #[]) ∧ NvS w' g q { s with mt := .down b 0 } ∧ Chg W w' (Nvb g q s.mt)) := Lib.hid fun b W h hm h1 =>
        meter_any g q s (.down b 0) W h hm (fun n b' e => by cases e; exact h1) (fun _ _ _ _ e => by cases e)
      go_enter Try.func13, Try.ntmps13
      go_wp2_with (first
        | (go_at_call 34; (with_reducible refine (mkmeter_any 0 _).mono ?_); rintro e w1 ⟨rfl, rfl⟩)
        | (go_at_call 22; (with_reducible refine (HM.out _ _ (HI.out.S.grew ((((((((Grew.refl w0).al _).al _).al _)).al _)))) (heap_fourth w0 _ _ _ _) (fun e => by have := HI.out.S.lt.2; omega)).mono ?_); rintro e w1 ⟨rfl, s1, c1⟩; have hA := (c1.block w0.heap.size (by rw [size4']; omega) (HI.out.notNew (Nat.le_refl _))).trans (heap4_low w0 _ _ _ _); have hO := (c1.block (w0.heap.size + 1) (by rw [size4']; omega) (HI.out.notNew (by omega))).trans (heap4_mid w0 _ _ _ _); have hZ := (c1.block (w0.heap.size + 1 + 1) (by rw [size4']; omega) (HI.out.notNew (by omega))).trans (heap4_third w0 _ _ _ _); obtain ⟨o0, o1, o2, o3⟩ := box4 hO; obtain ⟨a0, a1, a2, a3, a4, a5, a6, af⟩ := box7 hA; obtain ⟨z0, z1, z2, z3, z4, z5, z6, zf⟩ := box7 hZ; have HA := Lib.hid hA; have HZ := Lib.hid hZ; have S1 := Lib.hid s1; have hsz := lt_of_heap hZ; have hsz1 := lt_of_heap hO; have hsz0 := lt_of_heap hA; have C1 := Lib.hid ((Chg.of_grew ((((((Grew.refl w0).al _).al _).al _)).al _) _).trans c1); have B1 := Lib.hid ((HI.out.B.gr ((((((Grew.refl w0).al _).al _).al _)).al _)).chg c1 HI.out.A); clear s1 c1 hA hZ hO))
      refine do_end2 g q s x p L w0 Try.results13 x p c { x with metered := true, bud := 0 } p c { s with mt := .down (w0.heap.size + 1 + 1 + 1) 0 } rfl rfl HA.out (((Chg.refl w1 (fun k => k = w0.heap.size)).then_set ⟨w0.heap.size, 4, none⟩ _ rfl).then_set ⟨w0.heap.size, 5, none⟩ _ rfl) HZ.out S1.out B1.out (.inl rfl) ⟨HI.out.M.B, HI.out.M.off, HI.out.M.wr, HI.out.M.left, .inr ⟨_, 0, rfl, rfl, by omega, by omega, by show 0 = _; rw [if_pos (by omega)]⟩⟩ C1.out (fun j hj => .inr (by have : j = w0.heap.size + 1 + 1 + 1 := hj; omega)) (fun a1 ha1 hj => ?_) rfl
      rcases hj with hj | hj | hj
      · exact HI.out.A a1 ha1 (.inl hj)
      · exact HI.out.A a1 ha1 (.inr (.inl hj))
      · have hj : a1.block = w0.heap.size + 1 + 1 + 1 := hj
        obtain ⟨b', o', e', hc'⟩ := HI.out.B.cells HI.out.pos
        rw [ha1] at e'
        obtain rfl := Option.some.inj e'
        have hl' : b' < w0.heap.size := World.block_lt_of_cell? _ _ (hc' 0 HI.out.pos)
        simp only at hj
        omega
    ·
      have HM : Hid (∀ (b : Nat) (W : World), NvS W g q s → W.heap[b]? = some (.cells #[.int .i64 nn] 3) → b ≠ q → Calls Try.prog 22 #[.pointer (some ⟨q, 0, none⟩), .func (.func 42) #[] #[.pointer (some ⟨b, 0, none⟩)]] W fun e w' => e = .returned (.tuple #[]) ∧ NvS w' g q { s with mt := .down b nn } ∧ Chg W w' (Nvb g q s.mt)) := Lib.hid fun b W h hm h1 =>
        meter_any g q s (.down b nn) W h hm (fun n b' e => by cases e; exact h1) (fun _ _ _ _ e => by cases e)
      go_enter Try.func13, Try.ntmps13
      go_wp2_with (first
        | (go_at_call 34; (with_reducible refine (mkmeter_any nn _).mono ?_); rintro e w1 ⟨rfl, rfl⟩)
        | (go_at_call 22; (with_reducible refine (HM.out _ _ (HI.out.S.grew ((((((((Grew.refl w0).al _).al _).al _)).al _)))) (heap_fourth w0 _ _ _ _) (fun e => by have := HI.out.S.lt.2; omega)).mono ?_); rintro e w1 ⟨rfl, s1, c1⟩; have hA := (c1.block w0.heap.size (by rw [size4']; omega) (HI.out.notNew (Nat.le_refl _))).trans (heap4_low w0 _ _ _ _); have hO := (c1.block (w0.heap.size + 1) (by rw [size4']; omega) (HI.out.notNew (by omega))).trans (heap4_mid w0 _ _ _ _); have hZ := (c1.block (w0.heap.size + 1 + 1) (by rw [size4']; omega) (HI.out.notNew (by omega))).trans (heap4_third w0 _ _ _ _); obtain ⟨o0, o1, o2, o3⟩ := box4 hO; obtain ⟨a0, a1, a2, a3, a4, a5, a6, af⟩ := box7 hA; obtain ⟨z0, z1, z2, z3, z4, z5, z6, zf⟩ := box7 hZ; have HA := Lib.hid hA; have HZ := Lib.hid hZ; have S1 := Lib.hid s1; have hsz := lt_of_heap hZ; have hsz1 := lt_of_heap hO; have hsz0 := lt_of_heap hA; have C1 := Lib.hid ((Chg.of_grew ((((((Grew.refl w0).al _).al _).al _)).al _) _).trans c1); have B1 := Lib.hid ((HI.out.B.gr ((((((Grew.refl w0).al _).al _).al _)).al _)).chg c1 HI.out.A); clear s1 c1 hA hZ hO))
      refine do_end2 g q s x p L w0 Try.results13 x p c { x with metered := true, bud := nn } p c { s with mt := .down (w0.heap.size + 1 + 1 + 1) nn } rfl rfl HA.out (((Chg.refl w1 (fun k => k = w0.heap.size)).then_set ⟨w0.heap.size, 4, none⟩ _ rfl).then_set ⟨w0.heap.size, 5, none⟩ _ rfl) HZ.out S1.out B1.out (.inl rfl) ⟨HI.out.M.B, HI.out.M.off, HI.out.M.wr, HI.out.M.left, .inr ⟨_, nn, rfl, rfl, by omega, by omega, by show nn = _; rw [if_pos (by omega)]⟩⟩ C1.out (fun j hj => .inr (by have : j = w0.heap.size + 1 + 1 + 1 := hj; omega)) (fun a1 ha1 hj => ?_) rfl
      rcases hj with hj | hj | hj
      · exact HI.out.A a1 ha1 (.inl hj)
      · exact HI.out.A a1 ha1 (.inr (.inl hj))
      · have hj : a1.block = w0.heap.size + 1 + 1 + 1 := hj
        obtain ⟨b', o', e', hc'⟩ := HI.out.B.cells HI.out.pos
        rw [ha1] at e'
        obtain rfl := Option.some.inj e'
        have hl' : b' < w0.heap.size := World.block_lt_of_cell? _ _ (hc' 0 HI.out.pos)
        simp only at hj
        omega
set_option maxHeartbeats 2000000 in
theorem do_load (hk : kd.tmod 9 = 8) (ys : List UInt8) (hy : ys.length = nb) (hb : Bin w0 bp bc ys) (ha : 0 < ys.length → Away (Nvb g q s.mt) bp) : Calls Try.prog 13 #[.pointer (some ⟨q, 0, none⟩), rmv x p c, opv kd ad nn bp nb bc] w0 (DoPost g q s p L x.B.length w0) := by
  subst hy
  have HI := Lib.hid hI
  have HB := Lib.hid hb
  have HA0 := Lib.hid ha
  have HLd : Hid (∀ W, Grew w0 W → Calls Try.prog 28 #[.pointer (some ⟨q, 0, none⟩), .slice bp ys.length bc] W fun e w' => e = .returned (.int .i64 (if ys.length = s.B.length then 0 else 1)) ∧ NvS w' g q (ldS s ys) ∧ Chg W w' (Nvb g q s.mt)) := Lib.hid fun W hg => load_any g q s bp ys.length bc ys W (hI.S.grew hg) rfl (hb.gr hg)
  have hmost := hI.most
  have hsl := hI.M.leS
  clear hI hb ha
  rw [hsl] at HLd
  by_cases he : ys.length = x.B.length
  · rw [if_pos he, ldS, if_pos (he.trans hsl.symm)] at HLd
    have hne : ((ys.length : Int) != (x.B.length : Int)) = false := by simp [he]
    have HE := Lib.hid he
    clear he hsl
    go_enter Try.func13, Try.ntmps13
    go_wp2_with (first
      | (go_at_call 28; (with_reducible refine (HLd.out _ ((((Grew.refl w0).al _).al _).al _)).mono ?_); rintro e w1 ⟨rfl, s1, c1⟩; have hA := (c1.block w0.heap.size (by rw [size3]; omega) (HI.out.notNew (Nat.le_refl _))).trans (heap_low w0 _ _ _); have hO := (c1.block (w0.heap.size + 1) (by rw [size3]; omega) (HI.out.notNew (by omega))).trans (heap_mid w0 _ _ _); have hZ := (c1.block (w0.heap.size + 1 + 1) (by rw [size3]; omega) (HI.out.notNew (by omega))).trans (heap_third w0 _ _ _); obtain ⟨o0, o1, o2, o3⟩ := box4 hO; obtain ⟨a0, a1, a2, a3, a4, a5, a6, af⟩ := box7 hA; obtain ⟨z0, z1, z2, z3, z4, z5, z6, zf⟩ := box7 hZ; have HA := Lib.hid hA; have HZ := Lib.hid hZ; have S1 := Lib.hid s1; have hsz := lt_of_heap hZ; have hsz1 := lt_of_heap hO; have hsz0 := lt_of_heap hA; have C1 := Lib.hid ((Chg.of_grew ((((Grew.refl w0).al _).al _).al _) _).trans c1); have Y1 : Hid (Bin w1 bp bc ys) := Lib.hid (by rcases Nat.eq_zero_or_pos ys.length with h | h; exact ⟨HB.out.cap, HB.out.max, HB.out.bare, fun h' => absurd h' (by omega)⟩; exact (HB.out.gr ((((Grew.refl w0).al _).al _).al _)).chg c1 (HA0.out h)); clear s1 c1 hA hZ hO)
      | (at_builtin; refine wpList_append_bytes rfl (.tmp 33) _ 29 rfl w1.heap.size 5 _ Try.underlying29 info_u8 rfl _ [] rfl (own_lit_at w1 _ _ rfl) bp ys.length bc ys rfl rfl (Y1.out.gr ((Grew.refl w1).al _)) (by have := HE.out; show 0 + ys.length ≤ _; omega) (by simp) ?_; intro pO cO us w2 hu ho1 hb1; obtain rfl : ys = us := (by simpa using hu.out.symm); have g2 : Grew w1 w2 := Below.trans ((Grew.refl w1).al _) hb1; have hA := Grew.heap g2 HA.out; have hZ := Grew.heap g2 HZ.out; obtain ⟨a0, a1, a2, a3, a4, a5, a6, af⟩ := box7 hA; obtain ⟨z0, z1, z2, z3, z4, z5, z6, zf⟩ := box7 hZ; have HA2 := Lib.hid hA; have HZ2 := Lib.hid hZ; have G2 := Lib.hid g2; have HO1 := Lib.hid ho1; clear hu ho1 hb1 g2 hA hZ))
    have Hpl : Hid (∀ ad, pO = some ad → w0.heap.size ≤ ad.block) := Lib.hid fun ad had => by
      have := (HO1.out.place ad had).1
      omega
    exact do_end2 g q s x p L w0 Try.results13 x p c { x with B := ys } pO cO { s with B := ys } rfl rfl HA2.out (Chg.set w2 ⟨w0.heap.size, 0, none⟩ _) HZ2.out (S1.out.grew G2.out) HO1.out.bin.2 (.inr Hpl.out) ⟨rfl, HI.out.M.off, HI.out.M.wr, HI.out.M.left, HI.out.M.mt.mono (by omega)⟩ (C1.out.trans (Chg.of_grew G2.out _)) (fun j hj => .inl hj) (fun ad had hj => by have h1 := Hpl.out ad had; have h2 := HI.out.S.blk_lt hj; omega) HE.out
  · rw [if_neg he, ldS, if_neg (fun h => he (h.trans hsl))] at HLd
    have hne : ((ys.length : Int) != (x.B.length : Int)) = true := by simp; omega
    clear he hsl
    go_enter Try.func13, Try.ntmps13
    go_wp2_with (go_at_call 28; (with_reducible refine (HLd.out _ ((((Grew.refl w0).al _).al _).al _)).mono ?_); rintro e w1 ⟨rfl, s1, c1⟩; have hA := (c1.block w0.heap.size (by rw [size3]; omega) (HI.out.notNew (Nat.le_refl _))).trans (heap_low w0 _ _ _); have hO := (c1.block (w0.heap.size + 1) (by rw [size3]; omega) (HI.out.notNew (by omega))).trans (heap_mid w0 _ _ _); have hZ := (c1.block (w0.heap.size + 1 + 1) (by rw [size3]; omega) (HI.out.notNew (by omega))).trans (heap_third w0 _ _ _); obtain ⟨o0, o1, o2, o3⟩ := box4 hO; obtain ⟨a0, a1, a2, a3, a4, a5, a6, af⟩ := box7 hA; obtain ⟨z0, z1, z2, z3, z4, z5, z6, zf⟩ := box7 hZ; have HA := Lib.hid hA; have HZ := Lib.hid hZ; have S1 := Lib.hid s1; have hsz := lt_of_heap hZ; have hsz1 := lt_of_heap hO; have hsz0 := lt_of_heap hA; have C1 := Lib.hid ((Chg.of_grew ((((Grew.refl w0).al _).al _).al _) _).trans c1); have B1 := Lib.hid ((HI.out.B.gr ((((Grew.refl w0).al _).al _).al _)).chg c1 HI.out.A); clear s1 c1 hA hZ hO)
    exact do_end g q s x p L w0 Try.results13 x p c s rfl rfl HZ.out S1.out B1.out (.inl rfl) (HI.out.M.mono (by omega)) C1.out (fun j hj => .inl hj) HI.out.A rfl
end
end Go.Proofs.Ytmfahmbebpojpaa
