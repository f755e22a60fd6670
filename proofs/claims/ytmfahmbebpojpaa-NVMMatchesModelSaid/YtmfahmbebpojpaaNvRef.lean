/-
  LAYER 7 (nvm): contracts of the reference: Valid, Write.
-/
import Derived.Test.YtmfahmbebpojpaaNvRefPlain
import Derived.Test.YtmfahmbebpojpaaNvMake
import Derived.Test.YtmfahmbebpojpaaCells
namespace Go.Proofs.Ytmfahmbebpojpaa
open Go Go.RowKit Go.IntWalk
set_option linter.unusedSimpArgs false
set_option maxRecDepth 8000

/-- The reference's memory as a value; its bytes lie at p. -/
abbrev rmv (x : RM) (p : Option Addr) (c : Nat) : Value := .agg #[.slice p x.B.length c, .bool x.off, .bool x.armed, .int .i64 x.left, .bool x.metered, .int .i64 x.bud, .int .i64 x.wr]
/-- Its cells. -/
abbrev rmc (x : RM) (p : Option Addr) (c : Nat) : Array Value := #[.slice p x.B.length c, .bool x.off, .bool x.armed, .int .i64 x.left, .bool x.metered, .int .i64 x.bud, .int .i64 x.wr]
theorem Grew.al {a w : World} (h : Grew a w) (o : Obj) : Grew a (w.alloc o) := Below.alloc h h.size o
theorem Grew.sc {a w : World} (h : Grew a w) {S : Nat} (hS : a.heap.size ≤ S) (k : Nat) (v : Value) : Grew a (w.setCell ⟨S, k, none⟩ v) := Below.setCell h (p := ⟨S, k, none⟩) hS _
theorem rvalid_any (x : RM) (p : Option Addr) (c : Nat) (a n : Int) (w : World) (hB : x.B.length ≤ 65536) (hn : n ≤ 9223372036854775807) :
    Calls Try.prog 36 #[rmv x p c, .int .i64 a, .int .i64 n] w fun e w' => e = .returned (.bool (validB x.B.length a n)) ∧ w' = w.alloc (.cells (rmc x p c) 31) := by
  unfold validB
  by_cases h1 : 0 ≤ a
  · by_cases h2 : 0 ≤ n
    · by_cases h3 : a ≤ (x.B.length : Int)
      · have hw : IntKind.i64.wrap ((x.B.length : Int) - a) = (x.B.length : Int) - a := IntWalk.i64_in _ (by omega)
        go_enter Try.func36, Try.ntmps36
        go_wp2
        go_ret
        refine ⟨?_, rfl⟩
        simp [h1, h2]
        omega
      · go_enter Try.func36, Try.ntmps36
        go_wp2
        go_ret
        refine ⟨?_, rfl⟩
        simp [h1, h2]
        omega
    · go_enter Try.func36, Try.ntmps36
      go_wp2
      go_ret
      refine ⟨?_, rfl⟩
      simp [h1, h2]
      intros
      omega
  · go_enter Try.func36, Try.ntmps36
    go_wp2
    go_ret
    refine ⟨?_, rfl⟩
    simp [h1]
    intros
    omega
theorem own_lit_at (w : World) (e : TypeId) (N : Nat) (hN : w.heap.size = N) : Own (w.alloc (.cells #[] e)) N e (.slice (some ⟨N, 0, none⟩) 0 0) [] := by
  subst hN
  exact Own.lit w [] 0 _ e #[] rfl rfl (by omega) (Nat.le_refl _)
theorem size3 (w : World) (a b c : Obj) : (((w.alloc a).alloc b).alloc c).heap.size = w.heap.size + 1 + 1 + 1 := by simp
theorem size4 (w : World) (a b c d : Obj) : w.heap.size + 1 + 1 + 1 ≤ ((((w.alloc a).alloc b).alloc c).alloc d).heap.size := by simp
/-- The slice has stayed, or it is new. -/
def Near (w : World) (p p' : Option Addr) : Prop := p' = p ∨ ∀ a, p' = some a → w.heap.size ≤ a.block
theorem Near.trans {w w1 : World} {p p1 p2 : Option Addr} (h : Near w p p1) (h2 : Near w1 p1 p2) (hs : w.heap.size ≤ w1.heap.size) : Near w p p2 := by
  rcases h2 with rfl | h2
  · exact h
  · exact .inr fun a ha => Nat.le_trans hs (h2 a ha)
theorem Away.near {S : Nat → Prop} {w : World} {p p' : Option Addr} (h : Away S p) (hn : Near w p p') (hS : ∀ k, S k → k < w.heap.size) : Away S p' := by
  rcases hn with rfl | hn
  · exact h
  · exact fun a ha hk => by have h1 := hn a ha; have h2 := hS _ hk; omega
theorem ret_rmb {fn : Func} {p q : Tmp} (h : fn.results = #[.cell p 31, .tmp q]) {tmps : Array Value} {w : World} {S : Nat} {x : RM} {pp : Option Addr} {c : Nat} {b : Bool} {R : Ending → World → Prop} (hp : tmps.getD p undef = .pointer (some ⟨S, 0, none⟩)) (hq : tmps.getD q undef = .bool b)
    (hb : w.heap[S]? = some (.cells (rmc x pp c) 31)) (hR : R (.returned (.tuple #[rmv x pp c, .bool b])) w) : bodyPost Try.prog fn R .ret { tmps := tmps, defers := [] } w := by
  have h0 : w.cell? ⟨S, 0, none⟩ = some (.slice pp x.B.length c) := by rw [cells_of_heap hb]; rfl
  have h1 : w.cell? ⟨S, 1, none⟩ = some (.bool x.off) := by rw [cells_of_heap hb]; rfl
  have h2 : w.cell? ⟨S, 2, none⟩ = some (.bool x.armed) := by rw [cells_of_heap hb]; rfl
  have h3 : w.cell? ⟨S, 3, none⟩ = some (.int .i64 x.left) := by rw [cells_of_heap hb]; rfl
  have h4 : w.cell? ⟨S, 4, none⟩ = some (.bool x.metered) := by rw [cells_of_heap hb]; rfl
  have h5 : w.cell? ⟨S, 5, none⟩ = some (.int .i64 x.bud) := by rw [cells_of_heap hb]; rfl
  have h6 : w.cell? ⟨S, 6, none⟩ = some (.int .i64 x.wr) := by rw [cells_of_heap hb]; rfl
  refine bodyPost_ret (v := .tuple #[rmv x pp c, .bool b]) ?_ rfl hR
  rw [Array.getD_eq_getD_getElem?] at hp hq
  simp [results, h, hp, hq, h0, h1, h2, h3, h4, h5, h6, go_sem]
theorem heap_mid (w : World) (a b c : Obj) : (((w.alloc a).alloc b).alloc c).heap[w.heap.size + 1]? = some b := by
  rw [heap_alloc_old _ _ (by simp)]
  have := heap_alloc_new (w.alloc a) b
  simpa using this
theorem heap_low (w : World) (a b c : Obj) : (((w.alloc a).alloc b).alloc c).heap[w.heap.size]? = some a := by
  rw [heap_alloc_old _ _ (by simp; omega), heap_alloc_old _ _ (by simp)]
  exact heap_alloc_new w a
theorem box7 {w : World} {b : Nat} {v0 v1 v2 v3 v4 v5 v6 : Value} {e : TypeId} (h : w.heap[b]? = some (.cells #[v0, v1, v2, v3, v4, v5, v6] e)) :
    w.cell? ⟨b, 0, none⟩ = some v0 ∧ w.cell? ⟨b, 1, none⟩ = some v1 ∧ w.cell? ⟨b, 2, none⟩ = some v2 ∧ w.cell? ⟨b, 3, none⟩ = some v3 ∧ w.cell? ⟨b, 4, none⟩ = some v4 ∧ w.cell? ⟨b, 5, none⟩ = some v5 ∧ w.cell? ⟨b, 6, none⟩ = some v6 ∧ ∀ i, w.frozen? ⟨b, i, none⟩ = false := by
  refine ⟨?_, ?_, ?_, ?_, ?_, ?_, ?_, fun i => free_of_heap h i⟩ <;> rw [cells_of_heap h] <;> rfl
theorem heap7 {w : World} {b : Nat} {z0 z1 z2 z3 z4 z5 z6 v0 v1 v2 v3 v4 v5 v6 : Value} {e : TypeId} (h : w.heap[b]? = some (.cells #[z0, z1, z2, z3, z4, z5, z6] e)) :
    (((((((w.setCell ⟨b, 0, none⟩ v0).setCell ⟨b, 1, none⟩ v1).setCell ⟨b, 2, none⟩ v2).setCell ⟨b, 3, none⟩ v3).setCell ⟨b, 4, none⟩ v4).setCell ⟨b, 5, none⟩ v5).setCell ⟨b, 6, none⟩ v6).heap[b]? = some (.cells #[v0, v1, v2, v3, v4, v5, v6] e) := by
  rw [heap_setCell_same (heap_setCell_same (heap_setCell_same (heap_setCell_same (heap_setCell_same (heap_setCell_same (heap_setCell_same h 0 v0) 1 v1) 2 v2) 3 v3) 4 v4) 5 v5) 6 v6]
  rfl
theorem heap_lows (w : World) (a b c d : Obj) (w1 : World) (h : Below (w.heap.size + 1 + 1 + 1) ((((w.alloc a).alloc b).alloc c).alloc d) w1) : w1.heap[w.heap.size]? = some a ∧ w1.heap[w.heap.size + 1]? = some b :=
  ⟨(h.block _ (by omega)).trans ((heap_alloc_old _ _ (by rw [size3]; omega)).trans (heap_low w a b c)), (h.block _ (by omega)).trans ((heap_alloc_old _ _ (by rw [size3]; omega)).trans (heap_mid w a b c))⟩
theorem grew_lows (w : World) (a b c d : Obj) (w1 : World) (h : Below (w.heap.size + 1 + 1 + 1) ((((w.alloc a).alloc b).alloc c).alloc d) w1) : Grew w w1 :=
  Below.trans (((((Grew.refl w).al a).al b).al c).al d) (h.mono (by omega))
set_option maxHeartbeats 2000000 in
theorem rwrite_any (x : RM) (p : Option Addr) (c : Nat) (a : Int) (y : UInt8) (w : World) (hB : x.B.length ≤ 65536) (hx : Bin w p c x.B) :
    Calls Try.prog 30 #[rmv x p c, .int .i64 a, .int .u8 (y.toNat : Int)] w fun e w' => ∃ p' c', e = .returned (.tuple #[rmv (rwr1 x a y).1 p' c', .bool (rwr1 x a y).2]) ∧ Bin w' p' c' (rwr1 x a y).1.B ∧ Near w p p' ∧ Grew w w' := by
  have HX := Lib.hid hx
  have HB := Lib.hid hB
  have HV : Hid (∀ W, Calls Try.prog 36 #[rmv x p c, .int .i64 a, .int .i64 1] W fun e w' => e = .returned (.bool (validB x.B.length a 1)) ∧ w' = W.alloc (.cells (rmc x p c) 31)) := Lib.hid fun W => rvalid_any x p c a 1 W hB (by omega)
  clear hx hB
  obtain ⟨B, off, armed, left, metered, bud, wr⟩ := x
  simp only at HV HX HB
  cases hv : validB B.length a 1 with
  | false =>
    have hr : rwr1 ⟨B, off, armed, left, metered, bud, wr⟩ a y = (⟨B, off, armed, left, metered, bud, wr⟩, false) := by simp [rwr1, hv]
    rw [hr]
    rw [hv] at HV
    go_enter Try.func30, Try.ntmps30
    go_wp2_with (go_at_call 36; (with_reducible refine (HV.out _).mono ?_); rintro e w1 ⟨rfl, rfl⟩)
    exact ret_rmb Try.results30 rfl rfl (x := ⟨B, off, armed, left, metered, bud, wr⟩) (pp := p) (c := c) (heap_mid _ _ _ _) ⟨p, c, rfl, HX.out.gr ((((Grew.refl w).al _).al _).al _), .inl rfl, (((Grew.refl w).al _).al _).al _⟩
  | true =>
    obtain ⟨ha0, -, ha1⟩ := validB_iff.1 hv
    cases off with
    | true =>
      have hr : rwr1 ⟨B, true, armed, left, metered, bud, wr⟩ a y = (⟨B, true, armed, left, metered, bud, wr⟩, false) := by simp [rwr1, hv]
      rw [hr]
      rw [hv] at HV
      go_enter Try.func30, Try.ntmps30
      go_wp2_with (go_at_call 36; (with_reducible refine (HV.out _).mono ?_); rintro e w1 ⟨rfl, rfl⟩)
      exact ret_rmb Try.results30 rfl rfl (x := ⟨B, true, armed, left, metered, bud, wr⟩) (pp := p) (c := c) (heap_mid _ _ _ _) ⟨p, c, rfl, HX.out.gr ((((Grew.refl w).al _).al _).al _), .inl rfl, (((Grew.refl w).al _).al _).al _⟩
    | false =>
      cases armed with
      | true =>
        by_cases hz : left = 0
        · subst hz
          have hr : rwr1 ⟨B, false, true, 0, metered, bud, wr⟩ a y = (⟨B, true, true, 0, metered, bud, wr⟩, false) := by simp [rwr1, hv]
          rw [hr]
          rw [hv] at HV
          go_enter Try.func30, Try.ntmps30
          go_wp2_with (go_at_call 36; (with_reducible refine (HV.out _).mono ?_); rintro e w1 ⟨rfl, rfl⟩)
          exact ret_rmb Try.results30 rfl rfl (x := ⟨B, true, true, 0, metered, bud, wr⟩) (pp := p) (c := c) (heap_mid _ _ _ _) ⟨p, c, rfl, HX.out.gr ((((Grew.refl w).al _).al _).al _), .inl rfl, (((Grew.refl w).al _).al _).al _⟩
        · cases metered with
          | true =>
            by_cases hb : bud ≤ 0
            · have hz' : (left == 0) = false := by simp [hz]
              have hr : rwr1 ⟨B, false, true, left, true, bud, wr⟩ a y = (⟨B, true, true, left, true, bud, wr⟩, false) := by simp [rwr1, hv, hz, hb]
              rw [hr]
              rw [hv] at HV
              go_enter Try.func30, Try.ntmps30
              go_wp2_with (go_at_call 36; (with_reducible refine (HV.out _).mono ?_); rintro e w1 ⟨rfl, rfl⟩)
              exact ret_rmb Try.results30 rfl rfl (x := ⟨B, true, true, left, true, bud, wr⟩) (pp := p) (c := c) (heap_mid _ _ _ _) ⟨p, c, rfl, HX.out.gr ((((Grew.refl w).al _).al _).al _), .inl rfl, (((Grew.refl w).al _).al _).al _⟩
            · have hz' : (left == 0) = false := by simp [hz]
              have hr : rwr1 ⟨B, false, true, left, true, bud, wr⟩ a y = (⟨B.set a.toNat y, false, true, wrap64 (left - 1), true, wrap64 (bud - 1), wrap64 (wr + 1)⟩, true) := by simp [rwr1, hv, hz, hb]
              rw [hr]
              rw [hv] at HV
              have hlen := HB.out
              obtain ⟨k, rfl⟩ : ∃ k : Nat, a = (k : Int) := ⟨a.toNat, by omega⟩
              have hk : k < B.length := by omega
              rw [Int.toNat_natCast] at hr ⊢
              go_enter Try.func30, Try.ntmps30
              go_wp2_with (first
                | (go_at_call 36; (with_reducible refine (HV.out _).mono ?_); rintro e w1 ⟨rfl, rfl⟩)
                | (at_builtin; refine wpList_append_bytes rfl (.tmp 44) _ 29 rfl (w.heap.size + 1 + 1 + 1) 5 _ Try.underlying29 info_u8 rfl _ [] rfl (own_lit_at _ _ _ (size3 w _ _ _)) _ _ c B rfl rfl (HX.out.gr (((((Grew.refl w).al _).al _).al _).al _)) (by show 0 + B.length ≤ _; omega) (size4 w _ _ _ _) ?_; intro pO cO us w2 hu ho1 hb1; obtain rfl : B = us := (by simpa using hu.out.symm); obtain ⟨gN, rfl, hgN, -⟩ := ho1.at (by omega); obtain ⟨hA, hZ⟩ := heap_lows w _ _ _ _ _ hb1; have HO := Lib.hid ho1; have hc : w2.cell? ⟨gN, k, none⟩ = some (.int .u8 ((B.getD k 0).toNat : Int)) := (by have := ho1.bin.2.cell k hk; rwa [Nat.zero_add] at this); have hf := (ho1.free k).2; obtain ⟨a0, a1, a2, a3, a4, a5, a6, af⟩ := box7 hA; obtain ⟨z0, z1, z2, z3, z4, z5, z6, zf⟩ := box7 hZ; have hn0 : gN ≠ w.heap.size := (fun e => by omega); have hn0' := Ne.symm hn0; have hn1 : gN ≠ w.heap.size + 1 := (fun e => by omega); have hn1' := Ne.symm hn1; have HA := Lib.hid hA; have HZ := Lib.hid hZ; have HG := Lib.hid (grew_lows w _ _ _ _ _ hb1); have HgN := Lib.hid (show w.heap.size ≤ gN by omega); clear hu ho1 hb1 hA hZ hgN))
              refine ret_rmb Try.results30 rfl rfl (x := ⟨B.set k y, false, true, wrap64 (left - 1), true, wrap64 (bud - 1), wrap64 (wr + 1)⟩) (pp := some ⟨gN, 0, none⟩) (c := cO) (b := true) ?_ ⟨_, _, rfl, ?_, .inr fun ad had => ?_, (((((((((HG.out.sc HgN.out _ _).sc (Nat.le_refl _) _ _).sc (Nat.le_refl _) _ _).sc (Nat.le_succ _) _ _).sc (Nat.le_succ _) _ _).sc (Nat.le_succ _) _ _).sc (Nat.le_succ _) _ _).sc (Nat.le_succ _) _ _).sc (Nat.le_succ _) _ _).sc (Nat.le_succ _) _ _⟩
              · simp only [rmc, List.length_set]
                exact heap7 ((heap_setCell_other _ _ _ _ (by simp)).trans ((heap_setCell_other _ _ _ _ (by simp)).trans ((heap_setCell_other _ _ _ _ hn1').trans HZ.out)))
              · exact (HO.out.set k y).bin.2.chg (S := fun j => j = w.heap.size ∨ j = w.heap.size + 1) ((((((((((Chg.refl _ _).then_set _ _ (.inl rfl)).then_set _ _ (.inl rfl)).then_set _ _ (.inr rfl)).then_set _ _ (.inr rfl)).then_set _ _ (.inr rfl)).then_set _ _ (.inr rfl)).then_set _ _ (.inr rfl)).then_set _ _ (.inr rfl)).then_set _ _ (.inr rfl)) (fun ad had hj => by obtain rfl := Option.some.inj had; rcases hj with hj | hj; exact hn0 hj; exact hn1 hj)
              · obtain rfl := Option.some.inj had
                exact HgN.out
          | false =>
            have hz' : (left == 0) = false := by simp [hz]
            have hr : rwr1 ⟨B, false, true, left, false, bud, wr⟩ a y = (⟨B.set a.toNat y, false, true, wrap64 (left - 1), false, bud, wrap64 (wr + 1)⟩, true) := by simp [rwr1, hv, hz]
            rw [hr]
            rw [hv] at HV
            have hlen := HB.out
            obtain ⟨k, rfl⟩ : ∃ k : Nat, a = (k : Int) := ⟨a.toNat, by omega⟩
            have hk : k < B.length := by omega
            rw [Int.toNat_natCast] at hr ⊢
            go_enter Try.func30, Try.ntmps30
            go_wp2_with (first
              | (go_at_call 36; (with_reducible refine (HV.out _).mono ?_); rintro e w1 ⟨rfl, rfl⟩)
              | (at_builtin; refine wpList_append_bytes rfl (.tmp 44) _ 29 rfl (w.heap.size + 1 + 1 + 1) 5 _ Try.underlying29 info_u8 rfl _ [] rfl (own_lit_at _ _ _ (size3 w _ _ _)) _ _ c B rfl rfl (HX.out.gr (((((Grew.refl w).al _).al _).al _).al _)) (by show 0 + B.length ≤ _; omega) (size4 w _ _ _ _) ?_; intro pO cO us w2 hu ho1 hb1; obtain rfl : B = us := (by simpa using hu.out.symm); obtain ⟨gN, rfl, hgN, -⟩ := ho1.at (by omega); obtain ⟨hA, hZ⟩ := heap_lows w _ _ _ _ _ hb1; have HO := Lib.hid ho1; have hc : w2.cell? ⟨gN, k, none⟩ = some (.int .u8 ((B.getD k 0).toNat : Int)) := (by have := ho1.bin.2.cell k hk; rwa [Nat.zero_add] at this); have hf := (ho1.free k).2; obtain ⟨a0, a1, a2, a3, a4, a5, a6, af⟩ := box7 hA; obtain ⟨z0, z1, z2, z3, z4, z5, z6, zf⟩ := box7 hZ; have hn0 : gN ≠ w.heap.size := (fun e => by omega); have hn0' := Ne.symm hn0; have hn1 : gN ≠ w.heap.size + 1 := (fun e => by omega); have hn1' := Ne.symm hn1; have HA := Lib.hid hA; have HZ := Lib.hid hZ; have HG := Lib.hid (grew_lows w _ _ _ _ _ hb1); have HgN := Lib.hid (show w.heap.size ≤ gN by omega); clear hu ho1 hb1 hA hZ hgN))
            refine ret_rmb Try.results30 rfl rfl (x := ⟨B.set k y, false, true, wrap64 (left - 1), false, bud, wrap64 (wr + 1)⟩) (pp := some ⟨gN, 0, none⟩) (c := cO) (b := true) ?_ ⟨_, _, rfl, ?_, .inr fun ad had => ?_, (((((((((HG.out.sc HgN.out _ _).sc (Nat.le_refl _) _ _).sc (Nat.le_refl _) _ _).sc (Nat.le_succ _) _ _).sc (Nat.le_succ _) _ _).sc (Nat.le_succ _) _ _).sc (Nat.le_succ _) _ _).sc (Nat.le_succ _) _ _).sc (Nat.le_succ _) _ _).sc (Nat.le_succ _) _ _⟩
            · simp only [rmc, List.length_set]
              exact heap7 ((heap_setCell_other _ _ _ _ (by simp)).trans ((heap_setCell_other _ _ _ _ (by simp)).trans ((heap_setCell_other _ _ _ _ hn1').trans HZ.out)))
            · exact (HO.out.set k y).bin.2.chg (S := fun j => j = w.heap.size ∨ j = w.heap.size + 1) ((((((((((Chg.refl _ _).then_set _ _ (.inl rfl)).then_set _ _ (.inl rfl)).then_set _ _ (.inr rfl)).then_set _ _ (.inr rfl)).then_set _ _ (.inr rfl)).then_set _ _ (.inr rfl)).then_set _ _ (.inr rfl)).then_set _ _ (.inr rfl)).then_set _ _ (.inr rfl)) (fun ad had hj => by obtain rfl := Option.some.inj had; rcases hj with hj | hj; exact hn0 hj; exact hn1 hj)
            · obtain rfl := Option.some.inj had
              exact HgN.out
      | false =>
        cases metered with
        | true =>
          by_cases hb : bud ≤ 0
          ·
            have hr : rwr1 ⟨B, false, false, left, true, bud, wr⟩ a y = (⟨B, true, false, left, true, bud, wr⟩, false) := by simp [rwr1, hv, hb]
            rw [hr]
            rw [hv] at HV
            go_enter Try.func30, Try.ntmps30
            go_wp2_with (go_at_call 36; (with_reducible refine (HV.out _).mono ?_); rintro e w1 ⟨rfl, rfl⟩)
            exact ret_rmb Try.results30 rfl rfl (x := ⟨B, true, false, left, true, bud, wr⟩) (pp := p) (c := c) (heap_mid _ _ _ _) ⟨p, c, rfl, HX.out.gr ((((Grew.refl w).al _).al _).al _), .inl rfl, (((Grew.refl w).al _).al _).al _⟩
          ·
            have hr : rwr1 ⟨B, false, false, left, true, bud, wr⟩ a y = (⟨B.set a.toNat y, false, false, left, true, wrap64 (bud - 1), wrap64 (wr + 1)⟩, true) := by simp [rwr1, hv, hb]
            rw [hr]
            rw [hv] at HV
            have hlen := HB.out
            obtain ⟨k, rfl⟩ : ∃ k : Nat, a = (k : Int) := ⟨a.toNat, by omega⟩
            have hk : k < B.length := by omega
            rw [Int.toNat_natCast] at hr ⊢
            go_enter Try.func30, Try.ntmps30
            go_wp2_with (first
              | (go_at_call 36; (with_reducible refine (HV.out _).mono ?_); rintro e w1 ⟨rfl, rfl⟩)
              | (at_builtin; refine wpList_append_bytes rfl (.tmp 44) _ 29 rfl (w.heap.size + 1 + 1 + 1) 5 _ Try.underlying29 info_u8 rfl _ [] rfl (own_lit_at _ _ _ (size3 w _ _ _)) _ _ c B rfl rfl (HX.out.gr (((((Grew.refl w).al _).al _).al _).al _)) (by show 0 + B.length ≤ _; omega) (size4 w _ _ _ _) ?_; intro pO cO us w2 hu ho1 hb1; obtain rfl : B = us := (by simpa using hu.out.symm); obtain ⟨gN, rfl, hgN, -⟩ := ho1.at (by omega); obtain ⟨hA, hZ⟩ := heap_lows w _ _ _ _ _ hb1; have HO := Lib.hid ho1; have hc : w2.cell? ⟨gN, k, none⟩ = some (.int .u8 ((B.getD k 0).toNat : Int)) := (by have := ho1.bin.2.cell k hk; rwa [Nat.zero_add] at this); have hf := (ho1.free k).2; obtain ⟨a0, a1, a2, a3, a4, a5, a6, af⟩ := box7 hA; obtain ⟨z0, z1, z2, z3, z4, z5, z6, zf⟩ := box7 hZ; have hn0 : gN ≠ w.heap.size := (fun e => by omega); have hn0' := Ne.symm hn0; have hn1 : gN ≠ w.heap.size + 1 := (fun e => by omega); have hn1' := Ne.symm hn1; have HA := Lib.hid hA; have HZ := Lib.hid hZ; have HG := Lib.hid (grew_lows w _ _ _ _ _ hb1); have HgN := Lib.hid (show w.heap.size ≤ gN by omega); clear hu ho1 hb1 hA hZ hgN))
            refine ret_rmb Try.results30 rfl rfl (x := ⟨B.set k y, false, false, left, true, wrap64 (bud - 1), wrap64 (wr + 1)⟩) (pp := some ⟨gN, 0, none⟩) (c := cO) (b := true) ?_ ⟨_, _, rfl, ?_, .inr fun ad had => ?_, (((((((((HG.out.sc HgN.out _ _).sc (Nat.le_refl _) _ _).sc (Nat.le_refl _) _ _).sc (Nat.le_succ _) _ _).sc (Nat.le_succ _) _ _).sc (Nat.le_succ _) _ _).sc (Nat.le_succ _) _ _).sc (Nat.le_succ _) _ _).sc (Nat.le_succ _) _ _).sc (Nat.le_succ _) _ _⟩
            · simp only [rmc, List.length_set]
              exact heap7 ((heap_setCell_other _ _ _ _ (by simp)).trans ((heap_setCell_other _ _ _ _ (by simp)).trans ((heap_setCell_other _ _ _ _ hn1').trans HZ.out)))
            · exact (HO.out.set k y).bin.2.chg (S := fun j => j = w.heap.size ∨ j = w.heap.size + 1) ((((((((((Chg.refl _ _).then_set _ _ (.inl rfl)).then_set _ _ (.inl rfl)).then_set _ _ (.inr rfl)).then_set _ _ (.inr rfl)).then_set _ _ (.inr rfl)).then_set _ _ (.inr rfl)).then_set _ _ (.inr rfl)).then_set _ _ (.inr rfl)).then_set _ _ (.inr rfl)) (fun ad had hj => by obtain rfl := Option.some.inj had; rcases hj with hj | hj; exact hn0 hj; exact hn1 hj)
            · obtain rfl := Option.some.inj had
              exact HgN.out
        | false =>
          have hr : rwr1 ⟨B, false, false, left, false, bud, wr⟩ a y = (⟨B.set a.toNat y, false, false, left, false, bud, wrap64 (wr + 1)⟩, true) := by simp [rwr1, hv]
          rw [hr]
          rw [hv] at HV
          have hlen := HB.out
          obtain ⟨k, rfl⟩ : ∃ k : Nat, a = (k : Int) := ⟨a.toNat, by omega⟩
          have hk : k < B.length := by omega
          rw [Int.toNat_natCast] at hr ⊢
          go_enter Try.func30, Try.ntmps30
          go_wp2_with (first
            | (go_at_call 36; (with_reducible refine (HV.out _).mono ?_); rintro e w1 ⟨rfl, rfl⟩)
            | (at_builtin; refine wpList_append_bytes rfl (.tmp 44) _ 29 rfl (w.heap.size + 1 + 1 + 1) 5 _ Try.underlying29 info_u8 rfl _ [] rfl (own_lit_at _ _ _ (size3 w _ _ _)) _ _ c B rfl rfl (HX.out.gr (((((Grew.refl w).al _).al _).al _).al _)) (by show 0 + B.length ≤ _; omega) (size4 w _ _ _ _) ?_; intro pO cO us w2 hu ho1 hb1; obtain rfl : B = us := (by simpa using hu.out.symm); obtain ⟨gN, rfl, hgN, -⟩ := ho1.at (by omega); obtain ⟨hA, hZ⟩ := heap_lows w _ _ _ _ _ hb1; have HO := Lib.hid ho1; have hc : w2.cell? ⟨gN, k, none⟩ = some (.int .u8 ((B.getD k 0).toNat : Int)) := (by have := ho1.bin.2.cell k hk; rwa [Nat.zero_add] at this); have hf := (ho1.free k).2; obtain ⟨a0, a1, a2, a3, a4, a5, a6, af⟩ := box7 hA; obtain ⟨z0, z1, z2, z3, z4, z5, z6, zf⟩ := box7 hZ; have hn0 : gN ≠ w.heap.size := (fun e => by omega); have hn0' := Ne.symm hn0; have hn1 : gN ≠ w.heap.size + 1 := (fun e => by omega); have hn1' := Ne.symm hn1; have HA := Lib.hid hA; have HZ := Lib.hid hZ; have HG := Lib.hid (grew_lows w _ _ _ _ _ hb1); have HgN := Lib.hid (show w.heap.size ≤ gN by omega); clear hu ho1 hb1 hA hZ hgN))
          refine ret_rmb Try.results30 rfl rfl (x := ⟨B.set k y, false, false, left, false, bud, wrap64 (wr + 1)⟩) (pp := some ⟨gN, 0, none⟩) (c := cO) (b := true) ?_ ⟨_, _, rfl, ?_, .inr fun ad had => ?_, (((((((((HG.out.sc HgN.out _ _).sc (Nat.le_refl _) _ _).sc (Nat.le_refl _) _ _).sc (Nat.le_succ _) _ _).sc (Nat.le_succ _) _ _).sc (Nat.le_succ _) _ _).sc (Nat.le_succ _) _ _).sc (Nat.le_succ _) _ _).sc (Nat.le_succ _) _ _).sc (Nat.le_succ _) _ _⟩
          · simp only [rmc, List.length_set]
            exact heap7 ((heap_setCell_other _ _ _ _ (by simp)).trans ((heap_setCell_other _ _ _ _ (by simp)).trans ((heap_setCell_other _ _ _ _ hn1').trans HZ.out)))
          · exact (HO.out.set k y).bin.2.chg (S := fun j => j = w.heap.size ∨ j = w.heap.size + 1) ((((((((((Chg.refl _ _).then_set _ _ (.inl rfl)).then_set _ _ (.inl rfl)).then_set _ _ (.inr rfl)).then_set _ _ (.inr rfl)).then_set _ _ (.inr rfl)).then_set _ _ (.inr rfl)).then_set _ _ (.inr rfl)).then_set _ _ (.inr rfl)).then_set _ _ (.inr rfl)) (fun ad had hj => by obtain rfl := Option.some.inj had; rcases hj with hj | hj; exact hn0 hj; exact hn1 hj)
          · obtain rfl := Option.some.inj had
            exact HgN.out
end Go.Proofs.Ytmfahmbebpojpaa
