/-
  LAYER 7 (nvm): the statements' NoAliasing.
-/
import Derived.Test.YtmfahmbebpojpaaNvLaw2
namespace Go.Proofs.Ytmfahmbebpojpaa
open Go Go.RowKit Go.IntWalk
set_option linter.unusedSimpArgs false
set_option maxRecDepth 8000

theorem NvS.other {w w' : World} {g q k : Nat} {s : NV} (h : NvS w g q s) (hm : s.mt = .no) (hc : Chg w w' (fun j => j = k)) (hg : g ≠ k) (hq : q ≠ k) : NvS w' g q s :=
  ⟨(hc.block q h.lt.2 hq).trans h.record, (hc.block g h.lt.1 hg).trans h.row, by rw [hm]; trivial, h.most⟩
/-- The block of a slice of the call's own. -/
theorem Own.blk {w : World} {base g n c : Nat} {e : TypeId} {xs : List UInt8} (h : Own w base e (.slice (some ⟨g, 0, none⟩) n c) xs) (hn : 0 < n) : ∃ cur x, w.heap[g]? = some (.cells cur e) ∧ cur[0]? = some (.int .u8 x) := by
  have h1 := h.bin
  rcases h.2 with ⟨hv, _⟩ | ⟨g', cap, cur, hv, hb, hg, hc, hm, hs, ht⟩
  · simp at hv
  · simp only [Value.slice.injEq, Option.some.injEq, Addr.mk.injEq, and_true, true_and] at hv
    obtain ⟨rfl, h2, h3⟩ := hv
    have hx := h1.2.cell 0 (by omega)
    rw [cells_of_heap hg] at hx
    exact ⟨cur, _, hg, by simpa using hx⟩
theorem wp_at {P : Program} {c : Code} {Q : Exit → Act → World → Prop} {a : Act} {w : World} (F : World → Prop) (hF : F w) (h : ∀ W, F W → c.wp P Q a W) : c.wp P Q a w := h w hF
set_option maxHeartbeats 4000000 in
theorem alias_law (p : Option Addr) (n c : Nat) (xs : List UInt8) (w0 : World) (hl : xs.length = n) (hx : Bin w0 p c xs) :
    Calls Try.prog 8 #[.slice p n c] w0 fun e w' => e = .returned (.bool true) ∧ Below w0.heap.size w0 w' := by
  have HX := Lib.hid hx
  have HL := Lib.hid hl
  clear hx hl
  by_cases hn1 : (64 : Int) < (n : Int)
  · go_enter Try.func8, Try.ntmps8
    go_wp2_with (go_at_call 9; (with_reducible refine (wakes_any _).mono ?_); rintro e w1 ⟨rfl, g0⟩)
    go_ret
    exact ⟨rfl, g0⟩
  by_cases hn0 : n = 0
  · subst hn0
    go_enter Try.func8, Try.ntmps8
    go_wp2_with (go_at_call 9; (with_reducible refine (wakes_any _).mono ?_); rintro e w1 ⟨rfl, g0⟩)
    go_ret
    exact ⟨rfl, g0⟩
  have hnz : ((n : Int) == 0) = false := by simp; omega
  have hn2 : n ≤ 64 := by omega
  have hn3 : 0 < n := by omega
  have HNew : Hid (∀ W : World, Calls Try.prog 11 #[.int .i64 n] W fun e w' => ∃ g q, e = .returned (.tuple #[.pointer (some ⟨q, 0, none⟩), .int .i64 0]) ∧ NvS w' g q (nv0 n) ∧ Grew W w' ∧ W.heap.size ≤ g ∧ W.heap.size ≤ q) := Lib.hid fun W => by
    have := new_any n W (by omega)
    rwa [Int.toNat_natCast] at this
  have hlen : xs.length = (nv0 n).B.length := by rw [HL.out]; simp [nv0]
  have HLd : Hid (∀ (g q : Nat) (p : Option Addr) (c : Nat) (W : World), NvS W g q (nv0 n) → Bin W p c xs → Calls Try.prog 28 #[.pointer (some ⟨q, 0, none⟩), .slice p n c] W fun e w' => e = .returned (.int .i64 0) ∧ NvS w' g q { nv0 n with B := xs } ∧ Chg W w' (Nvb g q .no)) := Lib.hid fun g q p c W h hb => by
    have := load_any g q _ p n c xs W h HL.out hb
    rwa [if_pos hlen, ldS, if_pos hlen] at this
  have HRD : Hid (∀ (g q : Nat) (W : World), NvS W g q { nv0 n with B := xs } → Calls Try.prog 21 #[.pointer (some ⟨q, 0, none⟩), .int .i64 0, .int .i64 n] W fun e w' => ∃ p1 c1, e = .returned (.slice p1 n c1) ∧ Own w' W.heap.size 5 (.slice p1 n c1) xs ∧ Grew W w') := Lib.hid fun g q W h => by
    have hl2 : ({ nv0 n with B := xs } : NV).B.length = n := HL.out
    have := readBytes_any g q _ 0 n W h (by omega)
    have e := rds_all { nv0 n with B := xs } rfl
    rw [hl2] at e
    rw [e] at this
    have hl3 : ({ nv0 n with B := xs } : NV).B = xs := rfl
    rw [hl3, HL.out] at this
    exact this
  have HIm : Hid (∀ (g q : Nat) (W : World), NvS W g q { nv0 n with B := xs } → Calls Try.prog 29 #[.pointer (some ⟨q, 0, none⟩)] W fun e w' => ∃ p1 c1, e = .returned (.slice p1 n c1) ∧ Own w' W.heap.size 5 (.slice p1 n c1) xs ∧ Grew W w') := Lib.hid fun g q W h => by
    have := image_any g q _ W h
    have hl3 : ({ nv0 n with B := xs } : NV).B = xs := rfl
    rw [hl3, HL.out] at this
    exact this
  have HIm2 : Hid (∀ (g q : Nat) (W : World), NvS W g q { nv0 n with B := xs } → Calls Try.prog 29 #[.pointer (some ⟨q, 0, none⟩)] W fun e w' => ∃ v, e = .returned v ∧ (Grew W w' ∧ IsB xs v w')) := Lib.hid fun g q W h => by
    refine (HIm.out g q W h).mono ?_
    rintro e w1 ⟨p1, c1, rfl, h1, h2⟩
    exact ⟨_, rfl, h2, p1, c1, by rw [HL.out], h1.bin.2⟩
  clear hlen hn0
  go_enter Try.func8, Try.ntmps8
  go_wp2_with (first
    | (go_at_call 9; (with_reducible refine (wakes_any _).mono ?_); rintro e w1 ⟨rfl, g0⟩; have HB0 := Lib.hid g0; clear g0)
    | (go_at_call 11; (with_reducible refine (HNew.out _).mono ?_); rintro e w1 ⟨g, q, rfl, s1, g1, hg, hq⟩; have HS := Lib.hid s1; have HB := Lib.hid (Grew.trans HB0.out g1); have HN := Lib.hid (nvb_new (Nat.le_trans (Below.size HB0.out) hg) (Nat.le_trans (Below.size HB0.out) hq)); clear s1 g1 hg hq HNew HB0)
    | (at_builtin; refine wpList_append_bytes rfl (.tmp 30) _ 29 rfl w1.heap.size 5 _ Try.underlying29 info_u8 rfl _ [] rfl (Own.lit w1 [] 0 _ _ _ rfl rfl (by omega) (Nat.le_refl _)) _ _ c xs rfl HL.out ((HX.out.gr HB.out).kept ((Below.refl _ _).alloc (Nat.le_refl _) _)) (by rw [HL.out]; show 0 + n ≤ _; omega) (size_alloc_le _ (Nat.le_refl _)) ?_; intro pO cO us w2 hu ho1 hb1; obtain rfl : xs = us := (by simpa using hu.out.symm); rw [HL.out] at ho1 ⊢; obtain ⟨gO, rfl, hgO, -⟩ := ho1.at hn3; obtain ⟨cO', zO, hOb, hOz⟩ := ho1.blk hn3; have hgg : gO ≠ g := (fun e => by have := HS.out.lt.1; omega); have hgq : gO ≠ q := (fun e => by have := HS.out.lt.2; omega); have hgN : w0.heap.size ≤ gO := Nat.le_trans (Below.size HB.out) hgO; have HG := Lib.hid (((Below.refl _ w1).alloc (Nat.le_refl _) _).trans hb1); replace HB := Lib.hid (Grew.trans HB.out HG.out); replace HS := Lib.hid (HS.out.grew HG.out); have HO := Lib.hid ho1.bin.2; clear hu ho1 hb1 HG hgO)
    | (go_at_call 28; (with_reducible refine (HLd.out g q _ _ _ HS.out HO.out).mono ?_); rintro e w3 ⟨rfl, s1, c1⟩; replace hOb := (c1.block gO (lt_of_heap hOb) (fun hk => by rcases hk with hk | hk | hk; exact hgg hk; exact hgq hk; exact hk)).trans hOb; have hO0 : w3.cell? ⟨gO, 0, none⟩ = some (.int .u8 zO) := (cells_of_heap hOb 0).trans hOz; have hOf := free_of_heap hOb 0; replace HB := Lib.hid (grew_lift HB.out c1 HN.out); replace HS := Lib.hid s1; clear s1 c1 HLd hOb hOz HO)
    | (go_at_call 29; (with_reducible refine (HIm.out g q _ (HS.out.other rfl (Chg.set _ _ _) (Ne.symm hgg) (Ne.symm hgq))).mono ?_); rintro e w4 ⟨p4, c4, rfl, o4, g4⟩; have hlt := HS.out.lt; have hB3 := Below.size HB.out; replace HB := Lib.hid (Grew.trans (Below.setCell HB.out (p := ⟨gO, 0, none⟩) hgN _) g4); replace HS := Lib.hid ((HS.out.other rfl (Chg.set _ ⟨gO, 0, none⟩ _) (Ne.symm hgg) (Ne.symm hgq)).grew g4); obtain ⟨gx, rfl, hgx, hgx2⟩ := o4.at hn3; obtain ⟨cx, zx, hxb, hxz⟩ := o4.blk hn3; have hxg : gx ≠ g := (fun e => by simp at hgx; omega); have hxq : gx ≠ q := (fun e => by simp at hgx; omega); have hxN : w0.heap.size ≤ gx := (by simp at hgx; omega); clear o4 g4 hO0 hOf hgx hlt hB3)
    | (go_at_call 21; (with_reducible refine (HRD.out g q _ HS.out).mono ?_); rintro e w5 ⟨p5, c5, rfl, o5, g5⟩; have hBw4 := HB.out; replace HB := Lib.hid (Grew.trans HB.out g5); obtain ⟨gy, rfl, hgy, hgy2⟩ := o5.at hn3; obtain ⟨cy, zy, hyb, hyz⟩ := o5.blk hn3; have hlt := HS.out.lt; have hyN : w0.heap.size ≤ gy := (by have := Below.size hBw4; omega); have hyg : gy ≠ g := (fun e => by omega); have hyq : gy ≠ q := (fun e => by omega); have hxy : gx ≠ gy := (fun e => by omega); have hyx := Ne.symm hxy; replace hxb := Grew.heap g5 hxb; have hx0 : w5.cell? ⟨gx, 0, none⟩ = some (.int .u8 zx) := (cells_of_heap hxb 0).trans hxz; have hxf := free_of_heap hxb 0; have hy0 : w5.cell? ⟨gy, 0, none⟩ = some (.int .u8 zy) := (cells_of_heap hyb 0).trans hyz; have hyf := free_of_heap hyb 0; replace HS := Lib.hid (HS.out.grew g5); clear g5 o5 hxb hxz hyb hyz hlt hBw4))
  refine wp_at (fun W => NvS W g q { nv0 n with B := xs } ∧ Grew w0 W) ⟨?_, ?_⟩ ?_
  · exact (HS.out.other rfl (Chg.set _ ⟨gx, 0, none⟩ _) (Ne.symm hxg) (Ne.symm hxq)).other rfl (Chg.set _ ⟨gy, 0, none⟩ _) (Ne.symm hyg) (Ne.symm hyq)
  · exact Below.setCell (Below.setCell HB.out (p := ⟨gx, 0, none⟩) hxN _) (p := ⟨gy, 0, none⟩) hyN _
  intro W hW
  replace HIm2 : Hid (∀ w, Grew W.drew w → _) := Lib.hid fun w hg => HIm2.out g q w (hW.1.grew (Grew.trans (Grew.drew W) hg))
  replace HB := Lib.hid (Grew.trans hW.2 (Grew.drew W))
  refine wp_posts [some 69, some 70, some 71, some 72, some 73, some 74, some 2] [false, false, true, false, false, false, false, false, false, false, false, false, false, false, false, false, false, false, false, false, false, false, false, false, false, false, false, false, false, false, false, false, false, false, false, false, false, false, false, false, false, false, false, false, false, false, false, false, false, false, false, false, false, false, false, false, false, false, false, false, false, false, false, false, false, false, false, false, false, true, true, true, true, true, true] [fun v _ => v = .pointer (some ⟨q, 0, none⟩), fun v w => IsB xs v w, fun v _ => v = .string ⟨xs.toArray⟩, fun v _ => v = .slice p n c, fun v _ => v = .string ⟨xs.toArray⟩, fun v _ => v = .bool true, fun v _ => v = .bool true] (by kernel_rfl) (by kernel_rfl) rfl ?_ ⟨?_, ?_, ?_, ?_, ?_, ?_, ?_, trivial⟩ ?_
  · exact ⟨fun _ _ _ _ h => h, IsB.grew, fun _ _ _ _ h => h, fun _ _ _ _ h => h, fun _ _ _ _ h => h, fun _ _ _ _ h => h, fun _ _ _ _ h => h, trivial⟩
  · intro u w hR hd; exact runs_move ⟨Grew.refl _, rfl⟩
  · intro u w hR hd; exact runs_c1 enters_image (ev (hd.1 rfl)) (HIm2.out w hR)
  · intro u w hR hd; exact (by obtain ⟨p1, c1, e1, b1⟩ := (hd.1 rfl); exact runs_convb (ev e1) rfl b1 ⟨Grew.refl _, rfl⟩)
  · intro u w hR hd; exact runs_move ⟨Grew.refl _, rfl⟩
  · intro u w hR hd; exact runs_convb (ev (hd.1 rfl)) HL.out (HX.out.kept (Grew.trans HB.out hR)) ⟨Grew.refl _, rfl⟩
  · intro u w hR hd; exact runs_eqls (ev (hd.1 rfl)) (ev (hd.2.1 rfl)) ⟨Grew.refl _, congrArg Value.bool (beq_self_eq_true xs)⟩
  · intro u w hR hd; exact runs_assign ⟨Grew.refl _, (hd.1 rfl)⟩
  · intro u w hR h
    have he : u 2 = .bool true := h 6 (by decide)
    simp only [mixA, mixL, cond_true, cond_false]
    rw [he]
    replace HB := Lib.hid (Grew.trans HB.out hR)
    go_wp2
    go_ret
    exact ⟨rfl, HB.out⟩
end Go.Proofs.Ytmfahmbebpojpaa
