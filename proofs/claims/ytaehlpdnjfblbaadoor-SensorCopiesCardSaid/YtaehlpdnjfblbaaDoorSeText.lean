/-
  CONTRACTS OF LAYER 10 (sensor): appendChange.
-/
import Derived.Test.YtaehlpdnjfblbaaDoorSeTextOps
namespace Go.Proofs.YtaehlpdnjfblbaaDoor
open Go Go.RowKit Go.IntWalk
open Go.Lib (itoa)
set_option linter.unusedSimpArgs false
set_option maxRecDepth 8000

theorem own_len {w : World} {base : Nat} {e : TypeId} {p : Option Addr} {n m c : Nat} {xs : List UInt8} (h : Own w base e (.slice p n c) xs) (hn : n = m) : Own w base e (.slice p m c) xs := hn ▸ h
set_option maxHeartbeats 2000000 in
theorem appchg_any (base n cap : Nat) (p : Option Addr) (xs : List UInt8) (x : It) (w : World) (hown : Own w base 5 (.slice p n cap) xs) (hn : xs.length = n) (hb : base ≤ w.heap.size) (hl : n ≤ 1000000) (htab : Tab base w) (h1 : -9223372036854775808 ≤ x.1 ∧ x.1 ≤ 9223372036854775807) (h2 : -32768 ≤ x.2 ∧ x.2 ≤ 32767) :
    Calls Tryd.prog 28 #[.slice p n cap, itv x] w fun e w' => ∃ r j, e = .returned (.slice r (n + (lineT x).length) j) ∧ Own w' base 5 (.slice r (n + (lineT x).length) j) (xs ++ lineT x) ∧ Below base w w' := by
  subst hn
  have hlen1 := Lib.itoa_length_le x.1 h1.1 h1.2
  have HL : Hid (xs.length ≤ 1000000 ∧ (itoa x.1).length ≤ 21) := Lib.hid ⟨hl, hlen1⟩
  have HBS := Lib.hid hb
  have hw : IntKind.i64.wrap x.2 = x.2 := i64_in _ (by omega)
  have H1 := Lib.hid (fun (W : World) (hB : Below base w W) (hO : Own W base 5 (.slice p xs.length cap) xs) => appInt_any base x.1 h1.1 h1.2 _ xs W hO (Nat.le_trans hb hB.size) (by omega) (htab.on hB))
  have H2 := Lib.hid (fun (v : Value) (W : World) (hO : Own W base 5 v (xs ++ itoa x.1 ++ [32])) (hB : Below base w W) => appInt_any base x.2 (by omega) (by omega) v (xs ++ itoa x.1 ++ [32]) W hO (Nat.le_trans hb hB.size) (by simp; omega) (htab.on hB))
  have HB0 : Hid (Below base w (w.alloc (.cells #[.int .i64 x.1, .int .i16 x.2] 34))) := Lib.hid (((Grew.refl w).alloc _).mono hb)
  have HO : Hid (Own (w.alloc (.cells #[.int .i64 x.1, .int .i16 x.2] 34)) base 5 (.slice p xs.length cap) xs) := Lib.hid (hown.alloc _)
  have HS : Hid (Blk w.heap.size (itc x) 34 (w.alloc (.cells #[.int .i64 x.1, .int .i16 x.2] 34))) := Lib.hid (Blk.new w _ _)
  replace H1 := Lib.hid (H1.out _ HB0.out HO.out)
  have tk1 := Lib.hid trivial
  clear hown hb htab hlen1 h1 h2
  go_enter Tryd.func28, Tryd.ntmps28
  go_wp2_with (first
    | (go_at_call 36; clear tk1; (with_reducible refine (H1.out).mono ?_); rintro e w1 ⟨r1, j1, rfl, ho1, hb1, hk1⟩; have HO1 := Lib.hid ho1; have HB1 := Lib.hid (HB0.out.trans hb1); have HS1 := Lib.hid (HS.out.others hk1 (by decide)); clear ho1 hb1 hk1)
    | (at_builtin; refine wpList_append_str rfl _ _ 62 9 rfl base 5 Tryd.underlying62 Tryd.underlying9 info_u8 _ (xs ++ itoa x.1) rfl HO1.out [32] rfl (by have := HL.out; simp; omega) (Nat.le_trans HBS.out HB1.out.size) ?_; intro p2 c2 zs2 w2 hz2 ho2 hb2 hc2; have HO2 : Hid (Own w2 base 5 (.slice p2 zs2.length c2) (xs ++ itoa x.1 ++ [32])) := Lib.hid (by rw [← hz2.out]; exact ho2); have HB2 := Lib.hid (HB1.out.trans hb2); have hS2 : Blk w.heap.size (itc x) 34 w2 := HS1.out.chg hc2 (HO1.out.apart (by decide) HS1.out); have b0 := hS2.cell 0; have b1 := hS2.cell 1; have bl := hS2.lt; simp only [List.getElem?_cons_zero, List.getElem?_cons_succ] at b0 b1; clear ho2 hb2 hc2 hS2)
    | (go_at_call 36; (with_reducible refine (H2.out _ _ HO2.out HB2.out).mono ?_); rintro e w3 ⟨r3, j3, rfl, ho3, hb3, hk3⟩; have HO3 := Lib.hid ho3; have HB3 := Lib.hid (HB2.out.trans hb3); clear ho3 hb3 hk3))
  go_ret
  have h3 := HO3.out
  have e3 : (xs ++ itoa x.1 ++ [32]).length + (itoa x.2).length = xs.length + (lineT x).length := by unfold lineT; simp; omega
  have e4 : xs.length + ((itoa x.1).length + 1) + (itoa x.2).length = xs.length + (lineT x).length := by unfold lineT; simp; omega
  exact ⟨r3, j3, congrArg (fun n => Ending.returned (.slice r3 n j3)) e4, by rw [e3] at h3; unfold lineT at h3 ⊢; simpa using h3, HB3.out⟩
theorem appchg_new (x : It) (w : World) (h1 : -9223372036854775808 ≤ x.1 ∧ x.1 ≤ 9223372036854775807) (h2 : -32768 ≤ x.2 ∧ x.2 ≤ 32767) (he : Env w) :
    Calls Tryd.prog 28 #[.slice none 0 0, itv x] w fun e w' => ∃ r j, e = .returned (.slice r (lineT x).length j) ∧ Own w' w.heap.size 5 (.slice r (lineT x).length j) (lineT x) ∧ Grew w w' := by
  refine (appchg_any w.heap.size 0 0 none [] x w (Own.empty _ _ _) rfl (Nat.le_refl _) (by decide) he.tab h1 h2).mono ?_
  rintro e w' ⟨r, j, h3, h4, h5⟩
  rw [Nat.zero_add] at h3 h4
  exact ⟨r, j, h3, (by simpa using h4), h5⟩
theorem enters_apc : Enters Tryd.prog 28 := fun args w => by go_simp
set_option maxHeartbeats 2000000 in
theorem format_any (t : Nat) (xs : List It) (w : World) (h : TrR t xs w) (hg : good xs) (hl : xs.length ≤ 1000) (he : Env w) :
    Calls Tryd.prog 19 #[.pointer (some ⟨t, 0, none⟩)] w fun e w' => e = .returned (.string ⟨(fmtT xs).toArray⟩) ∧ Grew w w' := by
  obtain ⟨p, cap, hT, hR, -⟩ := h
  have c0 : w.cell? ⟨t, 0, none⟩ = some (.slice p xs.length cap) := hT
  have ct := World.block_lt_of_cell? _ _ hT
  have HX := Lib.hid hR
  have HGD := Lib.hid hg
  have HTB := Lib.hid he.tab
  have hcap := hR.cap
  have hmax := hR.max
  clear hT hR hg he
  go_enter Tryd.func19, Tryd.ntmps19
  go_wp2
  clear c0 ct
  go_loopg [3, 11] xs.length (fun gg ov iv wr => ∃ (k : Nat) (p1 : Option Addr) (n1 c1 : Nat), ov = .slice p1 n1 c1 ∧ iv = .int .i64 (k : Int) ∧ k ≤ xs.length ∧ gg = xs.length - k ∧ n1 ≤ 21 * k ∧ Hid ((fmtT (xs.take k)).length = n1) ∧ Hid (Own wr w.heap.size 5 (.slice p1 n1 c1) (fmtT (xs.take k))) ∧ Hid (Grew w wr))
  case atStart => exact ⟨0, none, 0, 0, rfl, rfl, Nat.zero_le _, rfl, Nat.le_refl _, Lib.hid rfl, Lib.hid (Own.empty _ _ _), Lib.hid (Grew.refl _)⟩
  case round =>
    obtain ⟨k, p1, n1, c1, rfl, rfl, hk, rfl, hn1, HL, HO, HG⟩ := hrel
    by_cases hlt : k < xs.length
    · obtain ⟨b', o', rfl, hcc⟩ := (HX.out.kept HG.out).rd.cells (by omega)
      have hx : xs[k]? = some xs[k] := by simp [hlt]
      have hc1 := hcc k xs[k] hx
      have hlb : b' < wr.heap.size := World.block_lt_of_cell? _ _ (hc1 0 _ rfl)
      have HLT := Lib.hid (Nat.succ_le_of_lt hlt)
      have HTK := Lib.hid (List.take_succ_eq_append_getElem hlt)
      generalize xs[k] = a at hc1 hx HTK
      have d0 : wr.cell? ⟨b', o' + k * 2, none⟩ = some (.int .i64 a.1) := by simpa using hc1 0 _ rfl
      have d1 : wr.cell? ⟨b', o' + k * 2 + 1, none⟩ = some (.int .i16 a.2) := hc1 1 _ rfl
      have HXK := Lib.hid hx
      clear hcc hc1 hx
      have hr := HGD.out.each a (List.mem_of_getElem? HXK.out)
      have HLN := Lib.hid (lineT_len hr)
      have HA := Lib.hid (fun ob => appchg_any w.heap.size n1 c1 p1 (fmtT (xs.take k)) a (wr.alloc ob) (HO.out.alloc ob) HL.out (Nat.le_trans HG.out.size (by simp)) (by omega) (HTB.out.on (HG.out.alloc ob)) (by omega) hr.2)
      clear hr
      have HN1 := Lib.hid hn1
      go_wp2_with (first
        | (go_at_call 28; (with_reducible refine (HA.out _).mono ?_); rintro e w3 ⟨r3, j3, rfl, ho3, hb3⟩; have HO3 := Lib.hid ho3; have HB3 : Hid (Grew w w3) := Lib.hid ((HG.out.alloc _).below hb3); clear ho3 hb3)
        | (at_builtin; refine wpList_append_str rfl _ _ 62 9 rfl w.heap.size 5 Tryd.underlying62 Tryd.underlying9 info_u8 _ (fmtT (xs.take k) ++ lineT a) rfl HO3.out [10] rfl (by have := HL.out; have := HN1.out; have := HLN.out; simp; omega) HB3.out.size ?_; intro p4 c4 zs4 w4 hz4 ho4 hb4 hc4; have HO4 := Lib.hid ho4; have HB4 : Hid (Grew w w4) := Lib.hid (HB3.out.below hb4); clear ho4 hb4 hc4))
      have HZ : Hid (zs4 = fmtT (xs.take (k + 1))) := Lib.hid (by rw [hz4.out, HTK.out, fmtT_snoc, List.append_assoc])
      go_roundg (xs.length - (k + 1))
      case measure => have := HLT.out; omega
      case rel => exact ⟨k + 1, p4, zs4.length, c4, rfl, by go_num, HLT.out, rfl, (by have h1 := HL.out; have h2 := HN1.out; have h3 := HLN.out; have := hz4.out; rw [this]; simp; omega), Lib.hid (by rw [HZ.out]), Lib.hid (by rw [← HZ.out]; exact HO4.out), HB4⟩
    · obtain rfl : k = xs.length := by omega
      rw [List.take_length] at HL HO
      have hcv := (HO.out.bin.2).convert n1 HL.out 62 9 5 Tryd.underlying62 Tryd.underlying5 Tryd.underlying9
      go_wp2
      go_ret
      exact ⟨rfl, HG.out⟩
end Go.Proofs.YtaehlpdnjfblbaaDoor
