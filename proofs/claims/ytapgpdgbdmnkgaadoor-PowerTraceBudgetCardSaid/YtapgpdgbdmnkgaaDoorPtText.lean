/-
  CONTRACTS OF LAYER 13 (powertrace): appendPeriod, Format.
-/
import Derived.Test.YtapgpdgbdmnkgaaDoorPtLists
namespace Go.Proofs.YtapgpdgbdmnkgaaDoor
open Go Go.RowKit Go.IntWalk
open Go.Lib (itoa)
set_option linter.unusedSimpArgs false
set_option linter.unusedVariables false
set_option maxRecDepth 8000

set_option maxHeartbeats 2000000 in
theorem appper_any (base n cap : Nat) (p : Option Addr) (xs : List UInt8) (x : It) (w : World) (hown : Own w base 5 (.slice p n cap) xs) (hn : xs.length = n) (hb : base ≤ w.heap.size) (hl : n ≤ 1000000) (htab : Tab base w) (h1 : -9223372036854775808 ≤ x.1 ∧ x.1 ≤ 9223372036854775807) (h2 : -9223372036854775808 ≤ x.2 ∧ x.2 ≤ 9223372036854775807) :
    Calls Tryd.prog 33 #[.slice p n cap, itv x] w fun e w' => ∃ r j, e = .returned (.slice r (n + (wordT x).length) j) ∧ Own w' base 5 (.slice r (n + (wordT x).length) j) (xs ++ wordT x) ∧ Below base w w' := by
  subst hn
  have hlen1 := Lib.itoa_length_le x.1 h1.1 h1.2
  have HL : Hid (xs.length ≤ 1000000 ∧ (itoa x.1).length ≤ 21) := Lib.hid ⟨hl, hlen1⟩
  have HBS := Lib.hid hb
  have H1 := Lib.hid (fun (W : World) (hB : Below base w W) (hO : Own W base 5 (.slice p xs.length cap) xs) => appInt_any base x.1 h1.1 h1.2 _ xs W hO (Nat.le_trans hb hB.size) (by omega) (htab.on hB))
  have H2 := Lib.hid (fun (v : Value) (W : World) (hO : Own W base 5 v (xs ++ itoa x.1 ++ [64])) (hB : Below base w W) => appInt_any base x.2 h2.1 h2.2 v (xs ++ itoa x.1 ++ [64]) W hO (Nat.le_trans hb hB.size) (by simp; omega) (htab.on hB))
  have HB0 : Hid (Below base w (w.alloc (.cells #[.int .i64 x.1, .int .i64 x.2] 52))) := Lib.hid (((Grew.refl w).alloc _).mono hb)
  have HO : Hid (Own (w.alloc (.cells #[.int .i64 x.1, .int .i64 x.2] 52)) base 5 (.slice p xs.length cap) xs) := Lib.hid (hown.alloc _)
  have HS : Hid (Blk w.heap.size (itc x) 52 (w.alloc (.cells #[.int .i64 x.1, .int .i64 x.2] 52))) := Lib.hid (Blk.new w _ _)
  replace H1 := Lib.hid (H1.out _ HB0.out HO.out)
  have tk1 := Lib.hid trivial
  clear hown hb htab hlen1 h1 h2
  go_enter Tryd.func33, Tryd.ntmps33
  go_wp2_with (first
    | (go_at_call 45; clear tk1; (with_reducible refine (H1.out).mono ?_); rintro e w1 ⟨r1, j1, rfl, ho1, hb1, hk1⟩; have HO1 := Lib.hid ho1; have HB1 := Lib.hid (HB0.out.trans hb1); have HS1 := Lib.hid (HS.out.others hk1 (by decide)); clear ho1 hb1 hk1)
    | (at_builtin; refine wpList_append_str rfl _ _ 61 9 rfl base 5 Tryd.underlying61 Tryd.underlying9 info_u8 _ (xs ++ itoa x.1) rfl HO1.out [64] rfl (by have := HL.out; simp; omega) (Nat.le_trans HBS.out HB1.out.size) ?_; intro p2 c2 zs2 w2 hz2 ho2 hb2 hc2; have HO2 : Hid (Own w2 base 5 (.slice p2 zs2.length c2) (xs ++ itoa x.1 ++ [64])) := Lib.hid (by rw [← hz2.out]; exact ho2); have HB2 := Lib.hid (HB1.out.trans hb2); have hS2 : Blk w.heap.size (itc x) 52 w2 := HS1.out.chg hc2 (HO1.out.apart (by decide) HS1.out); have b0 := hS2.cell 0; have b1 := hS2.cell 1; have bl := hS2.lt; simp only [List.getElem?_cons_zero, List.getElem?_cons_succ] at b0 b1; clear ho2 hb2 hc2 hS2)
    | (go_at_call 45; (with_reducible refine (H2.out _ _ HO2.out HB2.out).mono ?_); rintro e w3 ⟨r3, j3, rfl, ho3, hb3, hk3⟩; have HO3 := Lib.hid ho3; have HB3 := Lib.hid (HB2.out.trans hb3); clear ho3 hb3 hk3))
  go_ret
  have h3 := HO3.out
  have e3 : (xs ++ itoa x.1 ++ [64]).length + (itoa x.2).length = xs.length + (wordT x).length := by unfold wordT; simp; omega
  have e4 : xs.length + ((itoa x.1).length + 1) + (itoa x.2).length = xs.length + (wordT x).length := by unfold wordT; simp; omega
  exact ⟨r3, j3, congrArg (fun n => Ending.returned (.slice r3 n j3)) e4, by rw [e3] at h3; unfold wordT at h3 ⊢; simpa using h3, HB3.out⟩
theorem appper_new (x : It) (w : World) (h1 : -9223372036854775808 ≤ x.1 ∧ x.1 ≤ 9223372036854775807) (h2 : -9223372036854775808 ≤ x.2 ∧ x.2 ≤ 9223372036854775807) (he : Env w) :
    Calls Tryd.prog 33 #[.slice none 0 0, itv x] w fun e w' => ∃ r j, e = .returned (.slice r (wordT x).length j) ∧ Own w' w.heap.size 5 (.slice r (wordT x).length j) (wordT x) ∧ Grew w w' := by
  refine (appper_any w.heap.size 0 0 none [] x w (Own.empty _ _ _) rfl (Nat.le_refl _) (by decide) he.tab h1 h2).mono ?_
  rintro e w' ⟨r, j, h3, h4, h5⟩
  rw [Nat.zero_add] at h3 h4
  exact ⟨r, j, h3, (by simpa using h4), h5⟩
set_option maxHeartbeats 2000000 in
theorem format_ok (p : Option Addr) (n c : Nat) (xs : List It) (w : World) (h : Rw 2 itc w p c xs) (hn : xs.length = n) (hg : okL xs = true) (hl : xs.length ≤ 1000) (he : Env w) :
    Calls Tryd.prog 12 #[.slice p n c] w fun e w' => e = .returned (.string ⟨(textT xs).toArray⟩) ∧ Grew w w' := by
  have HGD := Lib.hid hg
  have HTB := Lib.hid he.tab
  have HV := Lib.hid (valid_any p n c xs w h hn)
  rw [hg] at HV
  clear hg he
  subst hn
  have HX := Lib.hid h
  have hcap := h.cap
  have hmax := h.max
  clear h
  go_enter Tryd.func12, Tryd.ntmps12
  go_wp2_with (go_at_call 14; (with_reducible refine (HV.out).mono ?_); rintro e w1 ⟨rfl, g1⟩; have HG1 := Lib.hid g1; clear g1)
  go_loopg [3, 11] xs.length (fun gg ov iv wr => ∃ (k : Nat) (p1 : Option Addr) (n1 c1 : Nat), ov = .slice p1 n1 c1 ∧ iv = .int .i64 (k : Int) ∧ k ≤ xs.length ∧ gg = xs.length - k ∧ n1 ≤ 44 * k ∧ Hid ((textT (xs.take k)).length = n1) ∧ Hid (Own wr w.heap.size 5 (.slice p1 n1 c1) (textT (xs.take k))) ∧ Hid (Grew w wr))
  case atStart => exact ⟨0, none, 0, 0, rfl, rfl, Nat.zero_le _, rfl, Nat.le_refl _, Lib.hid rfl, Lib.hid (Own.empty _ _ _), HG1⟩
  case round =>
    obtain ⟨k, p1, n1, c1, rfl, rfl, hk, rfl, hn1, HL, HO, HG⟩ := hrel
    by_cases hlt : k < xs.length
    · obtain ⟨b', o', rfl, hcc⟩ := (HX.out.kept HG.out).rd.cells (by omega)
      have hx : xs[k]? = some xs[k] := by simp [hlt]
      have hc1 := hcc k xs[k] hx
      have hlb : b' < wr.heap.size := World.block_lt_of_cell? _ _ (hc1 0 _ rfl)
      have HLT := Lib.hid (Nat.succ_le_of_lt hlt)
      have HTK := Lib.hid (List.take_succ_eq_append_getElem hlt)
      generalize xs[k] = a at hc1 hx HTK
      have d0 : wr.cell? ⟨b', o' + k * 2, none⟩ = some (.int .i64 a.1) := by simpa using hc1 0 _ rfl
      have d1 : wr.cell? ⟨b', o' + k * 2 + 1, none⟩ = some (.int .i64 a.2) := hc1 1 _ rfl
      have HXK := Lib.hid hx
      clear hcc hc1 hx
      have hok := okL_mem HGD.out a (List.mem_of_getElem? HXK.out)
      have hr := okP_bd hok
      have HLN := Lib.hid (textT_take HGD.out (k + 1))
      rw [HTK.out] at HLN
      have HKX := Lib.hid (show (xs.take k).length = k by simp; omega)
      have HN1 := Lib.hid hn1
      have HHR := Lib.hid hr
      by_cases hk0 : k = 0
      · have hk1 : ¬ 0 < (k : Int) := by omega
        have HK0 := Lib.hid hk0
        clear hk0
        have HA := Lib.hid (fun ob => appper_any w.heap.size n1 c1 p1 (textT (xs.take k)) a (wr.alloc ob) (HO.out.gr ((Grew.refl _).alloc _)) HL.out (HG.out.alloc ob).size (by omega) (HTB.out.on (HG.out.alloc ob)) (by omega) (by omega))
        clear hr hok
        go_wp2_with (go_at_call 33; (with_reducible refine (HA.out _).mono ?_); rintro e w3 ⟨r3, j3, rfl, ho3, hb3⟩; have HO3 := Lib.hid ho3; have HB3 : Hid (Grew w w3) := Lib.hid ((HG.out.alloc _).below hb3); clear ho3 hb3)
        have HZ : Hid (textT (xs.take k) ++ wordT a = textT (xs.take (k + 1))) := Lib.hid (by rw [HTK.out, HK0.out]; simp [textT_one, textT_nil])
        have HZN : Hid (n1 + (wordT a).length = (textT (xs.take (k + 1))).length) := Lib.hid (by rw [← HZ.out, List.length_append, HL.out])
        go_roundg (xs.length - (k + 1))
        case measure => have := HLT.out; omega
        case rel => exact ⟨k + 1, r3, n1 + (wordT a).length, j3, rfl, by go_num, HLT.out, rfl, (by have h1 := HLN.out; rw [← HTK.out] at h1; rw [HZN.out]; exact h1), Lib.hid HZN.out.symm, Lib.hid (by rw [← HZ.out]; exact HO3.out), HB3⟩
      · have hk1 : 0 < (k : Int) := by omega
        have HA := Lib.hid (fun (p4 : Option Addr) (m4 c4 : Nat) (W : World) (ho : Own W w.heap.size 5 (.slice p4 m4 c4) (textT (xs.take k) ++ [32])) (hm : m4 = (textT (xs.take k) ++ [32]).length) (hg : Grew w W) => appper_any w.heap.size m4 c4 p4 (textT (xs.take k) ++ [32]) a W ho hm.symm hg.size (by rw [hm]; have := HL.out; simp; omega) (HTB.out.on hg) (by omega) (by omega))
        clear hr hok
        go_wp2_with (first
          | (at_builtin; refine wpList_append_str rfl _ _ 61 9 rfl w.heap.size 5 Tryd.underlying61 Tryd.underlying9 info_u8 _ (textT (xs.take k)) rfl (HO.out.gr ((Grew.refl _).alloc _)) [32] rfl (by have := HL.out; simp; omega) (HG.out.alloc _).size ?_; intro p4 c4 zs4 w4 hz4 ho4 hb4 hc4; have HO4 : Hid (Own w4 w.heap.size 5 (.slice p4 zs4.length c4) (textT (xs.take k) ++ [32])) := Lib.hid (by rw [← hz4.out]; exact ho4); have HG4 : Hid (Grew w w4) := Lib.hid ((HG.out.alloc _).below hb4); have HZL : Hid (zs4.length = (textT (xs.take k) ++ [32]).length) := Lib.hid (by rw [hz4.out]); have hS4 : Blk wr.heap.size (itc a) 52 w4 := (Blk.new wr _ _).chg hc4 ((HO.out.gr ((Grew.refl _).alloc _)).apart (by decide) (Blk.new wr (itc a) 52)); have b0 := hS4.cell 0; have b1 := hS4.cell 1; have bl := hS4.lt; simp only [List.getElem?_cons_zero, List.getElem?_cons_succ] at b0 b1; clear ho4 hb4 hc4 hS4)
          | (go_at_call 33; (with_reducible refine (HA.out _ _ _ _ HO4.out HZL.out HG4.out).mono ?_); rintro e w3 ⟨r3, j3, rfl, ho3, hb3⟩; have HO3 := Lib.hid ho3; have HB3 : Hid (Grew w w3) := Lib.hid (HG4.out.below hb3); clear ho3 hb3))
        have HZ : Hid (textT (xs.take k) ++ [32] ++ wordT a = textT (xs.take (k + 1))) := Lib.hid (by rw [HTK.out, textT_snoc (by rw [HKX.out]; omega)]; simp)
        have HZN : Hid (zs4.length + (wordT a).length = (textT (xs.take (k + 1))).length) := Lib.hid (by rw [← HZ.out, List.length_append, HZL.out])
        go_roundg (xs.length - (k + 1))
        case measure => have := HLT.out; omega
        case rel => exact ⟨k + 1, r3, zs4.length + (wordT a).length, j3, rfl, by go_num, HLT.out, rfl, (by have h1 := HLN.out; rw [← HTK.out] at h1; rw [HZN.out]; exact h1), Lib.hid HZN.out.symm, Lib.hid (by rw [← HZ.out]; exact HO3.out), HB3⟩
    · obtain rfl : k = xs.length := by omega
      rw [List.take_length] at HL HO
      have hcv := (HO.out.bin.2).convert n1 HL.out 61 9 5 Tryd.underlying61 Tryd.underlying5 Tryd.underlying9
      go_wp2
      go_ret
      exact ⟨rfl, HG.out⟩
theorem format_no (p : Option Addr) (n c : Nat) (xs : List It) (w : World) (h : Rw 2 itc w p c xs) (hn : xs.length = n) (hg : okL xs = false) :
    Calls Tryd.prog 12 #[.slice p n c] w fun e w' => e = .returned (.string ⟨#[]⟩) ∧ Grew w w' := by
  have HV := Lib.hid (valid_any p n c xs w h hn)
  rw [hg] at HV
  clear h hn
  go_enter Tryd.func12, Tryd.ntmps12
  go_wp2_with (go_at_call 14; (with_reducible refine (HV.out).mono ?_); rintro e w1 ⟨rfl, g1⟩; have HG1 := Lib.hid g1; clear g1)
  go_ret
  exact ⟨rfl, HG1.out⟩
/-- What Format makes of a list. -/
def fmtL (xs : List It) : List UInt8 := if okL xs = true then textT xs else []
theorem format_any (p : Option Addr) (n c : Nat) (xs : List It) (w : World) (h : Rw 2 itc w p c xs) (hn : xs.length = n) (hl : xs.length ≤ 1000) (he : Env w) :
    Calls Tryd.prog 12 #[.slice p n c] w fun e w' => e = .returned (.string ⟨(fmtL xs).toArray⟩) ∧ Grew w w' := by
  cases hg : okL xs with
  | true =>
    have := format_ok p n c xs w h hn hg hl he
    rwa [show fmtL xs = textT xs from if_pos hg]
  | false =>
    have := format_no p n c xs w h hn hg
    rwa [show fmtL xs = [] from if_neg (by rw [hg]; decide)]
end Go.Proofs.YtapgpdgbdmnkgaaDoor
