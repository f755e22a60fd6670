/-
  CONTRACTS OF LAYER 14 (diag): Excerpt, the program's and the reference's.
-/
import Derived.Test.YtmnncildkomagaaDoorDiBuild
namespace Go.Proofs.YtmnncildkomagaaDoor
open Go Go.RowKit Go.IntWalk
open Go.Lib (itoa)
set_option linter.unusedSimpArgs false
set_option linter.unusedVariables false
set_option maxRecDepth 8000

theorem wstr_bytes (N b : Nat) (xs : List UInt8) (t : ByteArray) (w : World) (h : Bld N b xs w) (hl : xs.length + t.size ≤ 140737488355328) (hN : N ≤ w.heap.size) :
    Calls Tryd.prog 39 #[PtrTo b, .string t] w fun e w' => (∃ v, e = .returned v) ∧ Bld N b (xs ++ t.data.toList) w' ∧ Wrote N b w w' :=
  wstr_any N b xs t.data.toList w h (by rw [size_list]; exact hl) hN
theorem wbyte_lf (N b : Nat) (xs : List UInt8) (w : World) (h : Bld N b xs w) (hl : xs.length ≤ 1000000) (hN : N ≤ w.heap.size) :
    Calls Tryd.prog 41 #[PtrTo b, .int .u8 10] w fun e w' => e = .returned .nilIface ∧ Bld N b (xs ++ [10]) w' ∧ Wrote N b w w' := wbyte_any N b xs 10 w h (by omega) hN
theorem wbyte_caret (N b : Nat) (xs : List UInt8) (w : World) (h : Bld N b xs w) (hl : xs.length ≤ 1000000) (hN : N ≤ w.heap.size) :
    Calls Tryd.prog 41 #[PtrTo b, .int .u8 94] w fun e w' => e = .returned .nilIface ∧ Bld N b (xs ++ [94]) w' ∧ Wrote N b w w' := wbyte_any N b xs 94 w h (by omega) hN
set_option maxHeartbeats 2000000 in
theorem exc_any (s : ByteArray) (hs : s.size ≤ 100000) (p : Int) (w : World) :
    Calls Tryd.prog 26 #[.string s, .int .i64 p] w fun e w' => e = .returned (.string ⟨(exc s.data.toList (clp s.size p)).toArray⟩) ∧ Grew w w' := by
  obtain ⟨q, hq⟩ : ∃ q, clp s.size p = q := ⟨_, rfl⟩
  have hle := clp_le s.size p
  have HC := Lib.hid (fun W => within_any s p W)
  rw [hq] at HC hle ⊢
  clear hq
  have hsl := size_list s
  have hln := lnd_line (xs := s.data.toList) (q := q) (by rw [hsl]; exact hle)
  have HS := Lib.hid (fun W => start_any s hs q hle W)
  have HE := Lib.hid (fun W => end_any s hs q hle _ hln W)
  have hsb := lst_le s.data.toList q
  have heb := hln.le
  have heb2 := hln.len
  rw [hsl] at heb2
  have HX : Hid (exc s.data.toList q = lineOf s.data.toList (lst s.data.toList q) (lnd s.data.toList (lst s.data.toList q)) ++ [10] ++ pad s.data.toList (lst s.data.toList q) q ++ [94] ++ [10]) := Lib.hid rfl
  generalize exc s.data.toList q = X at HX ⊢
  generalize lnd s.data.toList (lst s.data.toList q) = en at HX HE heb heb2
  generalize lst s.data.toList q = st at HX HS hsb
  clear hln
  have hxs := extract_mid s st en
  have HLN := Lib.hid (show (lineOf s.data.toList st en).length ≤ 100000 from Nat.le_trans (lineOf_len _ _ _) (by omega))
  have hxz : (s.extract st en).size ≤ 100000 := by simp; omega
  have HW := Lib.hid (fun (xs : List UInt8) (W : World) (h : Bld w.heap.size w.heap.size xs W) (hl : xs.length ≤ 100000) (hN : w.heap.size ≤ W.heap.size) => wstr_bytes w.heap.size w.heap.size xs (s.extract st en) W h (by omega) hN)
  rw [hxs] at HW
  have HY := Lib.hid (fun (xs : List UInt8) (c : UInt8) (W : World) (h : Bld w.heap.size w.heap.size xs W) (hl : xs.length ≤ 1000000) (hN : w.heap.size ≤ W.heap.size) => wbyte_any w.heap.size w.heap.size xs c W h (by omega) hN)
  have HB0 := Lib.hid (Bld.made w.heap.size w (Nat.le_refl _))
  have HK0 : Hid (Below w.heap.size w (w.alloc (.cells #[.pointer none, .slice none 0 0] 60))) := Lib.hid ((Grew.refl w).alloc _)
  have HPL := Lib.hid (pad_len s.data.toList st)
  have tk1 := Lib.hid trivial
  clear hxs hxz
  go_enter Tryd.func26, Tryd.ntmps26
  go_wp2_with (first
    | (go_at_call 28; (with_reducible refine (HC.out _).mono ?_); rintro e w1 ⟨rfl, rfl⟩)
    | (go_at_call 29; (with_reducible refine (HS.out _).mono ?_); rintro e w1 ⟨rfl, rfl⟩)
    | (go_at_call 32; (with_reducible refine (HE.out _).mono ?_); rintro e w1 ⟨rfl, rfl⟩)
    | (go_at_call 39; (with_reducible refine (HW.out [] _ HB0.out (by simp) HK0.out.size).mono ?_); rintro e w2 ⟨⟨v2, rfl⟩, b2, k2⟩; have HB2 : Hid (Bld w.heap.size w.heap.size (lineOf s.data.toList st en) w2) := Lib.hid b2; have HL2 := Lib.hid (Nat.le_trans HLN.out (show 100000 ≤ 1000000 by decide)); have HK2 := Lib.hid (HK0.out.trans k2.1); clear b2 k2)
    | (go_at_call 41; clear tk1; (with_reducible refine (wbyte_lf _ _ _ _ HB2.out HL2.out HK2.out.size).mono ?_); rintro e w3 ⟨rfl, b3, k3⟩; have HB3 := Lib.hid b3; have HK3 := Lib.hid (HK2.out.trans k3.1); clear b3 k3))
  go_loopg [8] (q - st) (fun gg iv wr => ∃ (i : Nat), iv = .int .i64 (i : Int) ∧ st ≤ i ∧ i ≤ q ∧ gg = q - i ∧ Hid (Bld w.heap.size w.heap.size (lineOf s.data.toList st en ++ [10] ++ pad s.data.toList st i) wr) ∧ Hid (Below w.heap.size w wr))
  case atStart => exact ⟨st, rfl, Nat.le_refl _, hsb, rfl, Lib.hid (by rw [pad_self, List.append_nil]; exact HB3.out), HK3⟩
  case round =>
    obtain ⟨i, rfl, hi1, hi2, rfl, HB, HK⟩ := hrel
    by_cases hlt : i < q
    · have his : i < s.size := by omega
      have HPS := Lib.hid (pad_snoc hi1 (get_list s i his))
      have HBK := Lib.hid (fun W => blank_any s[i] W)
      have HYL : Hid ((lineOf s.data.toList st en ++ [10] ++ pad s.data.toList st i).length ≤ 1000000) := Lib.hid (by
        have h1 := HLN.out
        have h2 := HPL.out i
        simp only [List.length_append, List.length_singleton]
        omega)
      go_wp2_with (first
        | (go_at_call 44; (with_reducible refine (HBK.out _).mono ?_); rintro e w1 ⟨rfl, rfl⟩)
        | (go_at_call 41; (with_reducible refine (HY.out _ _ _ HB.out HYL.out HK.out.size).mono ?_); rintro e w4 ⟨rfl, b4, k4⟩; have HB4 := Lib.hid b4; have HK4 := Lib.hid (HK.out.trans k4.1); clear b4 k4))
      go_roundg (q - (i + 1))
      case measure => omega
      case rel => exact ⟨i + 1, (by go_num), by omega, hlt, rfl, Lib.hid (by rw [HPS.out, ← List.append_assoc]; exact HB4.out), HK4⟩
    · obtain rfl : i = q := by omega
      have HYL : Hid ((lineOf s.data.toList st en ++ [10] ++ pad s.data.toList st i).length ≤ 900000) := Lib.hid (by
        have h1 := HLN.out
        have h2 := HPL.out i
        simp only [List.length_append, List.length_singleton]
        omega)
      have tk2 := Lib.hid trivial
      go_wp2_with (first
        | (go_at_call 41; clear tk2; (with_reducible refine (wbyte_caret _ _ _ _ HB.out (Nat.le_trans HYL.out (by decide)) HK.out.size).mono ?_); rintro e w4 ⟨rfl, b4, k4⟩; have HB4 := Lib.hid b4; have HK4 := Lib.hid (HK.out.trans k4.1); clear b4 k4)
        | (go_at_call 41; (with_reducible refine (wbyte_lf _ _ _ _ HB4.out (by have := HYL.out; simp only [List.length_append, List.length_singleton] at this ⊢; omega) HK4.out.size).mono ?_); rintro e w5 ⟨rfl, b5, k5⟩; have HB5 := Lib.hid b5; have HK5 := Lib.hid (HK4.out.trans k5.1); clear b5 k5)
        | (go_at_call 42; (with_reducible refine (str_any _ _ _ _ HB5.out HK5.out.size).mono ?_); rintro e w6 ⟨rfl, k6⟩; have HK6 := Lib.hid (HK5.out.trans k6); clear k6))
      go_ret
      obtain rfl := HX.out
      refine ⟨ret_string ?_, HK6.out⟩
      simp
set_option maxHeartbeats 2000000 in
theorem rexc_any (s : ByteArray) (hs : s.size ≤ 100000) (p : Int) (w : World) :
    Calls Tryd.prog 27 #[.string s, .int .i64 p] w fun e w' => e = .returned (.string ⟨(exc s.data.toList (clp s.size p)).toArray⟩) ∧ Grew w w' := by
  obtain ⟨q, hq⟩ : ∃ q, clp s.size p = q := ⟨_, rfl⟩
  have hle := clp_le s.size p
  have HC := Lib.hid (fun W => clamp_any s p W)
  rw [hq] at HC hle ⊢
  clear hq
  have hsl := size_list s
  have HP := Lib.hid (fun W => rpos_any s hs (q : Int) W)
  rw [clp_self hle] at HP
  have hln := lnd_line (xs := s.data.toList) (q := q) (by rw [hsl]; exact hle)
  have hsb := lst_le s.data.toList q
  have hln0 : Lnd s.data.toList (lst s.data.toList q) (lnd s.data.toList (lst s.data.toList q)) := lnd_is (by rw [hsl]; omega)
  have heb := hln0.le
  have heb2 := hln0.len
  rw [hsl] at heb2
  have HX : Hid (exc s.data.toList q = lineOf s.data.toList (lst s.data.toList q) (lnd s.data.toList (lst s.data.toList q)) ++ [10] ++ pad s.data.toList (lst s.data.toList q) q ++ [94] ++ [10]) := Lib.hid rfl
  obtain ⟨c0, hcc⟩ : ∃ c0, col s.data.toList q = c0 := ⟨_, rfl⟩
  have hcol : (q : Int) - ((c0 : Int) - 1) = (lst s.data.toList q : Nat) := by rw [← hcc]; unfold col; omega
  have hcb : c0 ≤ q + 1 := by rw [← hcc]; unfold col; omega
  have hcb2 : 1 ≤ c0 := by rw [← hcc]; unfold col; omega
  rw [hcc] at HP
  clear hcc
  have hlb := lin_le s.data.toList q
  generalize lin s.data.toList q = l0 at HP hlb
  generalize exc s.data.toList q = X at HX ⊢
  generalize lnd s.data.toList (lst s.data.toList q) = en at HX hln0 heb heb2
  generalize lst s.data.toList q = st at HX hcol hsb hln0 heb
  clear hln
  have HLN0 := Lib.hid hln0
  have hxs : s.extract st en = ⟨(lineOf s.data.toList st en).toArray⟩ := by
    have := extract_mid s st en
    apply ByteArray.ext
    apply Array.toList_inj.1
    exact this
  have HLN := Lib.hid (show (lineOf s.data.toList st en).length ≤ 100000 from Nat.le_trans (lineOf_len _ _ _) (by omega))
  have HPL := Lib.hid (pad_len s.data.toList st)
  generalize hln2 : lineOf s.data.toList st en = ln at *
  clear hln0
  have HXS := Lib.hid hxs
  clear hxs hln2
  go_enter Tryd.func27, Tryd.ntmps27
  go_wp2_with (first
    | (go_at_call 30; (with_reducible refine (HC.out _).mono ?_); rintro e w1 ⟨rfl, rfl⟩)
    | (go_at_call 13; (with_reducible refine (HP.out _).mono ?_); rintro e w1 ⟨rfl, rfl⟩))
  go_loopg [8] (en - st) (fun gg iv wr => ∃ (i : Nat), iv = .int .i64 (i : Int) ∧ st ≤ i ∧ i ≤ en ∧ gg = en - i ∧ wr = w)
  case atStart => exact ⟨st, (by go_num), Nat.le_refl _, heb, rfl, rfl⟩
  case round =>
    obtain ⟨i, rfl, hi1, hi2, rfl, rfl⟩ := hrel
    by_cases hlt : i < en
    · have his : i < s.size := by omega
      have hno : ¬ (s[i].toNat : Int) = 10 := fun h => HLN0.out.no i hi1 hlt ((get_lf s i his).2 h)
      go_wp2
      go_roundg (en - (i + 1))
      case measure => omega
      case rel => exact ⟨i + 1, (by go_num), by omega, hlt, rfl, rfl⟩
    · obtain rfl : i = en := by omega
      have hxs := HXS.out
      have hadd : ∀ W, (Op.stringOp .add ⟨ln.toArray⟩ ⟨#[10]⟩).run Tryd.prog W = .ok (.string ⟨(ln ++ [10]).toArray⟩) W := fun W => run_string_add_lists W ln [10] (by have := HLN.out; omega) (by simp)
      have HRD : Hid (i = s.size ∨ s.data.toList[i]? = some 10) := Lib.hid (by have := HLN0.out.at'; rw [hsl] at this; exact this)
      by_cases hend : i = s.size
      · have hend' : ¬ (i : Int) < (s.size : Int) := by omega
        clear hend
        go_wp2
        go_loopg [9, 10] (q - st) (fun gg ov iv wx => ∃ (i : Nat) (t : List UInt8), ov = .string ⟨t.toArray⟩ ∧ iv = .int .i64 (i : Int) ∧ st ≤ i ∧ i ≤ q ∧ gg = q - i ∧ Hid (t = ln ++ [10] ++ pad s.data.toList st i) ∧ wx = wr)
        case atStart => exact ⟨st, ln ++ [10], (by first | rfl | (rw [HXS.out]; exact congrArg Value.string (str_append ln [10]))), rfl, Nat.le_refl _, hsb, rfl, Lib.hid (by rw [pad_self, List.append_nil]), rfl⟩
        case round =>
          obtain ⟨k, t, rfl, rfl, hk1, hk2, rfl, HT, rfl⟩ := hrel
          have HK : Hid (t.length ≤ 1000000) := Lib.hid (by
            rw [HT.out]
            have h1 := HLN.out
            have h2 := HPL.out k
            simp only [List.length_append, List.length_singleton]
            omega)
          by_cases hlk : k < q
          · have hks : k < s.size := by omega
            have HPS := Lib.hid (pad_snoc hk1 (get_list s k hks))
            by_cases h9 : (s[k].toNat : Int) = 9
            · have HBL : Hid (blank s[k] = 9) := Lib.hid (if_pos (UInt8.toNat_inj.1 (by simpa using (by omega : s[k].toNat = 9))))
              have hadd2 : ∀ W, (Op.stringOp .add ⟨t.toArray⟩ ⟨#[9]⟩).run Tryd.prog W = .ok (.string ⟨(t ++ [9]).toArray⟩) W := fun W => run_string_add_lists W _ [9] (by have := HK.out; omega) (by simp)
              go_wp2
              go_roundg (q - (k + 1))
              case measure => omega
              case rel => exact ⟨k + 1, t ++ [blank s[k]], by rw [HBL.out], (by go_num), by omega, hlk, rfl, Lib.hid (by rw [HT.out, HPS.out, ← List.append_assoc]), rfl⟩
            · have HBL : Hid (blank s[k] = 32) := Lib.hid (if_neg (fun h => h9 (by rw [h]; rfl)))
              have hadd2 : ∀ W, (Op.stringOp .add ⟨t.toArray⟩ ⟨#[32]⟩).run Tryd.prog W = .ok (.string ⟨(t ++ [32]).toArray⟩) W := fun W => run_string_add_lists W _ [32] (by have := HK.out; omega) (by simp)
              go_wp2
              go_roundg (q - (k + 1))
              case measure => omega
              case rel => exact ⟨k + 1, t ++ [blank s[k]], by rw [HBL.out], (by go_num), by omega, hlk, rfl, Lib.hid (by rw [HT.out, HPS.out, ← List.append_assoc]), rfl⟩
          · obtain rfl : k = q := by omega
            have hadd3 : ∀ W, (Op.stringOp .add ⟨t.toArray⟩ ⟨#[94, 10]⟩).run Tryd.prog W = .ok (.string ⟨(t ++ [94, 10]).toArray⟩) W := fun W => run_string_add_lists W _ [94, 10] (by have := HK.out; omega) (by simp)
            go_wp2
            go_ret
            obtain rfl := HX.out
            refine ⟨ret_string ?_, Grew.refl _⟩
            rw [HT.out]
            simp
      · have his : i < s.size := by omega
        have hlf : (s[i].toNat : Int) = 10 := (get_lf s i his).1 (HRD.out.resolve_left hend)
        go_wp2
        go_loopg [9, 10] (q - st) (fun gg ov iv wx => ∃ (i : Nat) (t : List UInt8), ov = .string ⟨t.toArray⟩ ∧ iv = .int .i64 (i : Int) ∧ st ≤ i ∧ i ≤ q ∧ gg = q - i ∧ Hid (t = ln ++ [10] ++ pad s.data.toList st i) ∧ wx = wr)
        case atStart => exact ⟨st, ln ++ [10], (by first | rfl | (rw [HXS.out]; exact congrArg Value.string (str_append ln [10]))), rfl, Nat.le_refl _, hsb, rfl, Lib.hid (by rw [pad_self, List.append_nil]), rfl⟩
        case round =>
          obtain ⟨k, t, rfl, rfl, hk1, hk2, rfl, HT, rfl⟩ := hrel
          have HK : Hid (t.length ≤ 1000000) := Lib.hid (by
            rw [HT.out]
            have h1 := HLN.out
            have h2 := HPL.out k
            simp only [List.length_append, List.length_singleton]
            omega)
          by_cases hlk : k < q
          · have hks : k < s.size := by omega
            have HPS := Lib.hid (pad_snoc hk1 (get_list s k hks))
            by_cases h9 : (s[k].toNat : Int) = 9
            · have HBL : Hid (blank s[k] = 9) := Lib.hid (if_pos (UInt8.toNat_inj.1 (by simpa using (by omega : s[k].toNat = 9))))
              have hadd2 : ∀ W, (Op.stringOp .add ⟨t.toArray⟩ ⟨#[9]⟩).run Tryd.prog W = .ok (.string ⟨(t ++ [9]).toArray⟩) W := fun W => run_string_add_lists W _ [9] (by have := HK.out; omega) (by simp)
              go_wp2
              go_roundg (q - (k + 1))
              case measure => omega
              case rel => exact ⟨k + 1, t ++ [blank s[k]], by rw [HBL.out], (by go_num), by omega, hlk, rfl, Lib.hid (by rw [HT.out, HPS.out, ← List.append_assoc]), rfl⟩
            · have HBL : Hid (blank s[k] = 32) := Lib.hid (if_neg (fun h => h9 (by rw [h]; rfl)))
              have hadd2 : ∀ W, (Op.stringOp .add ⟨t.toArray⟩ ⟨#[32]⟩).run Tryd.prog W = .ok (.string ⟨(t ++ [32]).toArray⟩) W := fun W => run_string_add_lists W _ [32] (by have := HK.out; omega) (by simp)
              go_wp2
              go_roundg (q - (k + 1))
              case measure => omega
              case rel => exact ⟨k + 1, t ++ [blank s[k]], by rw [HBL.out], (by go_num), by omega, hlk, rfl, Lib.hid (by rw [HT.out, HPS.out, ← List.append_assoc]), rfl⟩
          · obtain rfl : k = q := by omega
            have hadd3 : ∀ W, (Op.stringOp .add ⟨t.toArray⟩ ⟨#[94, 10]⟩).run Tryd.prog W = .ok (.string ⟨(t ++ [94, 10]).toArray⟩) W := fun W => run_string_add_lists W _ [94, 10] (by have := HK.out; omega) (by simp)
            go_wp2
            go_ret
            obtain rfl := HX.out
            refine ⟨ret_string ?_, Grew.refl _⟩
            rw [HT.out]
            simp
end Go.Proofs.YtmnncildkomagaaDoor
