/-
  LAYER 15: Errors of the reference.
-/
import Derived.Test.YtcajamgajchheaaDoorLxErr
namespace Go.Proofs.YtcajamgajchheaaDoor
open Go Go.RowKit Go.IntWalk
set_option linter.unusedSimpArgs false
set_option linter.unusedVariables false
set_option maxRecDepth 8000
abbrev cmA : ByteArray := ⟨#[105, 100, 101, 110, 116, 105, 102, 105, 101, 114, 32, 116, 111, 111, 32, 108, 111, 110, 103]⟩
abbrev cmB : ByteArray := ⟨#[105, 110, 118, 97, 108, 105, 100, 32, 105, 110, 116, 101, 103, 101, 114]⟩
abbrev cmC : ByteArray := ⟨#[105, 110, 118, 97, 108, 105, 100, 32, 99, 104, 97, 114, 97, 99, 116, 101, 114]⟩
theorem dig_ltr {c : UInt8} (h : dig c = true) : ltr c = false := by
  have := dig_byte h
  rw [Bool.eq_false_iff]
  intro h1
  simp only [ltr, Bool.or_eq_true, Bool.and_eq_true, decide_eq_true_eq] at h1
  omega
theorem hd_get {p : UInt8 → Bool} {T : ByteArray} (h : 0 < T.size) : hd p T.data.toList = p T[0] := by
  have h6 : T.data.toList[0]'h = T[0] := rfl
  cases hx : T.data.toList with
  | nil => exact absurd (congrArg List.length hx) (by have : T.data.toList.length = T.size := rfl; rw [this, List.length_nil]; omega)
  | cons a r =>
    simp only [hx, List.getElem_cons_zero] at h6
    rw [hd, h6]
set_option maxHeartbeats 8000000 in
theorem rerrs_any (p : Option Addr) (c : Nat) (L : List Tk) (w : World) (h : Rw 4 tkc w p c L) (hl : L.length ≤ 200000) : Calls Tryd.prog 18 #[.slice p L.length c] w fun e w' => ∃ p' c', e = .returned (.slice p' (ers L).length c') ∧ Rw 2 dgc w' p' c' (ers L) ∧ Grew w w' := by
  have HX := Lib.hid h
  have hcap := h.cap
  have hmax := h.max
  have HL := Lib.hid (fun c W => letter_any c W)
  have HD := Lib.hid (fun c W => digit_any c W)
  clear h
  go_enter Tryd.func18, Tryd.ntmps18
  go_wp2
  go_loopg [3, 4, 5] L.length (fun gg lv iv tv wr => ∃ (k n : Nat) (p1 : Option Addr) (c1 : Nat) (out : List Dg), lv = .slice p1 n c1 ∧ iv = .int .i64 (k : Int) ∧ k ≤ L.length ∧ gg = L.length - k ∧ n ≤ k ∧ Hid (out.length = n) ∧ Hid (out = ers (L.take k)) ∧ Hid (OwR wr w.heap.size 51 2 dgc (.slice p1 n c1) out) ∧ Hid (Grew w wr))
  case atStart => exact ⟨0, 0, none, 0, [], rfl, rfl, Nat.zero_le _, rfl, Nat.zero_le _, Lib.hid rfl, Lib.hid rfl, Lib.hid (OwR.nil _ _ _ _ _), Lib.hid (Grew.refl _)⟩
  case round =>
    obtain ⟨k, n, p1, c1, out, rfl, rfl, hk, rfl, hn, HN, HO, HR, HG⟩ := hrel
    by_cases hlt : k < L.length
    · obtain ⟨b1, o1, rfl, hcc⟩ := (HX.out.kept HG.out).rd.cells (by omega)
      have hx : L[k]? = some L[k] := by simp [hlt]
      have hc1 := hcc k L[k] hx
      have HTK := Lib.hid (List.take_succ_eq_append_getElem hlt)
      have HLT := Lib.hid (Nat.succ_le_of_lt hlt)
      generalize L[k] = x at hc1 hx HTK
      obtain ⟨kk, T, vv, pp⟩ := x
      have q0 : wr.cell? ⟨b1, o1 + k * 4, none⟩ = some (.int .i64 kk) := by simpa using hc1 0 _ rfl
      have q1 : wr.cell? ⟨b1, o1 + k * 4 + 1, none⟩ = some (.string T) := hc1 1 _ rfl
      have q3 : wr.cell? ⟨b1, o1 + k * 4 + 3, none⟩ = some (.int .i64 pp) := hc1 3 _ rfl
      have HSZ := Lib.hid HG.out.sz
      clear hcc hc1 hx
      by_cases h5 : kk = 5
      · subst h5
        have HO9 := Lib.hid (show out ++ [((pp, cmpl T.data.toList) : Dg)] = ers (L.take (k + 1)) by rw [HTK.out, ers_snoc, if_pos rfl, ← HO.out])
        by_cases hz : T.size = 0
        · have hcm : cmpl T.data.toList = cmC := by
            rw [List.eq_nil_of_length_eq_zero (show T.data.toList.length = 0 from hz)]; rfl
          have HO2 : Hid (out ++ [((pp, cmC) : Dg)] = ers (L.take (k + 1))) := Lib.hid (by rw [← hcm]; exact HO9.out)
          have hz0 : decide ((0 : Int) < (T.size : Int)) = false := decide_eq_false (by omega)
          clear hcm HO9
          go_wp2_with (first
            | (at_builtin; refine wpList_append_row encD rfl _ _ 31 rfl w.heap.size 51 (dgv (0, ⟨#[]⟩)) 24 Tryd.underlying31 infoD rfl _ out rfl (HR.out.kept ((Grew.refl _).alloc _)) _ _ _ [((pp, cmC) : Dg)] rfl rfl (madeD _ _ _ _ _ _ (by first | rfl | simp) rfl) (by have := HN.out; simp; omega) (by have := HN.out; simp; omega) (by have h6 := HSZ.out; simp; omega) ?_; intro p2 c2 zs2 w3 hz2 ho2 hb2 hc2; have HO3 := Lib.hid ho2; have HZ2 := Lib.hid hz2.out; have HG3 : Hid (Grew w w3) := Lib.hid (Below.trans (HG.out.alloc _) hb2); clear ho2 hb2 hc2 hz2))
          all_goals first | (exfalso; omega) | skip
          obtain rfl := HZ2.out
          have hln : (out ++ [((pp, cmC) : Dg)]).length = n + 1 := by rw [List.length_append, HN.out]; rfl
          have HLN := Lib.hid hln
          rw [hln]
          clear hln
          go_roundg (L.length - (k + 1))
          case measure => have := HLT.out; omega
          case rel => exact ⟨k + 1, n + 1, p2, c2, out ++ [((pp, cmC) : Dg)], rfl, by go_num, HLT.out, rfl, by omega, HLN, HO2, Lib.hid (by have h5 := HO3.out; rw [HLN.out] at h5; exact h5), HG3⟩
        · have hpos : 0 < T.size := Nat.pos_of_ne_zero hz
          have HLC := Lib.hid (fun W => HL.out T[0] W)
          have HDC := Lib.hid (fun W => HD.out T[0] W)
          have hg1 := hd_get (p := ltr) hpos
          have hg2 := hd_get (p := dig) hpos
          cases h1 : ltr T[0] with
          | true =>
            have h2 : dig T[0] = false := by
              rw [Bool.eq_false_iff]
              intro h3
              rw [dig_ltr h3] at h1
              cases h1
            rw [h1] at HLC hg1
            rw [h2] at HDC
            have hcm : cmpl T.data.toList = cmA := by rw [cmpl, hg1, if_pos rfl]
            have HO2 : Hid (out ++ [((pp, cmA) : Dg)] = ers (L.take (k + 1))) := Lib.hid (by rw [← hcm]; exact HO9.out)
            clear hcm HO9 h1 h2 hg1 hg2
            go_wp2_with (first
              | (go_at_call 31; (with_reducible refine (HLC.out _).mono ?_); rintro e w1 ⟨rfl, hw1⟩; subst w1)
              | (go_at_call 32; (with_reducible refine (HDC.out _).mono ?_); rintro e w1 ⟨rfl, hw1⟩; subst w1)
              | (at_builtin; refine wpList_append_row encD rfl _ _ 31 rfl w.heap.size 51 (dgv (0, ⟨#[]⟩)) 24 Tryd.underlying31 infoD rfl _ out rfl (HR.out.kept ((Grew.refl _).alloc _)) _ _ _ [((pp, cmA) : Dg)] rfl rfl (madeD _ _ _ _ _ _ (by first | rfl | simp) rfl) (by have := HN.out; simp; omega) (by have := HN.out; simp; omega) (by have h6 := HSZ.out; simp; omega) ?_; intro p2 c2 zs2 w3 hz2 ho2 hb2 hc2; have HO3 := Lib.hid ho2; have HZ2 := Lib.hid hz2.out; have HG3 : Hid (Grew w w3) := Lib.hid (Below.trans (HG.out.alloc _) hb2); clear ho2 hb2 hc2 hz2))
            all_goals first | (exfalso; omega) | skip
            obtain rfl := HZ2.out
            have hln : (out ++ [((pp, cmA) : Dg)]).length = n + 1 := by rw [List.length_append, HN.out]; rfl
            have HLN := Lib.hid hln
            rw [hln]
            clear hln
            go_roundg (L.length - (k + 1))
            case measure => have := HLT.out; omega
            case rel => exact ⟨k + 1, n + 1, p2, c2, out ++ [((pp, cmA) : Dg)], rfl, by go_num, HLT.out, rfl, by omega, HLN, HO2, Lib.hid (by have h5 := HO3.out; rw [HLN.out] at h5; exact h5), HG3⟩
          | false =>
            rw [h1] at HLC hg1
            cases h2 : dig T[0] with
            | true =>
              rw [h2] at HDC hg2
              have hcm : cmpl T.data.toList = cmB := by rw [cmpl, hg1, if_neg (by simp), hg2, if_pos rfl]
              have HO2 : Hid (out ++ [((pp, cmB) : Dg)] = ers (L.take (k + 1))) := Lib.hid (by rw [← hcm]; exact HO9.out)
              clear hcm HO9 h1 h2 hg1 hg2
              go_wp2_with (first
                | (go_at_call 31; (with_reducible refine (HLC.out _).mono ?_); rintro e w1 ⟨rfl, hw1⟩; subst w1)
                | (go_at_call 32; (with_reducible refine (HDC.out _).mono ?_); rintro e w1 ⟨rfl, hw1⟩; subst w1)
                | (at_builtin; refine wpList_append_row encD rfl _ _ 31 rfl w.heap.size 51 (dgv (0, ⟨#[]⟩)) 24 Tryd.underlying31 infoD rfl _ out rfl (HR.out.kept ((Grew.refl _).alloc _)) _ _ _ [((pp, cmB) : Dg)] rfl rfl (madeD _ _ _ _ _ _ (by first | rfl | simp) rfl) (by have := HN.out; simp; omega) (by have := HN.out; simp; omega) (by have h6 := HSZ.out; simp; omega) ?_; intro p2 c2 zs2 w3 hz2 ho2 hb2 hc2; have HO3 := Lib.hid ho2; have HZ2 := Lib.hid hz2.out; have HG3 : Hid (Grew w w3) := Lib.hid (Below.trans (HG.out.alloc _) hb2); clear ho2 hb2 hc2 hz2))
              all_goals first | (exfalso; omega) | skip
              obtain rfl := HZ2.out
              have hln : (out ++ [((pp, cmB) : Dg)]).length = n + 1 := by rw [List.length_append, HN.out]; rfl
              have HLN := Lib.hid hln
              rw [hln]
              clear hln
              go_roundg (L.length - (k + 1))
              case measure => have := HLT.out; omega
              case rel => exact ⟨k + 1, n + 1, p2, c2, out ++ [((pp, cmB) : Dg)], rfl, by go_num, HLT.out, rfl, by omega, HLN, HO2, Lib.hid (by have h5 := HO3.out; rw [HLN.out] at h5; exact h5), HG3⟩
            | false =>
              rw [h2] at HDC hg2
              have hcm : cmpl T.data.toList = cmC := by rw [cmpl, hg1, if_neg (by simp), hg2, if_neg (by simp)]
              have HO2 : Hid (out ++ [((pp, cmC) : Dg)] = ers (L.take (k + 1))) := Lib.hid (by rw [← hcm]; exact HO9.out)
              clear hcm HO9 h1 h2 hg1 hg2
              go_wp2_with (first
                | (go_at_call 31; (with_reducible refine (HLC.out _).mono ?_); rintro e w1 ⟨rfl, hw1⟩; subst w1)
                | (go_at_call 32; (with_reducible refine (HDC.out _).mono ?_); rintro e w1 ⟨rfl, hw1⟩; subst w1)
                | (at_builtin; refine wpList_append_row encD rfl _ _ 31 rfl w.heap.size 51 (dgv (0, ⟨#[]⟩)) 24 Tryd.underlying31 infoD rfl _ out rfl (HR.out.kept ((Grew.refl _).alloc _)) _ _ _ [((pp, cmC) : Dg)] rfl rfl (madeD _ _ _ _ _ _ (by first | rfl | simp) rfl) (by have := HN.out; simp; omega) (by have := HN.out; simp; omega) (by have h6 := HSZ.out; simp; omega) ?_; intro p2 c2 zs2 w3 hz2 ho2 hb2 hc2; have HO3 := Lib.hid ho2; have HZ2 := Lib.hid hz2.out; have HG3 : Hid (Grew w w3) := Lib.hid (Below.trans (HG.out.alloc _) hb2); clear ho2 hb2 hc2 hz2))
              all_goals first | (exfalso; omega) | skip
              obtain rfl := HZ2.out
              have hln : (out ++ [((pp, cmC) : Dg)]).length = n + 1 := by rw [List.length_append, HN.out]; rfl
              have HLN := Lib.hid hln
              rw [hln]
              clear hln
              go_roundg (L.length - (k + 1))
              case measure => have := HLT.out; omega
              case rel => exact ⟨k + 1, n + 1, p2, c2, out ++ [((pp, cmC) : Dg)], rfl, by go_num, HLT.out, rfl, by omega, HLN, HO2, Lib.hid (by have h5 := HO3.out; rw [HLN.out] at h5; exact h5), HG3⟩
      · have HO2 : Hid (out = ers (L.take (k + 1))) := Lib.hid (by rw [HTK.out, ers_snoc, if_neg h5, ← HO.out])
        have h5b : (kk != 5) = true := bne_iff_ne.2 h5
        go_wp2
        all_goals first | (exfalso; omega) | skip
        go_roundg (L.length - (k + 1))
        case measure => have := HLT.out; omega
        case rel => exact ⟨k + 1, n, p1, c1, out, rfl, by go_num, HLT.out, rfl, by omega, HN, HO2, HR, HG⟩
    · obtain rfl : k = L.length := by omega
      rw [List.take_length] at HO
      go_wp2
      go_ret
      have hz : out = ers L := HO.out
      rw [← hz, HN.out]
      exact ⟨p1, c1, rfl, (HR.out.rd encD).2, HG.out⟩
end Go.Proofs.YtcajamgajchheaaDoor
