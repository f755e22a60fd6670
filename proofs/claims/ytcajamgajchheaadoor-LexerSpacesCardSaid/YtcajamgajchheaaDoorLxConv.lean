/-
  LAYER 15: plain and own, which turn tokens of the program into the reference's and back.
-/
import Derived.Test.YtcajamgajchheaaDoorLxScanR
namespace Go.Proofs.YtcajamgajchheaaDoor
open Go Go.RowKit Go.IntWalk
set_option linter.unusedSimpArgs false
set_option linter.unusedVariables false
set_option maxRecDepth 8000
set_option maxHeartbeats 8000000 in
theorem plain_any (p : Option Addr) (c : Nat) (L : List Tk) (w : World) (h : Rw 4 tkc w p c L) (hl : L.length ≤ 200000) : Calls Tryd.prog 12 #[.slice p L.length c] w fun e w' => ∃ p' c', e = .returned (.slice p' L.length c') ∧ Rw 4 tkc w' p' c' L ∧ Grew w w' := by
  have HX := Lib.hid h
  have hcap := h.cap
  have hmax := h.max
  clear h
  go_enter Tryd.func12, Tryd.ntmps12
  go_wp2
  go_loopg [3, 5, 8] L.length (fun gg lv bv iv wr => ∃ (k : Nat) (p1 : Option Addr) (c1 : Nat) (out : List Tk), lv = .slice p1 k c1 ∧ iv = .int .i64 (k : Int) ∧ k ≤ L.length ∧ gg = L.length - k ∧ Hid (out.length = k) ∧ Hid (out = L.take k) ∧ Hid (OwR wr w.heap.size 38 4 tkc (.slice p1 k c1) out) ∧ Hid (Grew w wr))
  case atStart => exact ⟨0, none, 0, [], rfl, rfl, Nat.zero_le _, rfl, Lib.hid rfl, Lib.hid rfl, Lib.hid (OwR.nil _ _ _ _ _), Lib.hid (Grew.refl _)⟩
  case round =>
    obtain ⟨k, p1, c1, out, rfl, rfl, hk, rfl, HN, HO, HR, HG⟩ := hrel
    by_cases hlt : k < L.length
    · obtain ⟨b1, o1, rfl, hcc⟩ := (HX.out.kept HG.out).rd.cells (by omega)
      have hx : L[k]? = some L[k] := by simp [hlt]
      have hc1 := hcc k L[k] hx
      have HTK := Lib.hid (List.take_succ_eq_append_getElem hlt)
      have HLT := Lib.hid (Nat.succ_le_of_lt hlt)
      generalize L[k] = x at hc1 hx HTK
      obtain ⟨kk, T, vv, pp⟩ := x
      have q0 : wr.cell? ⟨b1, o1 + k * 4, none⟩ = some (.int .i64 kk) := by simpa using hc1 0 _ rfl
      have q1 : wr.cell? ⟨b1, o1 + k * 4 + 1, none⟩ = some (.string T) := hc1 1 _ rfl
      have q2 : wr.cell? ⟨b1, o1 + k * 4 + 2, none⟩ = some (.int .i16 vv) := hc1 2 _ rfl
      have q3 : wr.cell? ⟨b1, o1 + k * 4 + 3, none⟩ = some (.int .i64 pp) := hc1 3 _ rfl
      have HSZ := Lib.hid HG.out.sz
      clear hcc hc1 hx
      go_wp2_with (at_builtin; refine wpList_append_row encT rfl _ _ 24 rfl w.heap.size 38 (tkv ⟨0, ⟨#[]⟩, 0, 0⟩) 40 Tryd.underlying24 infoU rfl _ out rfl (HR.out.kept (((Grew.refl _).alloc _).alloc _)) _ _ _ [⟨kk, T, vv, pp⟩] rfl rfl (madeT _ _ _ _ _ _ (by simp) rfl) (by have := HN.out; simp; omega) (by have := HN.out; simp; omega) (by have h6 := HSZ.out; simp; omega) ?_; intro p2 c2 zs2 w3 hz2 ho2 hb2 hc2; have HO2 := Lib.hid ho2; have HZ2 := Lib.hid hz2.out; have HG3 : Hid (Grew w w3) := Lib.hid (Below.trans ((HG.out.alloc _).alloc _) hb2); clear ho2 hb2 hc2 hz2)
      obtain rfl := HZ2.out
      have hln : (out ++ [(⟨kk, T, vv, pp⟩ : Tk)]).length = k + 1 := by rw [List.length_append, HN.out]; rfl
      have HLN := Lib.hid hln
      rw [hln]
      clear hln
      go_roundg (L.length - (k + 1))
      case measure => have := HLT.out; omega
      case rel => exact ⟨k + 1, p2, c2, out ++ [⟨kk, T, vv, pp⟩], rfl, by go_num, HLT.out, rfl, HLN, Lib.hid (by rw [HTK.out, HO.out]), Lib.hid (by have h5 := HO2.out; rw [HLN.out] at h5; exact h5), HG3⟩
    · obtain rfl : k = L.length := by omega
      rw [List.take_length] at HO
      go_wp2
      go_ret
      have hz : out = L := HO.out
      subst hz
      exact ⟨p1, c1, rfl, (HR.out.rd encT).2, HG.out⟩
set_option maxHeartbeats 8000000 in
theorem own_any (p : Option Addr) (c : Nat) (L : List Tk) (w : World) (h : Rw 4 tkc w p c L) (hl : L.length ≤ 200000) : Calls Tryd.prog 17 #[.slice p L.length c] w fun e w' => ∃ p' c', e = .returned (.slice p' L.length c') ∧ Rw 4 tkc w' p' c' L ∧ Grew w w' := by
  have HX := Lib.hid h
  have hcap := h.cap
  have hmax := h.max
  clear h
  go_enter Tryd.func17, Tryd.ntmps17
  go_wp2
  go_loopg [3, 5, 8] L.length (fun gg lv bv iv wr => ∃ (k : Nat) (p1 : Option Addr) (c1 : Nat) (out : List Tk), lv = .slice p1 k c1 ∧ iv = .int .i64 (k : Int) ∧ k ≤ L.length ∧ gg = L.length - k ∧ Hid (out.length = k) ∧ Hid (out = L.take k) ∧ Hid (OwR wr w.heap.size 41 4 tkc (.slice p1 k c1) out) ∧ Hid (Grew w wr))
  case atStart => exact ⟨0, none, 0, [], rfl, rfl, Nat.zero_le _, rfl, Lib.hid rfl, Lib.hid rfl, Lib.hid (OwR.nil _ _ _ _ _), Lib.hid (Grew.refl _)⟩
  case round =>
    obtain ⟨k, p1, c1, out, rfl, rfl, hk, rfl, HN, HO, HR, HG⟩ := hrel
    by_cases hlt : k < L.length
    · obtain ⟨b1, o1, rfl, hcc⟩ := (HX.out.kept HG.out).rd.cells (by omega)
      have hx : L[k]? = some L[k] := by simp [hlt]
      have hc1 := hcc k L[k] hx
      have HTK := Lib.hid (List.take_succ_eq_append_getElem hlt)
      have HLT := Lib.hid (Nat.succ_le_of_lt hlt)
      generalize L[k] = x at hc1 hx HTK
      obtain ⟨kk, T, vv, pp⟩ := x
      have q0 : wr.cell? ⟨b1, o1 + k * 4, none⟩ = some (.int .i64 kk) := by simpa using hc1 0 _ rfl
      have q1 : wr.cell? ⟨b1, o1 + k * 4 + 1, none⟩ = some (.string T) := hc1 1 _ rfl
      have q2 : wr.cell? ⟨b1, o1 + k * 4 + 2, none⟩ = some (.int .i16 vv) := hc1 2 _ rfl
      have q3 : wr.cell? ⟨b1, o1 + k * 4 + 3, none⟩ = some (.int .i64 pp) := hc1 3 _ rfl
      have HSZ := Lib.hid HG.out.sz
      clear hcc hc1 hx
      go_wp2_with (at_builtin; refine wpList_append_row encT rfl _ _ 26 rfl w.heap.size 41 (tkv ⟨0, ⟨#[]⟩, 0, 0⟩) 40 Tryd.underlying26 infoT rfl _ out rfl (HR.out.kept (((Grew.refl _).alloc _).alloc _)) _ _ _ [⟨kk, T, vv, pp⟩] rfl rfl (madeT _ _ _ _ _ _ (by simp) rfl) (by have := HN.out; simp; omega) (by have := HN.out; simp; omega) (by have h6 := HSZ.out; simp; omega) ?_; intro p2 c2 zs2 w3 hz2 ho2 hb2 hc2; have HO2 := Lib.hid ho2; have HZ2 := Lib.hid hz2.out; have HG3 : Hid (Grew w w3) := Lib.hid (Below.trans ((HG.out.alloc _).alloc _) hb2); clear ho2 hb2 hc2 hz2)
      obtain rfl := HZ2.out
      have hln : (out ++ [(⟨kk, T, vv, pp⟩ : Tk)]).length = k + 1 := by rw [List.length_append, HN.out]; rfl
      have HLN := Lib.hid hln
      rw [hln]
      clear hln
      go_roundg (L.length - (k + 1))
      case measure => have := HLT.out; omega
      case rel => exact ⟨k + 1, p2, c2, out ++ [⟨kk, T, vv, pp⟩], rfl, by go_num, HLT.out, rfl, HLN, Lib.hid (by rw [HTK.out, HO.out]), Lib.hid (by have h5 := HO2.out; rw [HLN.out] at h5; exact h5), HG3⟩
    · obtain rfl : k = L.length := by omega
      rw [List.take_length] at HO
      go_wp2
      go_ret
      have hz : out = L := HO.out
      subst hz
      exact ⟨p1, c1, rfl, (HR.out.rd encT).2, HG.out⟩
end Go.Proofs.YtcajamgajchheaaDoor
