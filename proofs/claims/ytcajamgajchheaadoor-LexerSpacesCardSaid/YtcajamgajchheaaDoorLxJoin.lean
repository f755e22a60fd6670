/-
  LAYER 15: Join of the program.
-/
import Derived.Test.YtcajamgajchheaaDoorLxSep
import Derived.Test.YtcajamgajchheaaDoorLxBuild
namespace Go.Proofs.YtcajamgajchheaaDoor
open Go Go.RowKit Go.IntWalk
set_option linter.unusedSimpArgs false
set_option linter.unusedVariables false
set_option maxRecDepth 8000
theorem wstr_bytes (N b : Nat) (xs : List UInt8) (t : ByteArray) (w : World) (h : Bld N b xs w) (hl : xs.length + t.size ≤ 140737488355328) (hN : N ≤ w.heap.size) :
    Calls Tryd.prog 35 #[PtrTo b, .string t] w fun e w' => (∃ v, e = .returned v) ∧ Bld N b (xs ++ t.data.toList) w' ∧ Wrote N b w w' :=
  wstr_any N b xs t.data.toList w h hl hN
theorem wbyte_sp (N b : Nat) (xs : List UInt8) (w : World) (h : Bld N b xs w) (hl : xs.length ≤ 2000000) (hN : N ≤ w.heap.size) :
    Calls Tryd.prog 34 #[PtrTo b, .int .u8 32] w fun e w' => e = .returned .nilIface ∧ Bld N b (xs ++ [32]) w' ∧ Wrote N b w w' := wbyte_any N b xs 32 w h (by omega) hN
def txl (t : Tk) : List UInt8 := t.text.data.toList
theorem jn_drop {L : List Tk} {k : Nat} (h : k < L.length) (la : List UInt8) : jn la ((L.map txl).drop k) = if txl L[k] = [] then jn la ((L.map txl).drop (k + 1)) else (if la ≠ [] ∧ sep la (txl L[k]) = false then [32] else []) ++ (txl L[k] ++ jn (txl L[k]) ((L.map txl).drop (k + 1))) := by
  have hl : k < (L.map txl).length := by simpa using h
  rw [List.drop_eq_getElem_cons hl, List.getElem_map]
  rfl
set_option maxHeartbeats 8000000 in
theorem joinP_any (p : Option Addr) (c : Nat) (L : List Tk) (w : World) (h : Rw 4 tkc w p c L) (hl : L.length ≤ 1000) (ht : ∀ t ∈ L, t.text.size ≤ 1000) (hE : Env w) : Calls Tryd.prog 19 #[.slice p L.length c] w fun e w' => e = .returned (.string ⟨(jn [] (L.map txl)).toArray⟩) ∧ Grew w w' := by
  have HX := Lib.hid h
  have hcap := h.cap
  have hmax := h.max
  have HE := Lib.hid hE
  have HTS := Lib.hid ht
  have HS := Lib.hid (fun a b h1 h2 h3 W h4 => sep_any a b h1 h2 h3 W h4)
  have HJD := Lib.hid (fun k (h : k < L.length) la => jn_drop h la)
  have hnt := fun W => not_run true W
  have hnf := fun W => not_run false W
  rw [Bool.not_true] at hnt
  rw [Bool.not_false] at hnf
  have HB0 := Lib.hid (Bld.made w.heap.size w (Nat.le_refl _))
  clear h ht hE
  go_enter Tryd.func19, Tryd.ntmps19
  go_wp2
  go_loopg [4, 6, 9] L.length (fun gg lv bv iv wr => ∃ (k : Nat) (la : ByteArray) (xs : List UInt8), lv = .string la ∧ iv = .int .i64 (k : Int) ∧ k ≤ L.length ∧ gg = L.length - k ∧ la.size ≤ 1000 ∧ Hid (xs ++ jn la.data.toList ((L.map txl).drop k) = jn [] (L.map txl)) ∧ Hid (xs.length ≤ 1001 * k) ∧ Hid (Bld w.heap.size w.heap.size xs wr) ∧ Hid (Grew w wr))
  case atStart => exact ⟨0, ⟨#[]⟩, [], rfl, rfl, Nat.zero_le _, rfl, Nat.zero_le _, Lib.hid rfl, Lib.hid (Nat.zero_le _), HB0, Lib.hid ((Grew.refl _).alloc _)⟩
  case round =>
    obtain ⟨k, la, xs, rfl, rfl, hk, rfl, hla, HJ, HLL, HB, HG⟩ := hrel
    by_cases hlt : k < L.length
    · obtain ⟨b1, o1, rfl, hcc⟩ := (HX.out.kept HG.out).rd.cells (by omega)
      have hx : L[k]? = some L[k] := by simp [hlt]
      have hc1 := hcc k L[k] hx
      have HLT := Lib.hid (Nat.succ_le_of_lt hlt)
      have hjd := HJD.out k hlt la.data.toList
      have hTz : L[k].text.size ≤ 1000 := HTS.out _ (List.getElem_mem hlt)
      generalize L[k] = x at hc1 hx hjd hTz
      obtain ⟨kk, T, vv, pp⟩ := x
      replace hTz : T.size ≤ 1000 := hTz
      replace hjd : jn la.data.toList ((L.map txl).drop k) = if T.data.toList = [] then jn la.data.toList ((L.map txl).drop (k + 1)) else (if la.data.toList ≠ [] ∧ sep la.data.toList T.data.toList = false then [32] else []) ++ (T.data.toList ++ jn T.data.toList ((L.map txl).drop (k + 1))) := hjd
      have HJK := Lib.hid hjd
      have HLX : Hid (xs.length ≤ 2000000) := Lib.hid (by have := HLL.out; omega)
      have q0 : wr.cell? ⟨b1, o1 + k * 4, none⟩ = some (.int .i64 kk) := by simpa using hc1 0 _ rfl
      have q1 : wr.cell? ⟨b1, o1 + k * 4 + 1, none⟩ = some (.string T) := hc1 1 _ rfl
      have q2 : wr.cell? ⟨b1, o1 + k * 4 + 2, none⟩ = some (.int .i16 vv) := hc1 2 _ rfl
      have q3 : wr.cell? ⟨b1, o1 + k * 4 + 3, none⟩ = some (.int .i64 pp) := hc1 3 _ rfl
      clear hcc hc1 hx hjd
      go_upto_region 6 with fail
      have hb : Blk wr.heap.size (tkc ⟨kk, T, vv, pp⟩) 41 (wr.alloc (Obj.cells #[.int .i64 kk, .string T, .int .i16 vv, .int .i64 pp] 41)) := Blk.new wr _ _
      have hgV : Grew wr (wr.alloc (Obj.cells #[.int .i64 kk, .string T, .int .i16 vv, .int .i64 pp] 41)) := (Grew.refl _).alloc _
      generalize (wr.alloc (Obj.cells #[.int .i64 kk, .string T, .int .i16 vv, .int .i64 pp] 41)) = V at hb hgV ⊢
      have hsn : wr.heap.size ≠ w.heap.size := fun e => by have := HB.out.lt; omega
      generalize wr.heap.size = S at hb hsn ⊢
      have HSN := Lib.hid hsn
      have HXB := Lib.hid hb
      have HBD := Lib.hid (HB.out.grew hgV)
      have HGW := Lib.hid (HG.out.trans hgV)
      have HEV := Lib.hid (HE.out.grew HGW.out)
      clear q0 q1 q2 q3
      have q1 := hb.cell 1
      clear hb hgV hsn
      by_cases hT : T.data.toList = []
      · have hT1 : T.toList = [] := by rw [ByteArray.toList_eq]; exact hT
        have HJ2 : Hid (xs ++ jn la.data.toList ((L.map txl).drop (k + 1)) = jn [] (L.map txl)) := Lib.hid (by rw [← HJ.out, HJK.out, if_pos hT])
        have HL2 : Hid (xs.length ≤ 1001 * (k + 1)) := Lib.hid (by have := HLL.out; omega)
        clear hT HJK
        go_wp2
        all_goals first | (exfalso; omega) | skip
        go_roundg (L.length - (k + 1))
        case measure => have := HLT.out; omega
        case rel => exact ⟨k + 1, la, xs, rfl, by go_num, HLT.out, rfl, hla, HJ2, HL2, HBD, HGW⟩
      · have hT1 : ¬ T.toList = [] := by rw [ByteArray.toList_eq]; exact hT
        have hT2 : T.toList.isEmpty = false := by rw [List.isEmpty_eq_false_iff]; exact hT1
        by_cases hL0 : la.data.toList = []
        · have hL1 : la.toList = [] := by rw [ByteArray.toList_eq]; exact hL0
          have HJK2 : Hid (jn la.data.toList ((L.map txl).drop k) = T.data.toList ++ jn T.data.toList ((L.map txl).drop (k + 1))) := Lib.hid (by rw [HJK.out, if_neg hT, if_neg (fun h => h.1 hL0)]; rfl)
          clear hT hL0 HJK
          have HX1 := HXB
          have HB1 := HBD
          have HG1 := HGW
          have HJ2 : Hid ((xs ++ T.data.toList) ++ jn T.data.toList ((L.map txl).drop (k + 1)) = jn [] (L.map txl)) := Lib.hid (by rw [← HJ.out, HJK2.out, List.append_assoc])
          have HL2 : Hid ((xs ++ T.data.toList).length ≤ 1001 * (k + 1)) := Lib.hid (by have := HLL.out; have hz : T.data.toList.length = T.size := rfl; rw [List.length_append, hz]; omega)
          go_wp2_with (first
            | (go_at_call 35; (with_reducible refine (wstr_bytes _ _ _ _ _ HB1.out (by have := HLX.out; simp; omega) HG1.out.sz).mono ?_); rintro e w4 ⟨⟨v4, rfl⟩, b4, k4⟩; have HB4 := Lib.hid b4; have HX4 := Lib.hid (HX1.out.wrote k4 HSN.out (by decide)); have HG4 : Hid (Grew w w4) := Lib.hid (Below.trans HG1.out k4.1); clear b4 k4 q1; have q1 := HX4.out.cell 1))
          all_goals first | (exfalso; omega) | skip
          go_roundg (L.length - (k + 1))
          case measure => have := HLT.out; omega
          case rel => exact ⟨k + 1, T, xs ++ T.data.toList, rfl, by go_num, HLT.out, rfl, hTz, HJ2, HL2, HB4, HG4⟩
        · have hL1 : ¬ la.toList = [] := by rw [ByteArray.toList_eq]; exact hL0
          have hL2 : la.toList.isEmpty = false := by rw [List.isEmpty_eq_false_iff]; exact hL1
          have hsp := fun W h => HS.out la T (by omega) hL0 hT W h
          cases hb : sep la.data.toList T.data.toList with
          | true =>
            rw [hb] at hsp
            have HSP := Lib.hid hsp
            have HJK2 : Hid (jn la.data.toList ((L.map txl).drop k) = T.data.toList ++ jn T.data.toList ((L.map txl).drop (k + 1))) := Lib.hid (by rw [HJK.out, if_neg hT, hb, if_neg (fun h => by cases h.2)]; rfl)
            clear hT hL0 HJK hsp hb
            have HJ2 : Hid ((xs ++ T.data.toList) ++ jn T.data.toList ((L.map txl).drop (k + 1)) = jn [] (L.map txl)) := Lib.hid (by rw [← HJ.out, HJK2.out, List.append_assoc])
            have HL2 : Hid ((xs ++ T.data.toList).length ≤ 1001 * (k + 1)) := Lib.hid (by have := HLL.out; have hz : T.data.toList.length = T.size := rfl; rw [List.length_append, hz]; omega)
            go_wp2_with (first
              | (go_at_call 33; (with_reducible refine (HSP.out _ HEV.out).mono ?_); rintro e w2 ⟨rfl, g2⟩; have HX2 := Lib.hid (HXB.out.grew g2); have HB2 := Lib.hid (HBD.out.grew g2); have HG2 := Lib.hid (HGW.out.trans g2); clear g2 q1; have q1 := HX2.out.cell 1)
              | (go_at_call 35; (with_reducible refine (wstr_bytes _ _ _ _ _ HB2.out (by have := HLX.out; simp; omega) HG2.out.sz).mono ?_); rintro e w4 ⟨⟨v4, rfl⟩, b4, k4⟩; have HB4 := Lib.hid b4; have HX4 := Lib.hid (HX2.out.wrote k4 HSN.out (by decide)); have HG4 : Hid (Grew w w4) := Lib.hid (Below.trans HG2.out k4.1); clear b4 k4 q1; have q1 := HX4.out.cell 1))
            all_goals first | (exfalso; omega) | skip
            go_roundg (L.length - (k + 1))
            case measure => have := HLT.out; omega
            case rel => exact ⟨k + 1, T, xs ++ T.data.toList, rfl, by go_num, HLT.out, rfl, hTz, HJ2, HL2, HB4, HG4⟩
          | false =>
            rw [hb] at hsp
            have HSP := Lib.hid hsp
            have HJK2 : Hid (jn la.data.toList ((L.map txl).drop k) = [32] ++ (T.data.toList ++ jn T.data.toList ((L.map txl).drop (k + 1)))) := Lib.hid (by rw [HJK.out, if_neg hT, hb, if_pos ⟨hL0, rfl⟩])
            clear hT hL0 HJK hsp hb
            have HJ2 : Hid ((xs ++ [32] ++ T.data.toList) ++ jn T.data.toList ((L.map txl).drop (k + 1)) = jn [] (L.map txl)) := Lib.hid (by rw [← HJ.out, HJK2.out, List.append_assoc, List.append_assoc])
            have HL2 : Hid ((xs ++ [32] ++ T.data.toList).length ≤ 1001 * (k + 1)) := Lib.hid (by have := HLL.out; have hz : T.data.toList.length = T.size := rfl; rw [List.length_append, List.length_append, hz, List.length_singleton]; omega)
            go_wp2_with (first
              | (go_at_call 33; (with_reducible refine (HSP.out _ HEV.out).mono ?_); rintro e w2 ⟨rfl, g2⟩; have HX2 := Lib.hid (HXB.out.grew g2); have HB2 := Lib.hid (HBD.out.grew g2); have HG2 := Lib.hid (HGW.out.trans g2); clear g2 q1; have q1 := HX2.out.cell 1)
              | (go_at_call 34; (with_reducible refine (wbyte_sp _ _ _ _ HB2.out HLX.out HG2.out.sz).mono ?_); rintro e w3 ⟨rfl, b3, k3⟩; have HB3 := Lib.hid b3; have HX3 := Lib.hid (HX2.out.wrote k3 HSN.out (by decide)); have HG3 : Hid (Grew w w3) := Lib.hid (Below.trans HG2.out k3.1); clear b3 k3 q1; have q1 := HX3.out.cell 1)
              | (go_at_call 35; (with_reducible refine (wstr_bytes _ _ _ _ _ HB3.out (by have := HLX.out; simp; omega) HG3.out.sz).mono ?_); rintro e w4 ⟨⟨v4, rfl⟩, b4, k4⟩; have HB4 := Lib.hid b4; have HX4 := Lib.hid (HX3.out.wrote k4 HSN.out (by decide)); have HG4 : Hid (Grew w w4) := Lib.hid (Below.trans HG3.out k4.1); clear b4 k4 q1; have q1 := HX4.out.cell 1))
            all_goals first | (exfalso; omega) | skip
            go_roundg (L.length - (k + 1))
            case measure => have := HLT.out; omega
            case rel => exact ⟨k + 1, T, xs ++ [32] ++ T.data.toList, rfl, by go_num, HLT.out, rfl, hTz, HJ2, HL2, HB4, HG4⟩
    · obtain rfl : k = L.length := by omega
      have HF : Hid (xs = jn [] (L.map txl)) := Lib.hid (by
        rw [← HJ.out, List.drop_of_length_le (by simp), jn, List.append_nil])
      go_wp2_with (go_at_call 36; (with_reducible refine (str_any _ _ _ _ HB.out HG.out.sz).mono ?_); rintro e w5 ⟨rfl, b5⟩; have HG5 : Hid (Grew w w5) := Lib.hid (Below.trans HG.out b5); clear b5)
      go_ret
      exact ⟨ret_string (by rw [HF.out]), HG5.out⟩
end Go.Proofs.YtcajamgajchheaaDoor
