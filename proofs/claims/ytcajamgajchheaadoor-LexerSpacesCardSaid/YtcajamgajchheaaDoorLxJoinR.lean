/-
  LAYER 15: Join of the reference.
-/
import Derived.Test.YtcajamgajchheaaDoorLxJoin
namespace Go.Proofs.YtcajamgajchheaaDoor
open Go Go.RowKit Go.IntWalk
set_option linter.unusedSimpArgs false
set_option linter.unusedVariables false
set_option maxRecDepth 8000
theorem scan_len (xs : List UInt8) : (scan xs).length = (txs xs).length + 1 := by
  rw [scan, List.length_append, scn_len]; rfl
theorem scan_at {xs : List UInt8} {i : Nat} {t : List UInt8} (h : (txs xs)[i]? = some t) : ∃ x, (scan xs)[i]? = some x ∧ x.text.data.toList = t := by
  have h1 := scn_text 0 xs
  rw [← h1, List.getElem?_map] at h
  cases hx : (scn 0 xs)[i]? with
  | none => rw [hx] at h; cases h
  | some x =>
    rw [hx] at h
    have hi := (List.getElem?_eq_some_iff.1 hx).1
    exact ⟨x, by rw [scan, List.getElem?_append_left hi, hx], Option.some.inj h⟩
set_option maxHeartbeats 8000000 in
theorem joinR_any (p : Option Addr) (c : Nat) (L : List Tk) (w : World) (h : Rw 4 tkc w p c L) (hl : L.length ≤ 1000) (ht : ∀ t ∈ L, t.text.size ≤ 1000) : Calls Tryd.prog 20 #[.slice p L.length c] w fun e w' => e = .returned (.string ⟨(jn [] (L.map txl)).toArray⟩) ∧ Grew w w' := by
  have HX := Lib.hid h
  have hcap := h.cap
  have hmax := h.max
  have HTS := Lib.hid ht
  have HS := Lib.hid (fun s hs W => scanR_any s hs W)
  have HJD := Lib.hid (fun k (h : k < L.length) la => jn_drop h la)
  clear h ht
  go_enter Tryd.func20, Tryd.ntmps20
  go_wp2
  go_loopg [3, 4, 5, 6, 7] L.length (fun gg sv lv iv tv bv wr => ∃ (k : Nat) (la sx : ByteArray), sv = .string sx ∧ lv = .string la ∧ iv = .int .i64 (k : Int) ∧ k ≤ L.length ∧ gg = L.length - k ∧ la.size ≤ 1000 ∧ Hid (sx.data.toList ++ jn la.data.toList ((L.map txl).drop k) = jn [] (L.map txl)) ∧ sx.size ≤ 1001 * k ∧ Hid (Grew w wr))
  case atStart => exact ⟨0, ⟨#[]⟩, ⟨#[]⟩, rfl, rfl, rfl, Nat.zero_le _, rfl, Nat.zero_le _, Lib.hid rfl, Nat.zero_le _, Lib.hid (Grew.refl _)⟩
  case round =>
    obtain ⟨k, la, sx, rfl, rfl, rfl, hk, rfl, hla, HJ, hsz, HG⟩ := hrel
    by_cases hlt : k < L.length
    · obtain ⟨b1, o1, rfl, hcc⟩ := (HX.out.kept HG.out).rd.cells (by omega)
      have hx : L[k]? = some L[k] := by simp [hlt]
      have hc1 := hcc k L[k] hx
      have HLT := Lib.hid (Nat.succ_le_of_lt hlt)
      have hjd := HJD.out k hlt la.data.toList
      have hTz : L[k].text.size ≤ 1000 := HTS.out _ (List.getElem_mem hlt)
      generalize L[k] = x at hc1 hx hjd hTz
      obtain ⟨kk, T, vv, pp⟩ := x
      replace hTz : T.size ≤ 1000 := hTz
      replace hjd : jn la.data.toList ((L.map txl).drop k) = if T.data.toList = [] then jn la.data.toList ((L.map txl).drop (k + 1)) else (if la.data.toList ≠ [] ∧ sep la.data.toList T.data.toList = false then [32] else []) ++ (T.data.toList ++ jn T.data.toList ((L.map txl).drop (k + 1))) := hjd
      have HJK := Lib.hid hjd
      have q1 : wr.cell? ⟨b1, o1 + k * 4 + 1, none⟩ = some (.string T) := hc1 1 _ rfl
      clear hcc hc1 hx hjd
      by_cases hT : T.data.toList = []
      · have hT1 : T.toList = [] := by rw [ByteArray.toList_eq]; exact hT
        have HJ2 : Hid (sx.data.toList ++ jn la.data.toList ((L.map txl).drop (k + 1)) = jn [] (L.map txl)) := Lib.hid (by rw [← HJ.out, HJK.out, if_pos hT])
        clear hT HJK
        go_wp2
        all_goals first | (exfalso; omega) | skip
        go_roundg (L.length - (k + 1))
        case measure => have := HLT.out; omega
        case rel => exact ⟨k + 1, la, sx, rfl, rfl, by go_num, HLT.out, rfl, hla, HJ2, by omega, HG⟩
      · have hT1 : ¬ T.toList = [] := by rw [ByteArray.toList_eq]; exact hT
        have hT2 : T.toList.isEmpty = false := by rw [List.isEmpty_eq_false_iff]; exact hT1
        by_cases hL0 : la.data.toList = []
        · have hL1 : la.toList = [] := by rw [ByteArray.toList_eq]; exact hL0
          have HJK2 : Hid (jn la.data.toList ((L.map txl).drop k) = T.data.toList ++ jn T.data.toList ((L.map txl).drop (k + 1))) := Lib.hid (by rw [HJK.out, if_neg hT, if_neg (fun h => h.1 hL0)]; rfl)
          clear hT hL0 HJK
          have HJ2 : Hid ((sx ++ T).data.toList ++ jn T.data.toList ((L.map txl).drop (k + 1)) = jn [] (L.map txl)) := Lib.hid (by rw [append_list, ← HJ.out, HJK2.out, List.append_assoc])
          have hz2 : (sx ++ T).size ≤ 1001 * (k + 1) := by rw [ByteArray.size_append]; omega
          go_wp2_with fail
          all_goals first | (exfalso; omega) | skip
          go_roundg (L.length - (k + 1))
          case measure => have := HLT.out; omega
          case rel => exact ⟨k + 1, T, sx ++ T, rfl, rfl, by go_num, HLT.out, rfl, hTz, HJ2, hz2, HG⟩
        · have hL1 : ¬ la.toList = [] := by rw [ByteArray.toList_eq]; exact hL0
          have hL2 : la.toList.isEmpty = false := by rw [List.isEmpty_eq_false_iff]; exact hL1
          have hsp := sep_iff hL0 hT
          have hsc := fun W => HS.out (la ++ T) (by rw [ByteArray.size_append]; omega) W
          have hln := scan_len (la ++ T).data.toList
          have hat := fun i t h => scan_at (xs := (la ++ T).data.toList) (i := i) (t := t) h
          rw [append_list] at hln hat hsc
          have hsb : la.size + T.size ≤ 2000 := by omega
          generalize scan (la.data.toList ++ T.data.toList) = R at *
          by_cases h2 : (txs (la.data.toList ++ T.data.toList)).length = 2
          · obtain ⟨x0, x1, hX⟩ : ∃ x0 x1, txs (la.data.toList ++ T.data.toList) = [x0, x1] := by
              match hX : txs (la.data.toList ++ T.data.toList), h2 with
              | [x0, x1], _ => exact ⟨x0, x1, rfl⟩
            rw [hX] at hln hat hsp
            obtain ⟨y0, hy0, hz0⟩ := hat 0 x0 rfl
            obtain ⟨y1, hy1, hz1⟩ := hat 1 x1 rfl
            obtain ⟨k0, T0, v0, p0⟩ := y0
            obtain ⟨k1, T1, v1, p1⟩ := y1
            replace hz0 : T0.data.toList = x0 := hz0
            replace hz1 : T1.data.toList = x1 := hz1
            have hR3 : R.length = 3 := by rw [hln]; rfl
            have hmo : (1 : Nat) < R.length := by omega
            rw [hR3] at hsc
            have HSC := Lib.hid hsc
            have HR0 := Lib.hid hy0
            have HR1 := Lib.hid hy1
            clear hsc hln hat hy0 hy1 h2 hX
            by_cases e0 : x0 = la.data.toList
            · have c0 : (T0.toList == la.toList) = true := by rw [ByteArray.toList_eq, ByteArray.toList_eq, hz0, e0]; simp
              by_cases e1 : x1 = T.data.toList
              · have c1 : (T1.toList == T.toList) = true := by rw [ByteArray.toList_eq, ByteArray.toList_eq, hz1, e1]; simp
                have hb : sep la.data.toList T.data.toList = true := hsp.2 (by rw [e0, e1])
                have HJK2 : Hid (jn la.data.toList ((L.map txl).drop k) = T.data.toList ++ jn T.data.toList ((L.map txl).drop (k + 1))) := Lib.hid (by rw [HJK.out, if_neg hT, hb, if_neg (fun h => by cases h.2)]; rfl)
                clear hT hL0 HJK hsp hb e0 e1 hz0 hz1
                have HJ2 : Hid ((sx ++ T).data.toList ++ jn T.data.toList ((L.map txl).drop (k + 1)) = jn [] (L.map txl)) := Lib.hid (by rw [append_list, ← HJ.out, HJK2.out, List.append_assoc])
                have hz2 : (sx ++ T).size ≤ 1001 * (k + 1) := by rw [ByteArray.size_append]; omega
                go_wp2_with (first
                  | (go_at_call 14; (with_reducible refine (HSC.out _).mono ?_); rintro e w2 ⟨p2, c2, rfl, hr2, g2⟩; have HG2 := Lib.hid (HG.out.trans g2); obtain ⟨b2, o2, rfl, hcd⟩ := hr2.rd.cells (by omega); have u0 : w2.cell? ⟨b2, o2 + 1, none⟩ = some (.string T0) := (by simpa using hcd 0 _ HR0.out 1 _ rfl); have u1 : w2.cell? ⟨b2, o2 + 4 + 1, none⟩ = some (.string T1) := (by simpa using hcd 1 _ HR1.out 1 _ rfl); clear hcd; clear g2 hr2))
                all_goals first | (exfalso; omega) | skip
                go_roundg (L.length - (k + 1))
                case measure => have := HLT.out; omega
                case rel => exact ⟨k + 1, T, sx ++ T, rfl, rfl, by go_num, HLT.out, rfl, hTz, HJ2, hz2, HG2⟩
              · have c1 : (T1.toList == T.toList) = false := by rw [ByteArray.toList_eq, ByteArray.toList_eq, hz1]; exact beq_eq_false_iff_ne.2 e1
                have hb : sep la.data.toList T.data.toList = false := Bool.eq_false_iff.2 (fun h => e1 (by have := hsp.1 h; injection this with _ h2; injection h2))
                have HJK2 : Hid (jn la.data.toList ((L.map txl).drop k) = [32] ++ (T.data.toList ++ jn T.data.toList ((L.map txl).drop (k + 1)))) := Lib.hid (by rw [HJK.out, if_neg hT, hb, if_pos ⟨hL0, rfl⟩])
                clear hT hL0 HJK hsp hb e0 e1 hz0 hz1
                have HJ2 : Hid ((sx ++ ⟨#[32]⟩ ++ T).data.toList ++ jn T.data.toList ((L.map txl).drop (k + 1)) = jn [] (L.map txl)) := Lib.hid (by rw [append_list, append_list, ← HJ.out, HJK2.out, List.append_assoc, List.append_assoc])
                have hz2 : (sx ++ ⟨#[32]⟩ ++ T).size ≤ 1001 * (k + 1) := by rw [ByteArray.size_append, ByteArray.size_append]; have h9 : (⟨#[32]⟩ : ByteArray).size = 1 := rfl; omega
                go_wp2_with (first
                  | (go_at_call 14; (with_reducible refine (HSC.out _).mono ?_); rintro e w2 ⟨p2, c2, rfl, hr2, g2⟩; have HG2 := Lib.hid (HG.out.trans g2); obtain ⟨b2, o2, rfl, hcd⟩ := hr2.rd.cells (by omega); have u0 : w2.cell? ⟨b2, o2 + 1, none⟩ = some (.string T0) := (by simpa using hcd 0 _ HR0.out 1 _ rfl); have u1 : w2.cell? ⟨b2, o2 + 4 + 1, none⟩ = some (.string T1) := (by simpa using hcd 1 _ HR1.out 1 _ rfl); clear hcd; clear g2 hr2))
                all_goals first | (exfalso; omega) | skip
                go_roundg (L.length - (k + 1))
                case measure => have := HLT.out; omega
                case rel => exact ⟨k + 1, T, sx ++ ⟨#[32]⟩ ++ T, rfl, rfl, by go_num, HLT.out, rfl, hTz, HJ2, hz2, HG2⟩
            · have c0 : (T0.toList == la.toList) = false := by rw [ByteArray.toList_eq, ByteArray.toList_eq, hz0]; exact beq_eq_false_iff_ne.2 e0
              have hb : sep la.data.toList T.data.toList = false := Bool.eq_false_iff.2 (fun h => e0 (by have := hsp.1 h; injection this))
              have HJK2 : Hid (jn la.data.toList ((L.map txl).drop k) = [32] ++ (T.data.toList ++ jn T.data.toList ((L.map txl).drop (k + 1)))) := Lib.hid (by rw [HJK.out, if_neg hT, hb, if_pos ⟨hL0, rfl⟩])
              clear hT hL0 HJK hsp hb e0 hz0 hz1
              have HJ2 : Hid ((sx ++ ⟨#[32]⟩ ++ T).data.toList ++ jn T.data.toList ((L.map txl).drop (k + 1)) = jn [] (L.map txl)) := Lib.hid (by rw [append_list, append_list, ← HJ.out, HJK2.out, List.append_assoc, List.append_assoc])
              have hz2 : (sx ++ ⟨#[32]⟩ ++ T).size ≤ 1001 * (k + 1) := by rw [ByteArray.size_append, ByteArray.size_append]; have h9 : (⟨#[32]⟩ : ByteArray).size = 1 := rfl; omega
              go_wp2_with (first
                | (go_at_call 14; (with_reducible refine (HSC.out _).mono ?_); rintro e w2 ⟨p2, c2, rfl, hr2, g2⟩; have HG2 := Lib.hid (HG.out.trans g2); obtain ⟨b2, o2, rfl, hcd⟩ := hr2.rd.cells (by omega); have u0 : w2.cell? ⟨b2, o2 + 1, none⟩ = some (.string T0) := (by simpa using hcd 0 _ HR0.out 1 _ rfl); have u1 : w2.cell? ⟨b2, o2 + 4 + 1, none⟩ = some (.string T1) := (by simpa using hcd 1 _ HR1.out 1 _ rfl); clear hcd; clear g2 hr2))
              all_goals first | (exfalso; omega) | skip
              go_roundg (L.length - (k + 1))
              case measure => have := HLT.out; omega
              case rel => exact ⟨k + 1, T, sx ++ ⟨#[32]⟩ ++ T, rfl, rfl, by go_num, HLT.out, rfl, hTz, HJ2, hz2, HG2⟩
          · have hb : sep la.data.toList T.data.toList = false := Bool.eq_false_iff.2 (fun h => h2 (by rw [hsp.1 h]; rfl))
            have HSC := Lib.hid hsc
            have h3 : ((R.length : Int) != 3) = true := bne_iff_ne.2 (by omega)
            have HJK2 : Hid (jn la.data.toList ((L.map txl).drop k) = [32] ++ (T.data.toList ++ jn T.data.toList ((L.map txl).drop (k + 1)))) := Lib.hid (by rw [HJK.out, if_neg hT, hb, if_pos ⟨hL0, rfl⟩])
            clear hT hL0 HJK hsp hb hsc hln hat h2
            have HJ2 : Hid ((sx ++ ⟨#[32]⟩ ++ T).data.toList ++ jn T.data.toList ((L.map txl).drop (k + 1)) = jn [] (L.map txl)) := Lib.hid (by rw [append_list, append_list, ← HJ.out, HJK2.out, List.append_assoc, List.append_assoc])
            have hz2 : (sx ++ ⟨#[32]⟩ ++ T).size ≤ 1001 * (k + 1) := by rw [ByteArray.size_append, ByteArray.size_append]; have h9 : (⟨#[32]⟩ : ByteArray).size = 1 := rfl; omega
            go_wp2_with (first
              | (go_at_call 14; (with_reducible refine (HSC.out _).mono ?_); rintro e w2 ⟨p2, c2, rfl, hr2, g2⟩; have HG2 := Lib.hid (HG.out.trans g2); skip; clear g2 hr2))
            all_goals first | (exfalso; omega) | skip
            go_roundg (L.length - (k + 1))
            case measure => have := HLT.out; omega
            case rel => exact ⟨k + 1, T, sx ++ ⟨#[32]⟩ ++ T, rfl, rfl, by go_num, HLT.out, rfl, hTz, HJ2, hz2, HG2⟩
    · obtain rfl : k = L.length := by omega
      have HF : Hid (sx = ⟨(jn [] (L.map txl)).toArray⟩) := Lib.hid (by
        rw [← HJ.out, List.drop_of_length_le (by simp), jn, List.append_nil])
      go_wp2
      go_ret
      exact ⟨ret_string (by rw [← HF.out]), HG.out⟩
end Go.Proofs.YtcajamgajchheaaDoor
