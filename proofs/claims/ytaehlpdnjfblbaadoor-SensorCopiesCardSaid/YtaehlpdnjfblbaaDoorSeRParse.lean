/-
  CONTRACTS OF LAYER 10's REFERENCE: Parse.
-/
import Derived.Test.YtaehlpdnjfblbaaDoorSeRLine
namespace Go.Proofs.YtaehlpdnjfblbaaDoor
open Go Go.RowKit Go.IntWalk
open Go.Lib (itoa)
set_option linter.unusedSimpArgs false
set_option linter.unusedVariables false
set_option maxRecDepth 8000

/-- What the reference's Parse answers. -/
def RParsed (l : List UInt8) (w : World) (e : Ending) (w' : World) : Prop := ∃ (L : List It) (r : List UInt8), Ends l L r ∧ ((r = [] ∧ ∃ p c, e = .returned (.tuple #[.slice p L.length c, .int .i64 0, .bool true]) ∧ OwR w' w.heap.size 37 2 itc (.slice p L.length c) L) ∨ (r ≠ [] ∧ e = .returned (.tuple #[.slice none 0 0, .int .i64 ((L.length + 1 : Nat) : Int), .bool false]))) ∧ Grew w w'
theorem extract_mid (s : ByteArray) (a b : Nat) : (s.extract a b).data.toList = (s.data.toList.take b).drop a := by
  rw [ByteArray.data_extract]
  simp only [Array.toList_extract, List.extract_eq_take_drop]
  rw [List.drop_take]
set_option maxHeartbeats 8000000 in
theorem rparse_any (s : ByteArray) (hs : s.size ≤ 50000) (w : World) : Calls Tryd.prog 22 #[.string s] w (RParsed s.data.toList w) := by
  go_enter Tryd.func22, Tryd.ntmps22
  go_wp2
  go_loopg [5, 6, 7, 8] s.size (fun gg lv nv fv iv wr => ∃ (L : List It) (p1 : Option Addr) (m c1 fr k : Nat), lv = .slice p1 m c1 ∧ nv = .int .i64 (m : Int) ∧ fv = .int .i64 (fr : Int) ∧ iv = .int .i64 (k : Int) ∧ fr ≤ k ∧ k ≤ s.size ∧ gg = s.size - k ∧ m ≤ k ∧ (k = s.size → fr = k) ∧ Hid (m = L.length) ∧ Hid (s.data.toList = fmtT L ++ s.data.toList.drop fr ∧ good L) ∧ Hid ((10 : UInt8) ∉ (s.data.toList.take k).drop fr) ∧ Hid (OwR wr w.heap.size 37 2 itc (.slice p1 m c1) L) ∧ Hid (Grew w wr))
  case atStart => exact ⟨[], none, 0, 0, 0, 0, rfl, rfl, rfl, rfl, Nat.le_refl _, Nat.zero_le _, rfl, Nat.le_refl _, fun _ => rfl, Lib.hid rfl, Lib.hid ⟨by simp [fmtT], good_nil⟩, Lib.hid (by simp), Lib.hid (OwR.nil _ _ _ _ _), Lib.hid (Grew.refl _)⟩
  case round =>
    obtain ⟨L, p1, m, c1, fr, k, rfl, rfl, rfl, rfl, hfk, hk, rfl, hmk, hfe, HM, HH, HN, HO, HG⟩ := hrel
    by_cases hlt : k < s.size
    · have HTK : Hid ((s.data.toList.take (k + 1)).drop fr = (s.data.toList.take k).drop fr ++ [s[k]]) := Lib.hid (by
        rw [take_snoc s k hlt, List.drop_append_of_le_length (by rw [List.length_take]; have : s.data.toList.length = s.size := rfl; omega)])
      have HLT := Lib.hid (Nat.succ_le_of_lt hlt)
      have HLL : Hid (L.length ≤ 50000) := Lib.hid (by rw [← HM.out]; omega)
      have HNE : Hid (s.data.toList.drop fr ≠ []) := Lib.hid (fun h => by
        have := List.drop_eq_nil_iff.1 h
        have h2 : s.data.toList.length = s.size := rfl
        omega)
      have HLI := Lib.hid (fun W => rline_any (s.extract fr k) (by rw [ByteArray.size_extract]; omega) W)
      simp only [extract_mid] at HLI
      clear hfe
      by_cases hc : s[k] = 10
      · have hcb : ((s[k].toNat : Int) != 10) = false := by rw [hc]; rfl
        have HR : Hid (s.data.toList.drop fr = (s.data.toList.take k).drop fr ++ 10 :: s.data.toList.drop (k + 1)) := Lib.hid (by
          have h1 := List.drop_eq_getElem_cons (l := s.data.toList) (show k < s.data.toList.length from hlt)
          have h2 := List.take_append_drop k s.data.toList
          have h3 : s.data.toList[k]'hlt = 10 := hc
          rw [h1, h3] at h2
          conv => lhs; rw [← h2]
          rw [List.drop_append_of_le_length (by rw [List.length_take]; have : s.data.toList.length = s.size := rfl; omega)])
        clear hc
        go_wp2_with (first
          | (go_at_call 33; (with_reducible refine (HLI.out _).mono ?_); rintro e w1 ⟨cc, ok, rfl, y1, n1, g1⟩; have Y1 := Lib.hid y1; have X1 := Lib.hid n1; have HO1 := Lib.hid (HO.out.kept g1); have HG1 := Lib.hid (HG.out.trans g1); clear y1 n1 g1)
          | (at_builtin; refine wpList_append_row encI rfl _ _ 28 rfl w.heap.size 37 (itv (0, 0)) 16 Tryd.underlying28 infoR rfl (.slice p1 m c1) L rfl (OwR.kept HO1.out (((Grew.refl _).alloc _).alloc _)) _ _ _ [cc] rfl rfl (made1 _ _ _ _ _ _ (by simp) rfl) (by have := HLL.out; simp; omega) (by have := HLL.out; simp; omega) (by have := HG1.out.sz; simp; omega) ?_; intro p2 c2 zs2 w3 hz2 ho2 hb2 hc2; have HO2 := Lib.hid ho2; have HG2 := Lib.hid (((HG1.out.alloc _).alloc _).below hb2); clear ho2 hb2 hc2)
          | (go_at_call 24; (with_reducible refine (rvalid_any _ _ _ _ _ (OwR.rd encI HO2.out).2 rfl).mono ?_); rintro e w4 ⟨rfl, g4⟩; have HO4 := Lib.hid (HO2.out.kept g4); have HG4 := Lib.hid (HG2.out.trans g4); clear g4; generalize hgb : asc (-1) zs2 = bb; have HOK := Lib.hid hgb; clear hgb))
        · rename_i q0 hok hbb
          have hb2 : bb = false := by simpa using hbb
          obtain ⟨e1, e2⟩ := Y1.out hok
          have HB : Hid (Bad L (s.data.toList.drop fr)) := Lib.hid (by
            rw [HR.out, e1]
            refine bad_add ?_
            rw [← asc_add _ _ HH.out.2.1, ← hz2.out, HOK.out, hb2])
          refine bodyPost_ret (v := .tuple #[.slice none 0 0, .int .i64 ((m : Int) + 1), .bool false]) (by simp [results, Tryd.results22, go_sem]) rfl ?_
          exact ⟨L, s.data.toList.drop fr, ⟨HH.out.1, HH.out.2, .inr HB.out⟩, .inr ⟨HNE.out, by rw [HM.out]; rfl⟩, HG4.out⟩
        · rename_i q0 hok hbb
          have hb2 : bb = true := by simpa using hbb
          obtain ⟨e1, e2⟩ := Y1.out hok
          have HG' : Hid (s.data.toList = fmtT (L ++ [cc]) ++ s.data.toList.drop (k + 1) ∧ good (L ++ [cc])) := Lib.hid ⟨by
            have h1 := HH.out.1
            rw [HR.out, e1] at h1
            rw [fmtT_snoc]
            simpa using h1, HH.out.2.snoc (by rw [← asc_add _ _ HH.out.2.1, ← hz2.out, HOK.out, hb2]) e2⟩
          have hzl : zs2.length = m + 1 := by rw [hz2.out, HM.out]; simp
          have HLS : Hid (m + 1 = (L ++ [cc]).length) := Lib.hid (by rw [HM.out]; simp)
          rw [hzl, hz2.out] at HO4
          rw [hzl]
          clear e1 e2 hbb hb2 hzl q0 hok hcb
          go_roundg (s.size - (k + 1))
          case measure => have := HLT.out; omega
          case rel => exact ⟨L ++ [cc], p2, m + 1, c2, k + 1, k + 1, rfl, (by go_num), (by go_num), (by go_num), Nat.le_refl _, HLT.out, rfl, (by omega), (fun _ => rfl), HLS, HG', Lib.hid (by rw [List.drop_eq_nil_of_le (by rw [List.length_take]; omega)]; simp), HO4, HG4⟩
        · rename_i q0 hok
          have hok2 : ok = false := by simpa using hok
          have HB : Hid (Bad L (s.data.toList.drop fr)) := Lib.hid (by rw [HR.out]; exact bad_line HN.out (X1.out hok2))
          refine bodyPost_ret (v := .tuple #[.slice none 0 0, .int .i64 ((m : Int) + 1), .bool false]) (by simp [results, Tryd.results22, go_sem]) rfl ?_
          exact ⟨L, s.data.toList.drop fr, ⟨HH.out.1, HH.out.2, .inr HB.out⟩, .inr ⟨HNE.out, by rw [HM.out]; rfl⟩, HG2.out⟩
        all_goals (refine absurd ?_ (by assumption : ¬ (s[k].toNat : Int) = 10); simpa using hcb)
      · have hcb : ((s[k].toNat : Int) != 10) = true := by rw [bne_iff_ne]; exact fun h => hc (u8_10 h)
        have h10 : ¬ (s[k].toNat : Int) = 10 := fun h => hc (u8_10 h)
        have HC := Lib.hid hc
        have HN2 : Hid ((10 : UInt8) ∉ (s.data.toList.take (k + 1)).drop fr) := Lib.hid (by
          rw [HTK.out]
          intro h
          rcases List.mem_append.1 h with h | h
          · exact HN.out h
          · exact HC.out (List.mem_singleton.1 h).symm)
        clear hc
        by_cases hlast : k + 1 < s.size
        · have hlb : (k : Int) + 1 < (s.size : Int) := by omega
          go_wp2
          go_roundg (s.size - (k + 1))
          case measure => have := HLT.out; omega
          case rel => exact ⟨L, p1, m, c1, fr, k + 1, rfl, rfl, rfl, (by go_num), (by omega), HLT.out, rfl, (by omega), (fun h => by omega), HM, HH, HN2, HO, HG⟩
        · have hlb : ¬ (k : Int) + 1 < (s.size : Int) := by omega
          have HB : Hid (Bad L (s.data.toList.drop fr)) := Lib.hid (bad_no (by
            have h1 := HN2.out
            rwa [show s.data.toList.take (k + 1) = s.data.toList from List.take_of_length_le (by have : s.data.toList.length = s.size := rfl; omega)] at h1))
          go_wp2_with (first
            | (go_at_call 33; (with_reducible refine (HLI.out _).mono ?_); rintro e w1 ⟨cc, ok, rfl, y1, n1, g1⟩; have Y1 := Lib.hid y1; have X1 := Lib.hid n1; have HO1 := Lib.hid (HO.out.kept g1); have HG1 := Lib.hid (HG.out.trans g1); clear y1 n1 g1)
            | (at_builtin; refine wpList_append_row encI rfl _ _ 28 rfl w.heap.size 37 (itv (0, 0)) 16 Tryd.underlying28 infoR rfl (.slice p1 m c1) L rfl (OwR.kept HO1.out (((Grew.refl _).alloc _).alloc _)) _ _ _ [cc] rfl rfl (made1 _ _ _ _ _ _ (by simp) rfl) (by have := HLL.out; simp; omega) (by have := HLL.out; simp; omega) (by have := HG1.out.sz; simp; omega) ?_; intro p2 c2 zs2 w3 hz2 ho2 hb2 hc2; have HO2 := Lib.hid ho2; have HG2 := Lib.hid (((HG1.out.alloc _).alloc _).below hb2); clear ho2 hb2 hc2)
            | (go_at_call 24; (with_reducible refine (rvalid_any _ _ _ _ _ (OwR.rd encI HO2.out).2 rfl).mono ?_); rintro e w4 ⟨rfl, g4⟩; have HO4 := Lib.hid (HO2.out.kept g4); have HG4 := Lib.hid (HG2.out.trans g4); clear g4; generalize hgb : asc (-1) zs2 = bb; have HOK := Lib.hid hgb; clear hgb))
          refine bodyPost_ret (v := .tuple #[.slice none 0 0, .int .i64 ((m : Int) + 1), .bool false]) (by simp [results, Tryd.results22, go_sem]) rfl ?_
          exact ⟨L, s.data.toList.drop fr, ⟨HH.out.1, HH.out.2, .inr HB.out⟩, .inr ⟨HNE.out, by rw [HM.out]; rfl⟩, HG2.out⟩
    · obtain rfl : k = s.size := by omega
      obtain rfl := hfe rfl
      have HZ : Hid (s.data.toList.drop s.size = []) := Lib.hid (List.drop_eq_nil_iff.2 (Nat.le_refl _))
      clear hfe
      go_wp2
      refine bodyPost_ret (v := .tuple #[.slice p1 m c1, .int .i64 0, .bool true]) (by simp [results, Tryd.results22, go_sem]) rfl ?_
      refine ⟨L, [], ⟨by have h1 := HH.out.1; rwa [HZ.out] at h1, HH.out.2, .inl rfl⟩, .inl ⟨rfl, p1, c1, by rw [← HM.out], by rw [← HM.out]; exact HO.out⟩, HG.out⟩
end Go.Proofs.YtaehlpdnjfblbaaDoor
