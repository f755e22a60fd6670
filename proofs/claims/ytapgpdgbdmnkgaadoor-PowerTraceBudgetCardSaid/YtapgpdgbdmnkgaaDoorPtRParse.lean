/-
  CONTRACTS OF LAYER 13 (powertrace): the reference's Parse.
-/
import Derived.Test.YtapgpdgbdmnkgaaDoorPtParse
import Derived.Test.YtapgpdgbdmnkgaaDoorPtRWord
namespace Go.Proofs.YtapgpdgbdmnkgaaDoor
open Go Go.RowKit Go.IntWalk
open Go.Lib (itoa)
set_option linter.unusedSimpArgs false
set_option linter.unusedVariables false
set_option maxRecDepth 8000

theorem extract_mid (s : ByteArray) (f k : Nat) : (s.extract f k).data.toList = (s.data.toList.drop f).take (k - f) := by
  rw [ByteArray.data_extract]
  simp only [Array.toList_extract, List.extract_eq_take_drop]
theorem seg_last {l : List UInt8} {f k : Nat} (hk : k = l.length) : (l.drop f).take (k - f) = l.drop f := List.take_of_length_le (by rw [List.length_drop, hk]; exact Nat.le_refl _)
theorem seg_next {l : List UInt8} {f k : Nat} (hf : f ≤ k) (hk : k < l.length) : (l.drop f).take (k + 1 - f) = (l.drop f).take (k - f) ++ [l[k]] := by
  rw [show k + 1 - f = k - f + 1 by omega, List.take_succ_eq_append_getElem (by rw [List.length_drop]; omega), List.getElem_drop]
  congr 2
  simp only [show f + (k - f) = k by omega]
theorem seg_cut {l : List UInt8} {f k : Nat} (hf : f ≤ k) (hk : k < l.length) (hs : l[k] = 32) : l.drop f = (l.drop f).take (k - f) ++ 32 :: l.drop (k + 1) := by
  have h1 := List.take_append_drop (k - f) (l.drop f)
  rw [List.drop_drop, show f + (k - f) = k by omega, List.drop_eq_getElem_cons hk, hs] at h1
  exact h1.symm
set_option maxHeartbeats 4000000 in
theorem rparse_any (s : ByteArray) (hs : s.size ≤ 50000) (w : World) : Calls Tryd.prog 19 #[.string s] w (Parsed s.data.toList w) := by
  by_cases hs0 : s.size = 0
  · obtain rfl : s = ⟨#[]⟩ := by
      obtain ⟨⟨l⟩⟩ := s
      have hl : l.length = 0 := hs0
      rw [List.length_eq_zero_iff] at hl
      rw [hl]
    go_enter Tryd.func19, Tryd.ntmps19
    go_wp2
    refine bodyPost_ret (v := .tuple #[.slice (some ⟨w.heap.size, 0, none⟩) 0 0, .int .i64 0, .int .i64 0]) (by simp [results, Tryd.results19, go_sem]) rfl ?_
    exact ⟨[], 0, 0, _, 0, rfl, rfl, OwR.lit encI w [] 0 w.heap.size 52 _ rfl rfl (by omega) (Nat.le_refl _), (Grew.refl _).alloc _⟩
  have hne : s.data.toList ≠ [] := fun h => hs0 (by
    have : s.data.toList.length = s.size := rfl
    rw [← this, h]; rfl)
  have HS := Lib.hid (parseT_cons hne)
  have hlb : s.toList.isEmpty = false := by
    rw [ByteArray.toList_eq]
    cases hq : s.data.toList with
    | nil => exact absurd hq hne
    | cons a r => rfl
  have hsz : s.data.toList.length = s.size := rfl
  have HLEN := Lib.hid hsz
  clear hs0 hne hsz
  go_enter Tryd.func19, Tryd.ntmps19
  go_wp2
  obtain ⟨B0, hB0⟩ : ∃ B, B = w.heap.size := ⟨_, rfl⟩
  rw [← hB0]
  refine wp_at9 (fun W => OwR W w.heap.size 52 2 itc (.slice (some ⟨B0, 0, none⟩) 0 0) [] ∧ Grew w W) ⟨by rw [hB0]; exact OwR.lit encI w [] 0 w.heap.size 52 _ rfl rfl (by omega) (Nat.le_refl _), (Grew.refl _).alloc _⟩ ?_
  intro W0 hW0
  have HW0 := Lib.hid hW0
  clear hW0 hB0
  go_loopg [5, 6, 7, 8] (s.size + 1) (fun gg lv fv nv iv wr => ∃ (k f m n : Nat) (L : List It) (p : Option Addr) (c : Nat), lv = .slice p n c ∧ fv = .int .i64 (f : Int) ∧ nv = .int .i64 (m : Int) ∧ iv = .int .i64 (k : Int) ∧ gg = s.size + 1 - k ∧ f ≤ k ∧ k ≤ s.size + 1 ∧ m ≤ 50002 ∧ n ≤ 50001 ∧ Hid (n = L.length ∧ m = L.length + 1 ∧ L.length ≤ f) ∧ Hid ((k ≤ s.size ∧ (32 : UInt8) ∉ (s.data.toList.drop f).take (k - f) ∧ parseT s.data.toList = goP L (L.length + 1) (wordsL (s.data.toList.drop f))) ∨ (k = s.size + 1 ∧ parseT s.data.toList = (L, 0, 0))) ∧ Hid (OwR wr w.heap.size 52 2 itc (.slice p n c) L) ∧ Hid (Grew w wr))
  case atStart => exact ⟨0, 0, 1, 0, [], _, 0, rfl, rfl, rfl, rfl, rfl, Nat.le_refl _, by omega, by omega, by omega, Lib.hid ⟨rfl, rfl, Nat.le_refl _⟩, Lib.hid (.inl ⟨Nat.zero_le _, by simp, HS.out⟩), Lib.hid HW0.out.1, Lib.hid HW0.out.2⟩
  clear HS HW0
  case round =>
    obtain ⟨k, f, m, n, L, p, c, rfl, rfl, rfl, rfl, rfl, hfk, hk1, hm5, hn5, HM, HI, HO, HG⟩ := hrel
    by_cases hle : k ≤ s.size
    · have HI1 : Hid ((32 : UInt8) ∉ (s.data.toList.drop f).take (k - f) ∧ parseT s.data.toList = goP L (L.length + 1) (wordsL (s.data.toList.drop f))) := Lib.hid (by
        rcases HI.out with h | h
        · exact h.2
        · omega)
      clear HI
      have HLL : Hid (L.length ≤ 50000) := Lib.hid (by have := HM.out; omega)
      have HP := Lib.hid (fun W => rper_any (s.extract f k) (by rw [ByteArray.size_extract]; omega) W)
      rw [extract_mid] at HP
      by_cases hlt : k < s.size
      · by_cases hc : s[k] = 32
        · have hcb : ((s[k].toNat : Int) != 32) = false := by rw [hc]; rfl
          have hcc : (s[k].toNat : Int) = 32 := by rw [hc]; rfl
          have HW := Lib.hid (show wordsL (s.data.toList.drop f) = (s.data.toList.drop f).take (k - f) :: wordsL (s.data.toList.drop (k + 1)) by
            have h0 := seg_cut (l := s.data.toList) hfk (show k < s.data.toList.length from hlt) hc
            have h1 := wordsL_cut HI1.out.1 (s.data.toList.drop (k + 1))
            rw [← h0] at h1
            exact h1)
          generalize (s.data.toList.drop f).take (k - f) = seg at HP HW
          clear hc
          go_wp2_with (first
            | (go_at_call 39; (with_reducible refine (HP.out _).mono ?_); rintro e w2 ⟨x, ok, rfl, hy, hn, g2⟩; have HY := Lib.hid hy; have HN := Lib.hid hn; have HO2 := Lib.hid (HO.out.kept g2); have HG2 := Lib.hid (HG.out.trans g2); clear g2 hy hn)
            | (at_builtin; refine wpList_append_row encI rfl _ _ 22 rfl w.heap.size 52 (itv (0, 0)) 16 Tryd.underlying22 infoC rfl _ L rfl (HO2.out.kept (((Grew.refl _).alloc _).alloc _)) _ _ _ [x] rfl rfl (made1 _ _ _ _ _ _ (by simp) rfl) (by have := HLL.out; simp; omega) (by have := HLL.out; simp; omega) (by have := HG2.out.size; simp; omega) ?_; intro p4 c4 zs4 w4 hz4 ho4 hb4 hc4; have HO4 := Lib.hid ho4; have HZ4 := Lib.hid hz4.out; have HG4 := Lib.hid (((HG2.out.alloc _).alloc _).below hb4); clear ho4 hb4 hc4))
          · have hok2 : ok = false := by
              have hh : (!ok) = true := by assumption
              simpa using hh
            refine bodyPost_ret (v := .tuple #[.slice none 0 0, .int .i64 m, .int .i64 2]) (by simp [results, Tryd.results19, go_sem]) rfl ?_
            exact Parsed.bad (by rw [HI1.out.2, HW.out, goP_bad (HN.out hok2), HM.out.2.1]) (HG2.out.alloc _)
          · have hok2 : ok = true := by
              have hh : (!ok) = false := by assumption
              simpa using hh
            have HR : Hid (parseT s.data.toList = goP (L ++ [x]) (L.length + 1 + 1) (wordsL (s.data.toList.drop (k + 1)))) := Lib.hid (by rw [HI1.out.2, HW.out, goP_ok (HY.out hok2)])
            have HZL : Hid (zs4.length = L.length + 1) := Lib.hid (by rw [HZ4.out]; simp)
            go_roundg (s.size + 1 - (k + 1))
            case measure => omega
            case rel => exact ⟨k + 1, k + 1, m + 1, zs4.length, zs4, p4, c4, rfl, by go_num, by go_num, by go_num, rfl, Nat.le_refl _, by omega, (by have := HLL.out; have := HM.out; omega), (by have := HLL.out; have := HZL.out; omega), Lib.hid ⟨rfl, (by have := HM.out; have := HZL.out; omega), (by have := HM.out; have := HZL.out; omega)⟩, Lib.hid (.inl ⟨hlt, by simp, by rw [HR.out, HZL.out, HZ4.out]⟩), HO4, HG4⟩
        · have hcb : ((s[k].toNat : Int) != 32) = true := by rw [bne_iff_ne]; exact fun h => hc (u8_32 h)
          have hcc : ¬ (s[k].toNat : Int) = 32 := fun h => hc (u8_32 h)
          have HN2 : Hid ((32 : UInt8) ∉ (s.data.toList.drop f).take (k + 1 - f)) := Lib.hid (by
            have h0 := seg_next (l := s.data.toList) hfk (show k < s.data.toList.length from hlt)
            rw [h0]
            simp only [List.mem_append, List.mem_singleton, not_or]
            exact ⟨HI1.out.1, fun e => hc e.symm⟩)
          clear hc HP
          go_wp2
          go_roundg (s.size + 1 - (k + 1))
          case measure => omega
          case rel => exact ⟨k + 1, f, m, n, L, p, c, rfl, rfl, rfl, by go_num, rfl, by omega, by omega, hm5, hn5, HM, Lib.hid (.inl ⟨hlt, HN2.out, HI1.out.2⟩), HO, HG⟩
      · have hke : Hid (k = s.size) := Lib.hid (by omega)
        have HW := Lib.hid (show wordsL (s.data.toList.drop f) = [(s.data.toList.drop f).take (k - f)] by
          have h0 := seg_last (l := s.data.toList) (f := f) (hke.out.trans HLEN.out.symm)
          have h1 := HI1.out.1
          rw [h0] at h1 ⊢
          exact wordsL_one h1)
        generalize (s.data.toList.drop f).take (k - f) = seg at HP HW
        go_wp2_with (first
          | (go_at_call 39; (with_reducible refine (HP.out _).mono ?_); rintro e w2 ⟨x, ok, rfl, hy, hn, g2⟩; have HY := Lib.hid hy; have HN := Lib.hid hn; have HO2 := Lib.hid (HO.out.kept g2); have HG2 := Lib.hid (HG.out.trans g2); clear g2 hy hn)
          | (at_builtin; refine wpList_append_row encI rfl _ _ 22 rfl w.heap.size 52 (itv (0, 0)) 16 Tryd.underlying22 infoC rfl _ L rfl (HO2.out.kept (((Grew.refl _).alloc _).alloc _)) _ _ _ [x] rfl rfl (made1 _ _ _ _ _ _ (by simp) rfl) (by have := HLL.out; simp; omega) (by have := HLL.out; simp; omega) (by have := HG2.out.size; simp; omega) ?_; intro p4 c4 zs4 w4 hz4 ho4 hb4 hc4; have HO4 := Lib.hid ho4; have HZ4 := Lib.hid hz4.out; have HG4 := Lib.hid (((HG2.out.alloc _).alloc _).below hb4); clear ho4 hb4 hc4))
        · have hok2 : ok = false := by
            have hh : (!ok) = true := by assumption
            simpa using hh
          refine bodyPost_ret (v := .tuple #[.slice none 0 0, .int .i64 m, .int .i64 2]) (by simp [results, Tryd.results19, go_sem]) rfl ?_
          exact Parsed.bad (by rw [HI1.out.2, HW.out, goP_bad (HN.out hok2), HM.out.2.1]) (HG2.out.alloc _)
        · have hok2 : ok = true := by
            have hh : (!ok) = false := by assumption
            simpa using hh
          have HR : Hid (parseT s.data.toList = (L ++ [x], 0, 0)) := Lib.hid (by rw [HI1.out.2, HW.out, goP_ok (HY.out hok2)]; rfl)
          have HZL : Hid (zs4.length = L.length + 1) := Lib.hid (by rw [HZ4.out]; simp)
          go_roundg (s.size + 1 - (k + 1))
          case measure => omega
          case rel => exact ⟨k + 1, k + 1, m + 1, zs4.length, zs4, p4, c4, rfl, by go_num, by go_num, by go_num, rfl, Nat.le_refl _, by omega, (by have := HLL.out; have := HM.out; omega), (by have := HLL.out; have := HZL.out; omega), Lib.hid ⟨rfl, (by have := HM.out; have := HZL.out; omega), (by have := HM.out; have := HZL.out; omega)⟩, Lib.hid (.inr ⟨by have := hke.out; omega, by rw [HR.out, HZ4.out]⟩), HO4, HG4⟩
    · have HR : Hid (parseT s.data.toList = (L, 0, 0)) := Lib.hid (by
        rcases HI.out with h | h
        · omega
        · exact h.2)
      clear HI
      go_wp2
      refine bodyPost_ret (v := .tuple #[.slice p n c, .int .i64 0, .int .i64 0]) (by simp [results, Tryd.results19, go_sem]) rfl ?_
      have hL := HM.out.1
      subst hL
      exact ⟨L, 0, 0, p, c, HR.out, rfl, HO.out, HG.out⟩
end Go.Proofs.YtapgpdgbdmnkgaaDoor
