/-
  LAYER 15: Scan, the reference's.
-/
import Derived.Test.YtcajamgajchheaaDoorLxScan
namespace Go.Proofs.YtcajamgajchheaaDoor
open Go Go.RowKit Go.IntWalk
set_option linter.unusedSimpArgs false
set_option linter.unusedVariables false
set_option maxRecDepth 8000

theorem rscan_step {xs : List UInt8} {p : Nat} (h : p < xs.length) (hf : sk false (xs.drop p) = xs.drop p) :
    scn p (xs.drop p) = tok (ft (xs.drop p)) p :: scn (p + fl (xs.drop p)) (xs.drop (p + fl (xs.drop p))) ∧ p < p + fl (xs.drop p) ∧ p + fl (xs.drop p) ≤ xs.length := by
  have hne := drop_ne h
  have h1 := fl_pos hne
  have h2 := fl_le (xs.drop p)
  rw [List.length_drop] at h2
  exact ⟨by rw [scn_one hne hf, List.drop_drop], by omega, by omega⟩
theorem rskip_step {xs : List UInt8} {p : Nat} (h : p ≤ xs.length) : p + bl (xs.drop p) ≤ xs.length ∧ scn p (xs.drop p) = scn (p + bl (xs.drop p)) (xs.drop (p + bl (xs.drop p))) ∧ sk false (xs.drop (p + bl (xs.drop p))) = xs.drop (p + bl (xs.drop p)) := by
  have h3 := bl_le (xs.drop p)
  rw [List.length_drop] at h3
  refine ⟨by omega, ?_, ?_⟩
  · conv => lhs; rw [scn_skip]
    rw [List.drop_drop]
  · rw [← List.drop_drop, ← sk_bl, sk_idem]
set_option maxHeartbeats 8000000 in
theorem scanR_any (s : ByteArray) (hs : s.size ≤ 100000) (w : World) : Calls Tryd.prog 14 #[.string s] w fun e w' => ∃ p c, e = .returned (.slice p (scan s.data.toList).length c) ∧ Rw 4 tkc w' p c (scan s.data.toList) ∧ Grew w w' := by
  have HBX := Lib.hid (fun (k : Nat) (hk : k ≤ s.size) W => blank_any (s.extract k s.size) (by simp; omega) W)
  have HF := Lib.hid (fun (k : Nat) (hk : k < s.size) W => one_any (s.extract k s.size) (by simp; omega) (by rw [extract_drop']; exact drop_ne hk) W)
  have HST := Lib.hid (fun (p : Nat) (h : p < s.size) hf => rscan_step (xs := s.data.toList) (p := p) h hf)
  have HSP := Lib.hid (fun (p : Nat) (h : p ≤ s.size) => rskip_step (xs := s.data.toList) (p := p) h)
  have hall : scan s.data.toList = scn 0 s.data.toList ++ [eof s.size] := rfl
  have HALL := Lib.hid hall
  generalize scan s.data.toList = R at HALL ⊢
  clear hall
  go_enter Tryd.func14, Tryd.ntmps14
  go_wp2
  go_loopg [3, 4, 5] s.size (fun gg lv pv bv wr => ∃ (k n : Nat) (p1 : Option Addr) (c1 : Nat) (out : List Tk), lv = .slice p1 n c1 ∧ pv = .int .i64 (k : Int) ∧ k ≤ s.size ∧ gg = s.size - k ∧ n ≤ k ∧ Hid (out.length = n) ∧ Hid (out ++ scn k (s.data.toList.drop k) = scn 0 s.data.toList) ∧ Hid (OwR wr w.heap.size 38 4 tkc (.slice p1 n c1) out) ∧ Hid (Grew w wr))
  case atStart => exact ⟨0, 0, none, 0, [], rfl, rfl, Nat.zero_le _, rfl, Nat.zero_le _, Lib.hid rfl, Lib.hid rfl, Lib.hid (OwR.nil _ _ _ _ _), Lib.hid (Grew.refl _)⟩
  case round =>
    obtain ⟨k0, n, p1, c1, out, rfl, rfl, hk0, rfl, hn, HN, HO0, HR, HG1⟩ := hrel
    have hext : ∀ j, (s.extract j s.size).data.toList = s.data.toList.drop j := extract_drop' s
    have hsp := HSP.out k0 hk0
    have hsk := fun W => HBX.out k0 hk0 W
    rw [hext] at hsk
    generalize bl (s.data.toList.drop k0) = m at *
    obtain ⟨hm1, hm2, hm3⟩ := hsp
    replace hm1 : k0 + m ≤ s.size := hm1
    have HSK := Lib.hid hsk
    have HO : Hid (out ++ scn (k0 + m) (s.data.toList.drop (k0 + m)) = scn 0 s.data.toList) := Lib.hid (by rw [← hm2]; exact HO0.out)
    have HK := Lib.hid hm3
    clear hsk hm2 hm3 HO0 hext
    go_upto_region 4 with (go_at_call 28; (with_reducible refine (HSK.out _).mono ?_); rintro e w9 ⟨rfl, hw9⟩; subst w9)
    obtain ⟨k, hkk⟩ : ∃ k, k0 + m = k := ⟨_, rfl⟩
    have hkc : (k0 : Int) + (m : Int) = (k : Int) := by omega
    rw [hkk] at HO HK hm1
    rw [hkc]
    have hk : k ≤ s.size := hm1
    clear HSK
    by_cases hlt : k < s.size
    · have hf := HF.out k hlt
      have hst := HST.out k hlt HK.out
      unfold Said at hf
      rw [extract_drop'] at hf
      have HFC := Lib.hid hf
      have hext : ∀ j, (s.extract j s.size).data.toList = s.data.toList.drop j := extract_drop' s
      obtain ⟨t, ht⟩ : ∃ t, ft (s.data.toList.drop k) = t := ⟨_, rfl⟩
      have hflt : fl (s.data.toList.drop k) = t.length := by rw [← ft_len, ht]
      rw [ht, hflt] at hst
      rw [ht] at HFC
      obtain ⟨T, hT⟩ : ∃ T : ByteArray, (⟨t.toArray⟩ : ByteArray) = T := ⟨_, rfl⟩
      have hTz : t.length = T.size := by rw [← hT]; rfl
      rw [hT] at HFC
      rw [hTz] at hst
      have htok : tok t k = ⟨kd t, T, vl t, k⟩ := by rw [tok, hT]
      rw [htok] at hst
      generalize kd t = kk at *
      generalize vl t = vv at *
      obtain ⟨hs1, hs4, hs5⟩ := hst
      have HS1 := Lib.hid hs1
      clear hf hext ht hflt hT hTz htok hs1
      replace hs5 : k + T.size ≤ s.size := hs5
      go_upto_region 8 with (go_at_call 29; (with_reducible refine (HFC.out _).mono ?_); rintro e w2 ⟨rfl, g2⟩; have HG2 := Lib.hid g2; clear g2)
      have hb : Blk w2.heap.size (tkc ⟨kk, T, vv, k⟩) 38 (w2.alloc (Obj.cells #[.int .i64 kk, .string T, .int .i16 vv, .int .i64 (k : Int)] 38)) := Blk.new w2 _ _
      have hgV : Grew wr (w2.alloc (Obj.cells #[.int .i64 kk, .string T, .int .i16 vv, .int .i64 (k : Int)] 38)) := HG2.out.alloc _
      have hlt2 := HG2.out.sz
      generalize (w2.alloc (Obj.cells #[.int .i64 kk, .string T, .int .i16 vv, .int .i64 (k : Int)] 38)) = V at hb hgV ⊢
      generalize w2.heap.size = S at hb hlt2 ⊢
      obtain ⟨q0, q1, q2, q3, r0, r1, r2, r3⟩ := tk4 _ _ _ _ _ hb
      have HB := Lib.hid hb
      have HGV := Lib.hid hgV
      have HLT2 := Lib.hid hlt2
      have HSZ := Lib.hid HG1.out.sz
      clear hb hgV hlt2
      go_upto_region 9 with (at_builtin; refine wpList_append_row encT rfl _ _ 24 rfl w.heap.size 38 (tkv ⟨0, ⟨#[]⟩, 0, 0⟩) 40 Tryd.underlying24 infoU rfl _ out rfl (HR.out.kept (HGV.out.alloc _)) _ _ _ [⟨kk, T, vv, k⟩] rfl rfl (madeT _ _ _ _ _ _ rfl rfl) (by have := HN.out; simp; omega) (by have := HN.out; simp; omega) (by have h5 := HGV.out.sz; have h6 := HSZ.out; simp; omega) ?_; intro p2 c2 zs2 w3 hz2 ho2 hb2 hc2; have HO2 := Lib.hid ho2; have HZ2 := Lib.hid hz2.out; have HB3 := Lib.hid ((HB.out.grew ((Grew.refl V).alloc _)).chg hc2 (fun hs => by have h5 := rowlt HR.out hs; have h6 := HLT2.out; omega)); have HG3 : Hid (Grew w w3) := Lib.hid (Below.trans ((HG1.out.trans HGV.out).alloc _) hb2); clear ho2 hb2 hc2 hz2)
      clear q0 q1 q2 q3 r0 r1 r2 r3
      obtain ⟨q0, q1, q2, q3, r0, r1, r2, r3⟩ := tk4 _ _ _ _ _ HB3.out
      obtain rfl := HZ2.out
      have hln : (out ++ [(⟨kk, T, vv, (k : Int)⟩ : Tk)]).length = n + 1 := by rw [List.length_append, HN.out]; rfl
      have HLN := Lib.hid hln
      rw [hln]
      clear hln
      go_wp2
      go_roundg (s.size - (k + T.size))
      case measure => omega
      case rel => exact ⟨k + T.size, n + 1, p2, c2, out ++ [⟨kk, T, vv, k⟩], rfl, by go_num, hs5, rfl, by omega, HLN, Lib.hid (by rw [← HO.out, HS1.out, List.append_assoc]; rfl), Lib.hid (by have h5 := HO2.out; rw [HLN.out] at h5; exact h5), HG3⟩
    · obtain rfl : k = s.size := by omega
      have HF2 : Hid (out ++ [eof s.size] = R) := Lib.hid (by
        rw [HALL.out, ← HO.out, List.drop_of_length_le (show s.data.toList.length ≤ s.size from Nat.le_refl _), scn_nil, List.append_nil])
      have HSZ := Lib.hid HG1.out.sz
      go_wp2_with (at_builtin; refine wpList_append_row encT rfl _ _ 24 rfl w.heap.size 38 (tkv ⟨0, ⟨#[]⟩, 0, 0⟩) 40 Tryd.underlying24 infoU rfl _ out rfl (HR.out.kept ((Grew.refl _).alloc _)) _ _ _ [eof s.size] rfl rfl (madeT _ _ _ _ _ _ rfl rfl) (by have := HN.out; simp; omega) (by have := HN.out; simp; omega) (by have h6 := HSZ.out; simp; omega) ?_; intro p2 c2 zs2 w3 hz2 ho2 hb2 hc2; have HO2 := Lib.hid ho2; have HZ2 := Lib.hid hz2.out; have HG3 : Hid (Grew w w3) := Lib.hid (Below.trans (HG1.out.alloc _) hb2); clear ho2 hb2 hc2 hz2)
      go_ret
      have hz : zs2 = R := by rw [HZ2.out, HF2.out]
      subst hz
      exact ⟨p2, c2, rfl, (HO2.out.rd encT).2, HG3.out⟩
end Go.Proofs.YtcajamgajchheaaDoor
