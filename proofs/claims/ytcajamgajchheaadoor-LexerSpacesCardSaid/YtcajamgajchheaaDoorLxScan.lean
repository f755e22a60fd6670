/-
  LAYER 15: Scan, the program's.
-/
import Derived.Test.YtcajamgajchheaaDoorLxOne
namespace Go.Proofs.YtcajamgajchheaaDoor
open Go Go.RowKit Go.IntWalk
set_option linter.unusedSimpArgs false
set_option linter.unusedVariables false
set_option maxRecDepth 8000

theorem infoT : (Tryd.prog.info? 41).map (fun i => (i.zero, i.size, i.bytes)) = some (some (tkv ⟨0, ⟨#[]⟩, 0, 0⟩), 4, 40) := by kernel_rfl
theorem infoU : (Tryd.prog.info? 38).map (fun i => (i.zero, i.size, i.bytes)) = some (some (tkv ⟨0, ⟨#[]⟩, 0, 0⟩), 4, 40) := by kernel_rfl
theorem madeT (w : World) (S : Nat) (x : Tk) (e : TypeId) (cs : Array Value) (fr : Nat × Nat) (hS : w.heap.size = S) (hc : cs = (flatL tkc [x]).toArray) : Rw 4 tkc (w.alloc (.cells cs e fr)) (some ⟨S, 0, none⟩) 1 [x] := by
  subst hS
  exact Rw.made encT w [x] 1 e cs fr hc rfl (by decide)
theorem drop_ne {l : List UInt8} {k : Nat} (h : k < l.length) : l.drop k ≠ [] := fun e => by
  have := congrArg List.length e
  rw [List.length_drop, List.length_nil] at this
  omega
theorem rowlt {w : World} {base : Nat} {e : TypeId} {p : Option Addr} {n c : Nat} {xs : List Tk} {S : Nat} (h : OwR w base e 4 tkc (.slice p n c) xs) (hs : Value.ownBlock (.slice p n c) = some S) : S < w.heap.size := by
  rcases h.2 with ⟨hv, _⟩ | ⟨g, cap, cur, hv, _, hg, _⟩
  · simp only [Value.slice.injEq] at hv
    rw [hv.1] at hs
    simp [Value.ownBlock] at hs
  · simp only [Value.slice.injEq] at hv
    rw [hv.1] at hs
    have : g = S := by simpa [Value.ownBlock] using hs
    subst this
    exact lt_of_heap hg
/-- One round: the token at p, and what is skipped behind it. -/
theorem scan_step {xs : List UInt8} {p : Nat} (h : p < xs.length) (hf : sk false (xs.drop p) = xs.drop p) :
    scn p (xs.drop p) = tok (ft (xs.drop p)) p :: scn (p + fl (xs.drop p) + bl (xs.drop (p + fl (xs.drop p)))) (xs.drop (p + fl (xs.drop p) + bl (xs.drop (p + fl (xs.drop p))))) ∧
    sk false (xs.drop (p + fl (xs.drop p) + bl (xs.drop (p + fl (xs.drop p))))) = xs.drop (p + fl (xs.drop p) + bl (xs.drop (p + fl (xs.drop p)))) ∧
    p + fl (xs.drop p) + bl (xs.drop (p + fl (xs.drop p))) ≤ xs.length ∧ p < p + fl (xs.drop p) ∧ p + fl (xs.drop p) ≤ xs.length := by
  have hne := drop_ne h
  have h1 := fl_pos hne
  have h2 := fl_le (xs.drop p)
  have h3 := bl_le (xs.drop (p + fl (xs.drop p)))
  rw [List.length_drop] at h2 h3
  refine ⟨?_, ?_, by omega, by omega, by omega⟩
  · rw [scn_one hne hf, scn_skip, List.drop_drop, List.drop_drop]
  · rw [← List.drop_drop, ← sk_bl, sk_idem]
set_option maxHeartbeats 8000000 in
theorem scanP_any (s : ByteArray) (hs : s.size ≤ 100000) (w : World) (hE : Env w) : Calls Tryd.prog 13 #[.string s] w fun e w' => ∃ p c, e = .returned (.slice p (scan s.data.toList).length c) ∧ Rw 4 tkc w' p c (scan s.data.toList) ∧ Grew w w' := by
  have HE := Lib.hid hE
  have HS := Lib.hid (fun W => skipped_any s hs W)
  have HSX := Lib.hid (fun (k : Nat) (hk : k ≤ s.size) W => skipped_any (s.extract k s.size) (by simp; omega) W)
  have HF := Lib.hid (fun (k : Nat) (hk : k < s.size) W (h : Env W) => first_any (s.extract k s.size) (by simp; omega) (by rw [extract_drop']; exact drop_ne hk) W h)
  have HST := Lib.hid (fun (p : Nat) (h : p < s.size) hf => scan_step (xs := s.data.toList) (p := p) h hf)
  have h0 : scn 0 s.data.toList = scn (bl s.data.toList) (s.data.toList.drop (bl s.data.toList)) := by rw [scn_skip, Nat.zero_add]
  have h1 : sk false (s.data.toList.drop (bl s.data.toList)) = s.data.toList.drop (bl s.data.toList) := by rw [← sk_bl, sk_idem]
  have h2 : bl s.data.toList ≤ s.size := bl_le s.data.toList
  have hall : scan s.data.toList = scn 0 s.data.toList ++ [eof s.size] := rfl
  have H0 := Lib.hid h0
  have H1 := Lib.hid h1
  have HALL := Lib.hid hall
  generalize scan s.data.toList = R at HALL ⊢
  generalize bl s.data.toList = q0 at *
  clear h0 h1 hall hE
  go_enter Tryd.func13, Tryd.ntmps13
  go_wp2_with (go_at_call 26; (with_reducible refine (HS.out _).mono ?_); rintro e w1 ⟨rfl, g1⟩; have HG := Lib.hid g1; clear g1)
  go_loopg [3, 4, 5] (s.size - q0) (fun gg lv pv bv wr => ∃ (k n : Nat) (p1 : Option Addr) (c1 : Nat) (out : List Tk), lv = .slice p1 n c1 ∧ pv = .int .i64 (k : Int) ∧ k ≤ s.size ∧ gg = s.size - k ∧ n ≤ k ∧ Hid (out.length = n) ∧ Hid (out ++ scn k (s.data.toList.drop k) = scn 0 s.data.toList) ∧ Hid (sk false (s.data.toList.drop k) = s.data.toList.drop k) ∧ Hid (OwR wr w.heap.size 41 4 tkc (.slice p1 n c1) out) ∧ Hid (Grew w wr))
  case atStart => exact ⟨q0, 0, none, 0, [], rfl, rfl, h2, rfl, Nat.zero_le _, Lib.hid rfl, Lib.hid H0.out.symm, H1, Lib.hid (OwR.nil _ _ _ _ _), HG⟩
  case round =>
    obtain ⟨k, n, p1, c1, out, rfl, rfl, hk, rfl, hn, HN, HO, HK, HR, HG1⟩ := hrel
    by_cases hlt : k < s.size
    · have hf := HF.out k hlt
      have hst := HST.out k hlt HK.out
      rw [extract_drop'] at hf
      have HFC := Lib.hid hf
      have hext : ∀ j, (s.extract j s.size).data.toList = s.data.toList.drop j := extract_drop' s
      obtain ⟨t, ht⟩ : ∃ t, ft (s.data.toList.drop k) = t := ⟨_, rfl⟩
      have hflt : fl (s.data.toList.drop k) = t.length := by rw [← ft_len, ht]
      rw [ht, hflt] at hst
      rw [ht] at HFC
      obtain ⟨T, hT⟩ : ∃ T : ByteArray, (⟨t.toArray⟩ : ByteArray) = T := ⟨_, rfl⟩
      have hTz : t.length = T.size := by rw [← hT]; rfl
      rw [hT] at HFC
      rw [hTz] at hst
      have htok : tok t k = ⟨kd t, T, vl t, k⟩ := by rw [tok, hT]
      rw [htok] at hst
      generalize kd t = kk at *
      generalize vl t = vv at *
      obtain ⟨hs1, hs2, hs3, hs4, hs5⟩ := hst
      have HSK := Lib.hid (fun W => HSX.out (k + T.size) hs5 W)
      rw [hext] at HSK
      generalize bl (s.data.toList.drop (k + T.size)) = m at *
      have HS1 := Lib.hid hs1
      have HS2 := Lib.hid hs2
      clear hf hext ht hflt hT hTz htok hs1 hs2
      replace hs3 : k + T.size + m ≤ s.size := hs3
      replace hs5 : k + T.size ≤ s.size := hs5
      go_upto_region 6 with (go_at_call 27; (with_reducible refine (HFC.out _ (HE.out.grew HG1.out)).mono ?_); rintro e w2 ⟨rfl, g2⟩; have HG2 := Lib.hid g2; clear g2)
      have hb : Blk w2.heap.size (tkc ⟨kk, T, vv, k⟩) 41 (w2.alloc (Obj.cells #[.int .i64 kk, .string T, .int .i16 vv, .int .i64 (k : Int)] 41)) := Blk.new w2 _ _
      have hgV : Grew wr (w2.alloc (Obj.cells #[.int .i64 kk, .string T, .int .i16 vv, .int .i64 (k : Int)] 41)) := HG2.out.alloc _
      have hlt2 := HG2.out.sz
      generalize (w2.alloc (Obj.cells #[.int .i64 kk, .string T, .int .i16 vv, .int .i64 (k : Int)] 41)) = V at hb hgV ⊢
      generalize w2.heap.size = S at hb hlt2 ⊢
      obtain ⟨q0, q1, q2, q3, r0, r1, r2, r3⟩ := tk4 _ _ _ _ _ hb
      have HB := Lib.hid hb
      have HGV := Lib.hid hgV
      have HLT2 := Lib.hid hlt2
      have HSZ := Lib.hid HG1.out.sz
      clear hb hgV hlt2
      go_upto_region 7 with (at_builtin; refine wpList_append_row encT rfl _ _ 26 rfl w.heap.size 41 (tkv ⟨0, ⟨#[]⟩, 0, 0⟩) 40 Tryd.underlying26 infoT rfl _ out rfl (HR.out.kept (HGV.out.alloc _)) _ _ _ [⟨kk, T, vv, k⟩] rfl rfl (madeT _ _ _ _ _ _ rfl rfl) (by have := HN.out; simp; omega) (by have := HN.out; simp; omega) (by have h5 := HGV.out.sz; have h6 := HSZ.out; simp; omega) ?_; intro p2 c2 zs2 w3 hz2 ho2 hb2 hc2; have HO2 := Lib.hid ho2; have HZ2 := Lib.hid hz2.out; have HB3 := Lib.hid ((HB.out.grew ((Grew.refl V).alloc _)).chg hc2 (fun hs => by have h5 := rowlt HR.out hs; have h6 := HLT2.out; omega)); have HG3 : Hid (Grew w w3) := Lib.hid (Below.trans ((HG1.out.trans HGV.out).alloc _) hb2); clear ho2 hb2 hc2 hz2)
      clear q0 q1 q2 q3 r0 r1 r2 r3
      obtain ⟨q0, q1, q2, q3, r0, r1, r2, r3⟩ := tk4 _ _ _ _ _ HB3.out
      obtain rfl := HZ2.out
      have hln : (out ++ [(⟨kk, T, vv, (k : Int)⟩ : Tk)]).length = n + 1 := by rw [List.length_append, HN.out]; rfl
      have HLN := Lib.hid hln
      rw [hln]
      clear hln
      go_wp2_with (go_at_call 26; (with_reducible refine (HSK.out _).mono ?_); rintro e w4 ⟨rfl, g4⟩; have HG4 := Lib.hid g4; clear g4)
      go_roundg (s.size - (k + T.size + m))
      case measure => omega
      case rel => exact ⟨k + T.size + m, n + 1, p2, c2, out ++ [⟨kk, T, vv, k⟩], rfl, by go_num, hs3, rfl, by omega, HLN, Lib.hid (by rw [← HO.out, HS1.out, List.append_assoc]; rfl), HS2, Lib.hid (by have h5 := HO2.out; rw [HLN.out] at h5; exact h5.kept HG4.out), Lib.hid (HG3.out.trans HG4.out)⟩
    · obtain rfl : k = s.size := by omega
      have HF2 : Hid (out ++ [eof s.size] = R) := Lib.hid (by
        rw [HALL.out, ← HO.out, List.drop_of_length_le (show s.data.toList.length ≤ s.size from Nat.le_refl _), scn_nil, List.append_nil])
      have HSZ := Lib.hid HG1.out.sz
      go_wp2_with (at_builtin; refine wpList_append_row encT rfl _ _ 26 rfl w.heap.size 41 (tkv ⟨0, ⟨#[]⟩, 0, 0⟩) 40 Tryd.underlying26 infoT rfl _ out rfl (HR.out.kept ((Grew.refl _).alloc _)) _ _ _ [eof s.size] rfl rfl (madeT _ _ _ _ _ _ rfl rfl) (by have := HN.out; simp; omega) (by have := HN.out; simp; omega) (by have h6 := HSZ.out; simp; omega) ?_; intro p2 c2 zs2 w3 hz2 ho2 hb2 hc2; have HO2 := Lib.hid ho2; have HZ2 := Lib.hid hz2.out; have HG3 : Hid (Grew w w3) := Lib.hid (Below.trans (HG1.out.alloc _) hb2); clear ho2 hb2 hc2 hz2)
      go_ret
      have hz : zs2 = R := by rw [HZ2.out, HF2.out]
      subst hz
      exact ⟨p2, c2, rfl, (HO2.out.rd encT).2, HG3.out⟩
end Go.Proofs.YtcajamgajchheaaDoor
