/-
  CONTRACTS OF THE REFERENCE OF LAYER 3 (cobs): Decode.
-/
import Derived.Test.YtkkooghmeoodaaaCobsWalks3
namespace Go.Proofs.Ytkkooghmeoodaaa
open Go.RowKit Go.IntWalk

theorem part_eq (xs : List UInt8) (k m c : Nat) (hc : 0 < c) (hm : k + c ≤ m) : (xs.take (k + c)).drop (k + 1) = ((xs.take m).drop (k + 1)).take (c - 1) := by
  rw [List.drop_take, List.drop_take, List.take_take]
  congr 1
  omega
theorem rest_eq (xs : List UInt8) (k m c : Nat) (hc : 0 < c) : ((xs.take m).drop (k + 1)).drop (c - 1) = (xs.take m).drop (k + c) := by
  rw [List.drop_drop]
  congr 1
  omega
set_option maxRecDepth 20000 in
set_option maxHeartbeats 1000000 in
theorem rdecode_any (p : Option Addr) (n c : Nat) (xs : List UInt8) (w : World) (hl : xs.length = n) (hs : n ≤ 4294967296) (h : Bin w p c xs) :
    Calls Try.prog 16 #[.slice p n c] w (Decoded xs w) := by
  rcases h.parts with rfl | ⟨hn, b, o, rfl⟩
  · obtain rfl : n = 0 := hl.symm
    go_enter Try.func16, Try.ntmps16
    go_wp2_with fail
    go_ret2
    exact Decoded.bad (dec_trunc (.inl rfl)) rfl (Below.refl _ _)
  · obtain ⟨m, rfl⟩ : ∃ m, n = m + 1 := ⟨n - 1, by omega⟩
    have hxne : xs ≠ [] := List.length_pos_iff.1 hn
    have hc0 := h.cell m (by omega)
    have hcap := h.cap
    have hmax := h.max
    rw [hl] at hcap
    obtain ⟨d, hd⟩ : ∃ d, d = xs.getD m 0 := ⟨_, rfl⟩
    rw [← hd] at hc0
    have l1 := d.toNat_lt
    by_cases hz : d = 0
    · subst hz
      have hd' : xs.getD (xs.length - 1) 0 = 0 := by rw [hl]; exact hd.symm
      have HD := Lib.hid hd'
      have HL := Lib.hid hl
      have HI := Lib.hid h
      have HT : Hid (xs.take (xs.length - 1) = xs.take m) := by rw [hl]; rfl
      have HTL : Hid ((xs.take m).length = m) := by show _ = _; simp; omega
      clear hd hd' hl h hn
      go_enter Try.func16, Try.ntmps16
      go_wp2_with fail
      go_loopg [4, 5, 6] m (fun g dv av nv wr => ∃ (k : Nat) (p2 : Option Addr) (n2 c2 : Nat) (zs : List UInt8), dv = .slice p2 n2 c2 ∧ av = .int .i64 k ∧ k ≤ m ∧ g = m - k ∧ n2 ≤ k ∧ Hid (Own wr w.heap.size 5 (.slice p2 n2 c2) zs) ∧ Hid (Below w.heap.size w wr) ∧ Hid (Bwd (xs.take m) zs ((xs.take m).drop k)))
      case atStart => exact ⟨0, none, 0, 0, [], rfl, rfl, by omega, rfl, by omega, own_nil _ _ _, Below.refl _ _, Bwd.start _⟩
      case round =>
        obtain ⟨k, p2, n2, c2, zs, rfl, rfl, hk, rfl, hsum, hzs, hbw, hB⟩ := hrel
        obtain rfl := hzs.out.bin.1
        by_cases hkm : k = m
        · subst hkm
          have hB0 : Bwd (xs.take k) zs [] := by
            have := hB.out
            rwa [List.drop_of_length_le (by rw [HTL.out]; omega)] at this
          have hdec := dec_by hxne HD.out (by rw [HT.out]; exact hB0)
          have HDec := Lib.hid hdec
          clear hdec
          go_wp2_with (first
            | (go_at_call 14; (with_reducible refine (rencode_any _ _ _ zs _ rfl (by omega) hzs.out.bin.2).mono ?_); rintro e w2 ⟨p3, c3, rfl, ho3, hb3⟩)
            | (go_at_call 12; (with_reducible refine (same_any _ _ _ (encz zs) _ _ _ xs _ rfl ho3.bin.2 HL.out (HI.out.kept (hbw.out.trans (hb3.mono hbw.out.size)))).mono ?_); rintro e w3 ⟨rfl, rfl⟩))
          · go_ret2
            rename_i he
            exact Decoded.bad (by rw [HDec.out, if_neg (by simpa using he)]) rfl (hbw.out.trans (hb3.mono hbw.out.size))
          · go_ret2
            rename_i he
            have hb3' := hbw.out.trans (hb3.mono hbw.out.size)
            exact Decoded.good (by rw [HDec.out, if_pos (by simpa using he)]) (hzs.out.below hb3) hb3'
        · have hc1 := (HI.out.kept hbw.out).cell k (by rw [HL.out]; omega)
          obtain ⟨c0, hc0d⟩ : ∃ d, d = xs.getD k 0 := ⟨_, rfl⟩
          rw [← hc0d] at hc1
          have l2 := c0.toNat_lt
          obtain ⟨t, ht⟩ : ∃ t, t = (xs.take m).drop (k + 1) := ⟨_, rfl⟩
          have htl : Hid (t.length = m - k - 1) := by show _ = _; rw [ht, List.length_drop, HTL.out]; omega
          have hrest : (xs.take m).drop k = c0 :: t := by
            rw [drop_cons_getD _ _ (by rw [HTL.out]; omega), ← ht, hc0d]
            congr 1
            simp [List.getD, show k < m by omega]
          have hB' : Hid (Bwd (xs.take m) zs (c0 :: t)) := by rw [← hrest]; exact hB
          have hT2 := Lib.hid ht
          clear hB hrest hc0d ht
          have hkm' : (k : Int) < m := by omega
          go_wp2_with (first
            | (refine wpList_cut_lh rfl (.tmp 41) _ (.tmp 43) (.tmp 46) rfl under_bytes size_u8 _ _ c xs rfl HL.out HI.out _ _ _ _ (k + 1) (k + c0.toNat) rfl (by omega) rfl (by omega) (by omega) (by omega) ?_; intro p5 c5 n5 es hel he hn5 heb)
            | (at_builtin; refine wpList_append_bytes rfl (.tmp 40) _ 22 rfl w.heap.size 5 _ Try.underlying22 info_u8 rfl _ zs rfl hzs.out _ _ _ es rfl (by omega) (heb.kept hbw.out) (by omega) hbw.out.size ?_; intro p4 c4 us w4 hu ho4 hb4'; have hb4 := Lib.hid (hbw.out.trans hb4'); clear hb4')
            | (at_builtin; refine wpList_append_bytes rfl (.tmp 61) _ 22 rfl w.heap.size 5 _ Try.underlying22 info_u8 rfl _ us rfl (ho4.alloc _) _ 1 1 _ rfl rfl (Bin.made _ _ 1 _ _ _ zero_cell rfl (by omega)) (by rw [hu.out]; simp; omega) (size_alloc_le _ hb4.out.size) ?_; intro p7 c7 ts w7 ht ho7 hb7))
          · go_ret2
            refine Decoded.bad (dec_syn hxne HD.out fun x hx => ?_) rfl hbw.out
            rw [HT.out] at hx
            have := (hB'.out.code hx).1
            omega
          · go_ret2
            rename_i hor
            refine Decoded.bad (dec_syn hxne HD.out fun x hx => ?_) rfl hbw.out
            rw [HT.out] at hx
            have := (hB'.out.code hx).2
            have := htl.out
            rcases hor with h0 | h0
            · simp at h0; omega
            · omega
          · rename_i hcz _ _
            have hc0z : 0 < c0.toNat := by omega
            have hcm : k + c0.toNat ≤ m := by omega
            have hes : es = t.take (c0.toNat - 1) := by rw [he.out, hT2.out, part_eq _ _ m _ hc0z hcm]
            have htd : t.drop (c0.toNat - 1) = (xs.take m).drop (k + c0.toNat) := by rw [hT2.out, rest_eq _ _ _ _ hc0z]
            have htdl : (t.drop (c0.toNat - 1)).length = m - (k + c0.toNat) := by rw [htd, List.length_drop, HTL.out]
            have hne : t.drop (c0.toNat - 1) ≠ [] := by apply List.length_pos_iff.1; omega
            have he2 : ts = zs ++ (t.take (c0.toNat - 1) ++ if c0.toNat < 255 ∧ t.drop (c0.toNat - 1) ≠ [] then [0] else []) := by
              rw [ht.out, hu.out, hes, if_pos ⟨by omega, hne⟩, List.append_assoc]
            have hul : ts.length = zs.length + es.length + 1 := by rw [ht.out, hu.out]; simp; omega
            go_roundg (m - (k + c0.toNat))
            case measure => omega
            case rel => exact ⟨k + c0.toNat, p7, _, c7, ts, rfl, by go_num, by omega, rfl, by omega, ho7, (hb4.out.alloc hb4.out.size _).trans hb7, by have := hB'.out.next he2; rw [htd] at this; exact this⟩
          · rename_i hcz _ _
            have hc0z : 0 < c0.toNat := by omega
            have hcm : k + c0.toNat ≤ m := by omega
            have hes : es = t.take (c0.toNat - 1) := by rw [he.out, hT2.out, part_eq _ _ m _ hc0z hcm]
            have htd : t.drop (c0.toNat - 1) = (xs.take m).drop (k + c0.toNat) := by rw [hT2.out, rest_eq _ _ _ _ hc0z]
            have htdl : (t.drop (c0.toNat - 1)).length = m - (k + c0.toNat) := by rw [htd, List.length_drop, HTL.out]
            have hne : t.drop (c0.toNat - 1) = [] := by apply List.eq_nil_of_length_eq_zero; omega
            have he2 : us = zs ++ (t.take (c0.toNat - 1) ++ if c0.toNat < 255 ∧ t.drop (c0.toNat - 1) ≠ [] then [0] else []) := by
              rw [hu.out, hes, if_neg (fun h => h.2 hne), List.append_nil]
            have hul : us.length = zs.length + es.length := by rw [hu.out]; simp
            go_roundg (m - (k + c0.toNat))
            case measure => omega
            case rel => exact ⟨k + c0.toNat, p4, _, c4, us, rfl, by go_num, by omega, rfl, by omega, ho4, hb4, by have := hB'.out.next he2; rw [htd] at this; exact this⟩
          · rename_i hcz _
            have hc0z : 0 < c0.toNat := by omega
            have hcm : k + c0.toNat ≤ m := by omega
            have hes : es = t.take (c0.toNat - 1) := by rw [he.out, hT2.out, part_eq _ _ m _ hc0z hcm]
            have htd : t.drop (c0.toNat - 1) = (xs.take m).drop (k + c0.toNat) := by rw [hT2.out, rest_eq _ _ _ _ hc0z]
            have htdl : (t.drop (c0.toNat - 1)).length = m - (k + c0.toNat) := by rw [htd, List.length_drop, HTL.out]
            have he2 : us = zs ++ (t.take (c0.toNat - 1) ++ if c0.toNat < 255 ∧ t.drop (c0.toNat - 1) ≠ [] then [0] else []) := by
              rw [hu.out, hes, if_neg (by omega), List.append_nil]
            have hul : us.length = zs.length + es.length := by rw [hu.out]; simp
            go_roundg (m - (k + c0.toNat))
            case measure => omega
            case rel => exact ⟨k + c0.toNat, p4, _, c4, us, rfl, by go_num, by omega, rfl, by omega, ho4, hb4, by have := hB'.out.next he2; rw [htd] at this; exact this⟩
    · have hd0 : ((d.toNat : Int) != 0) = true := by
        simp only [bne_iff_ne, ne_eq]
        intro e
        exact hz (UInt8.toNat_inj.1 (by simpa using e))
      have hd' : xs.getD (xs.length - 1) 0 ≠ 0 := by rw [hl]; exact fun e => hz (hd.trans e)
      have HD := Lib.hid hd'
      clear hd hd'
      go_enter Try.func16, Try.ntmps16
      go_wp2_with fail
      go_ret2
      exact Decoded.bad (dec_trunc (.inr HD.out)) rfl (Below.refl _ _)
end Go.Proofs.Ytkkooghmeoodaaa
