/-
  CONTRACTS OF LAYER 3 (cobs) AND OF ITS REFERENCE: Decode.
-/
import Derived.Test.YtkkooghmeoodaaaCobsWalks2
namespace Go.Proofs.Ytkkooghmeoodaaa
open Go.RowKit Go.IntWalk

/-- What a call of Decode returns. -/
def Decoded (xs : List UInt8) (w : World) (e : Ending) (w' : World) : Prop :=
  ∃ p' c', e = .returned (.tuple #[.slice p' (dec xs).1.length c', .int .i64 ((dec xs).2 : Int)]) ∧ Own w' w.heap.size 5 (.slice p' (dec xs).1.length c') (dec xs).1 ∧ Below w.heap.size w w'
theorem Decoded.bad {xs : List UInt8} {w w' : World} {k : Nat} {z : Int} (h : dec xs = ([], k)) (hz : z = k) (hb : Below w.heap.size w w') : Decoded xs w (.returned (.tuple #[.slice none 0 0, .int .i64 z])) w' := by
  subst hz
  unfold Decoded
  rw [h]
  exact ⟨none, 0, rfl, own_nil _ _ _, hb⟩
theorem Decoded.good {xs zs : List UInt8} {w w' : World} {p' : Option Addr} {c' : Nat} (h : dec xs = (zs, 0)) (ho : Own w' w.heap.size 5 (.slice p' zs.length c') zs) (hb : Below w.heap.size w w') : Decoded xs w (.returned (.tuple #[.slice p' zs.length c', .int .i64 0])) w' := by
  unfold Decoded
  rw [h]
  exact ⟨p', c', rfl, ho, hb⟩

theorem cons_part (a : UInt8) (t : List UInt8) (k : Nat) (hk : 0 < k) : ((a :: t).take k).drop 1 = t.take (k - 1) := by
  obtain ⟨j, rfl⟩ : ∃ j, k = j + 1 := ⟨k - 1, by omega⟩
  simp
theorem cons_rest (a : UInt8) (t : List UInt8) (k : Nat) (hk : 0 < k) : (a :: t).drop k = t.drop (k - 1) := by
  obtain ⟨j, rfl⟩ : ∃ j, k = j + 1 := ⟨k - 1, by omega⟩
  simp
theorem nz_drop {t : List UInt8} (h : Nz t) (k : Nat) : Nz (t.drop k) := fun c hc => h c (List.mem_of_mem_drop hc)
set_option maxHeartbeats 1000000 in
theorem decode_any (p : Option Addr) (n c : Nat) (xs : List UInt8) (w : World) (hl : xs.length = n) (hs : n ≤ 4294967296) (h : Bin w p c xs) :
    Calls Try.prog 15 #[.slice p n c] w (Decoded xs w) := by
  rcases h.parts with rfl | ⟨hn, b, o, rfl⟩
  · obtain rfl : n = 0 := hl.symm
    go_enter Try.func15, Try.ntmps15
    go_wp2_with fail
    go_ret2
    exact Decoded.bad (dec_trunc (.inl rfl)) rfl (Below.refl _ _)
  · obtain ⟨m, rfl⟩ : ∃ m, n = m + 1 := ⟨n - 1, by omega⟩
    have hxne : xs ≠ [] := List.length_pos_iff.1 hn
    have hc0 := h.cell m (by omega)
    have hcap := h.cap
    have hmax := h.max
    rw [hl] at hcap
    obtain ⟨d, hd⟩ : ∃ d, d = xs.getD m 0 := ⟨_, rfl⟩
    rw [← hd] at hc0
    have l1 := d.toNat_lt
    by_cases hz : d = 0
    · subst hz
      have hd' : xs.getD (xs.length - 1) 0 = 0 := by rw [hl]; exact hd.symm
      have HD := Lib.hid hd'
      have HL := Lib.hid hl
      have HI := Lib.hid h
      clear hd hd' hl h hn
      by_cases hm0 : m = 0
      · subst hm0
        rw [Nat.add_zero] at hc0
        go_enter Try.func15, Try.ntmps15
        go_wp2_with (first
          | (refine wpList_cut_h rfl (.tmp 20) _ (.tmp 23) rfl under_bytes size_u8 _ _ c xs rfl HL.out HI.out _ _ 0 rfl (by omega) (by omega) ?_; intro gs hgl hg hgb))
        go_ret2
        refine Decoded.bad (dec_syn hxne HD.out fun x hx => ?_) rfl (Below.refl _ _)
        rw [HL.out] at hx
        exact hx.not_nil
      · have hm1 : ((m : Int) == 0) = false := by simp; omega
        go_enter Try.func15, Try.ntmps15
        go_wp2_with (first
          | (refine wpList_cut_h rfl (.tmp 20) _ (.tmp 23) rfl under_bytes size_u8 _ _ c xs rfl HL.out HI.out _ _ m rfl (by omega) (by omega) ?_; intro gs hgl hg hgb)
          | (go_at_call 25; (with_reducible refine (index_any _ _ _ gs _ hgl hgb).mono ?_); rintro e w1 ⟨z, rfl, hzat, rfl⟩)
          | (at_make; (refine wpList_make_bytes rfl _ _ 22 rfl w.heap.size 5 _ Try.underlying22 info_u8 _ _ _ m rfl rfl (by omega) (by omega) (Nat.le_refl _) ?_; intro w1 ho1 hb1)))
        · go_ret2
          refine Decoded.bad (dec_syn hxne HD.out fun x hx => ?_) rfl (Below.refl _ _)
          rw [HL.out, Nat.add_sub_cancel, ← hg.out] at hx
          rcases hzat with ⟨rfl, _⟩ | ⟨k, _, hk, _, hk0⟩
          · omega
          · refine hx.nz (gs.getD k 0) ?_ hk0
            simp [List.getD, hk]
        · have hgz : Hid (Nz gs) := by
            rcases hzat with ⟨_, h1⟩ | ⟨k, rfl, _⟩
            · exact h1
            · omega
          have hgn : gs ≠ [] := List.length_pos_iff.1 (by omega)
          have HG := Lib.hid hgl
          have HT : Hid (xs.take (xs.length - 1) = gs) := by rw [HL.out, hg.out]; rfl
          clear hgl hzat
          go_loopg [4, 5, 6, 7] m (fun g rv dv cv fv wr => ∃ (p1 : Option Addr) (n1 c1 : Nat) (rs : List UInt8) (p2 : Option Addr) (n2 c2 : Nat) (zs : List UInt8), rv = .slice p1 n1 c1 ∧ dv = .slice p2 n2 c2 ∧ rs.length = n1 ∧ g = n1 ∧ n2 + n1 ≤ m ∧ Hid (Bin w p1 c1 rs) ∧ Hid (Own wr w.heap.size 5 (.slice p2 n2 c2) zs) ∧ Hid (Below w.heap.size w wr) ∧ Hid (Nz rs) ∧ Hid (Bwd gs zs rs) ∧ Hid (Fwd gs zs rs))
          case atStart => exact ⟨_, m, c, gs, _, 0, _, [], rfl, rfl, HG.out, rfl, by omega, hgb, ho1, hb1, hgz, Bwd.start gs, Fwd.start hgn⟩
          case round =>
            obtain ⟨p1, n1, c1, rs, p2, n2, c2, zs, rfl, rfl, rfl, rfl, hsum, hrs, hzs, hbw, hnz, hB, hF⟩ := hrel
            obtain rfl := hzs.out.bin.1
            rcases hrs.out.parts with rfl | ⟨hr0, b1, o1, rfl⟩
            · go_wp2_with fail
              go_ret2
              refine Decoded.good (dec_ok hxne HD.out ?_) hzs.out hbw.out
              rw [HT.out]
              exact hF.out.done
            · obtain ⟨c0, t, rfl⟩ := List.exists_cons_of_length_pos hr0
              have hc1 := (hrs.out.kept hbw.out).cell 0 (by simp)
              have l2 := c0.toNat_lt
              have hcap1 := hrs.out.cap
              have hmax1 := hrs.out.max
              have hc0z : 0 < c0.toNat := by
                have := hnz.out c0 (by simp)
                rcases Nat.eq_zero_or_pos c0.toNat with h0 | h0
                · exact absurd (UInt8.toNat_inj.1 (by simpa using h0)) this
                · exact h0
              simp only [List.getD_cons_zero, Nat.add_zero, List.length_cons] at hc1 hcap1 hsum hr0 ⊢
              go_wp2_with (first
                | (refine wpList_cut_lh rfl (.tmp 48) _ (.const (.int .i64 1)) (.tmp 49) rfl under_bytes size_u8 _ _ c1 (c0 :: t) rfl rfl hrs.out _ _ _ _ 1 c0.toNat rfl rfl rfl (by omega) (by omega) (by omega) ?_; intro p5 c5 n5 es hel he hn5 heb)
                | (at_builtin; refine wpList_append_bytes rfl (.tmp 47) _ 22 rfl w.heap.size 5 _ Try.underlying22 info_u8 rfl _ zs rfl hzs.out _ _ _ es rfl (by omega) (heb.kept hbw.out) (by omega) hbw.out.size ?_; intro p4 c4 us w4 hu ho4 hb4'; have hb4 := Lib.hid (hbw.out.trans hb4'); clear hb4')
                | (refine wpList_cut_l rfl (.tmp 52) _ (.tmp 53) rfl under_bytes size_u8 _ _ c1 (c0 :: t) rfl rfl hrs.out _ _ c0.toNat rfl rfl (by omega) ?_; intro p6 c6 n6 fs hfl hf hn6 hfb)
                | (at_builtin; refine wpList_append_bytes rfl (.tmp 70) _ 22 rfl w.heap.size 5 _ Try.underlying22 info_u8 rfl _ us rfl (ho4.alloc _) _ 1 1 _ rfl rfl (Bin.made _ _ 1 _ _ _ zero_cell rfl (by omega)) (by rw [hu.out]; simp; omega) (size_alloc_le _ hb4.out.size) ?_; intro p7 c7 ts w7 ht ho7 hb7))
              · go_ret2
                refine Decoded.bad (dec_syn hxne HD.out fun x hx => ?_) rfl hbw.out
                rw [HT.out] at hx
                have := (hB.out.code hx).2
                omega
              · rename_i hodd
                go_ret2
                refine Decoded.bad (dec_syn hxne HD.out fun x hx => ?_) rfl hb4.out
                rw [HT.out] at hx
                refine hB.out.odd hx (by omega) ?_
                have : (t.length + 1 - c0.toNat : Nat) = 1 := by simp at hodd; omega
                rw [List.length_drop]; omega
              · rename_i hodd
                have hodd : t.length + 1 - c0.toNat ≠ 1 := by intro e; rw [e] at hodd; simp at hodd
                have he2 : us = zs ++ (t.take (c0.toNat - 1) ++ if c0.toNat < 255 ∧ t.drop (c0.toNat - 1) ≠ [] then [0] else []) := by
                  rw [hu.out, he.out, cons_part _ _ _ hc0z, if_neg (by omega), List.append_nil]
                have hul : us.length = zs.length + es.length := by rw [hu.out]; simp
                have hfs : fs = t.drop (c0.toNat - 1) := by rw [hf.out, cons_rest _ _ _ hc0z]
                go_roundg (t.length + 1 - c0.toNat)
                case measure => first | omega | (simp; omega)
                case rel =>
                  refine ⟨p6, _, c6, fs, p4, _, c4, us, rfl, rfl, hfl.trans hn6, rfl, by omega, hfb, ho4, hb4, ?_, ?_, ?_⟩
                  · rw [hfs]; exact nz_drop (fun c hc => hnz.out c (by simp [hc])) _
                  · rw [hfs]; exact hB.out.next he2
                  · rw [hfs]; exact hF.out.next (fun c hc => hnz.out c (by simp [hc])) hc0z (by omega) (fun _ => by rw [List.length_drop]; omega) he2
              · have hne : t.drop (c0.toNat - 1) ≠ [] := by apply List.length_pos_iff.1; rw [List.length_drop]; omega
                have he2 : ts = zs ++ (t.take (c0.toNat - 1) ++ if c0.toNat < 255 ∧ t.drop (c0.toNat - 1) ≠ [] then [0] else []) := by
                  rw [ht.out, hu.out, he.out, cons_part _ _ _ hc0z, if_pos ⟨by omega, hne⟩, List.append_assoc]
                have hul : ts.length = zs.length + es.length + 1 := by rw [ht.out, hu.out]; simp; omega
                have hfs : fs = t.drop (c0.toNat - 1) := by rw [hf.out, cons_rest _ _ _ hc0z]
                go_roundg (t.length + 1 - c0.toNat)
                case measure => first | omega | (simp; omega)
                case rel =>
                  refine ⟨p6, _, c6, fs, p7, _, c7, ts, rfl, rfl, hfl.trans hn6, rfl, by omega, hfb, ho7, (hb4.out.alloc hb4.out.size _).trans hb7, ?_, ?_, ?_⟩
                  · rw [hfs]; exact nz_drop (fun c hc => hnz.out c (by simp [hc])) _
                  · rw [hfs]; exact hB.out.next he2
                  · rw [hfs]; exact hF.out.next (fun c hc => hnz.out c (by simp [hc])) hc0z (by omega) (fun _ => by omega) he2
              · have hne : t.drop (c0.toNat - 1) = [] := by apply List.eq_nil_of_length_eq_zero; rw [List.length_drop]; omega
                have he2 : us = zs ++ (t.take (c0.toNat - 1) ++ if c0.toNat < 255 ∧ t.drop (c0.toNat - 1) ≠ [] then [0] else []) := by
                  rw [hu.out, he.out, cons_part _ _ _ hc0z, if_neg (fun h => h.2 hne), List.append_nil]
                have hul : us.length = zs.length + es.length := by rw [hu.out]; simp
                have hfs : fs = t.drop (c0.toNat - 1) := by rw [hf.out, cons_rest _ _ _ hc0z]
                go_roundg (t.length + 1 - c0.toNat)
                case measure => first | omega | (simp; omega)
                case rel =>
                  refine ⟨p6, _, c6, fs, p4, _, c4, us, rfl, rfl, hfl.trans hn6, rfl, by omega, hfb, ho4, hb4, ?_, ?_, ?_⟩
                  · rw [hfs]; exact nz_drop (fun c hc => hnz.out c (by simp [hc])) _
                  · rw [hfs]; exact hB.out.next he2
                  · rw [hfs]; exact hF.out.next (fun c hc => hnz.out c (by simp [hc])) hc0z (by omega) (fun _ => by omega) he2
    · have hd0 : ((d.toNat : Int) != 0) = true := by
        simp only [bne_iff_ne, ne_eq]
        intro e
        exact hz (UInt8.toNat_inj.1 (by simpa using e))
      have hd' : xs.getD (xs.length - 1) 0 ≠ 0 := by rw [hl]; exact fun e => hz (hd.trans e)
      have HD := Lib.hid hd'
      clear hd hd'
      go_enter Try.func15, Try.ntmps15
      go_wp2_with fail
      go_ret2
      exact Decoded.bad (dec_trunc (.inr HD.out)) rfl (Below.refl _ _)
end Go.Proofs.Ytkkooghmeoodaaa
