/-
  The statement of layer 3 (cobs) about memory, walked.
-/
import Derived.Test.YtkkooghmeoodaaaCobsLaws3
namespace Go.Proofs.Ytkkooghmeoodaaa
open Go Go.RowKit Go.IntWalk
set_option linter.unusedSimpArgs false

/-- Only the block g has changed. -/
structure Only (g : Nat) (w w' : World) : Prop where
  os : w'.os = w.os
  tape : w'.tape = w.tape
  output : w'.output = w.output
  size : w'.heap.size = w.heap.size
  block : ∀ k, k ≠ g → w'.heap[k]? = w.heap[k]?
theorem Only.refl (g : Nat) (w : World) : Only g w w := ⟨rfl, rfl, rfl, rfl, fun _ _ => rfl⟩
theorem Only.set {g : Nat} {w w' : World} (h : Only g w w') (j : Nat) (v : Value) : Only g w (w'.setCell ⟨g, j, none⟩ v) :=
  ⟨h.os, h.tape, h.output, by simp [World.setCell, h.size], fun k hk => (Below.heap_setCell _ _ _ _ hk).trans (h.block k hk)⟩
theorem Only.drew {g : Nat} {w w' : World} (h : Only g w w') : Only g w w'.drew := ⟨h.os, h.tape, h.output, h.size, h.block⟩
theorem Only.below {g : Nat} {w w' : World} (h : Only g w w') (N : Nat) (hN : N ≤ g) : Below N w w' := ⟨h.os, h.tape, h.output, by rw [h.size]; exact Nat.le_refl _, fun k hk => h.block k (by omega)⟩
theorem Spl.only {w w' : World} {g sb most sk : Nat} {ac : List UInt8} (h : Spl w sb most ac sk) (ho : Only g w w') (hg : ¬ Cand w sb g) : Spl w' sb most ac sk := h.keep fun k _ hc => ho.block k (fun e => hg (e ▸ hc))

theorem one_made (w : World) (p : Option Addr) (c : Nat) (x : List UInt8) (e : TypeId) : BinV (w.alloc (.cells #[.slice p x.length c] e)) (some ⟨w.heap.size, 0, none⟩) 1 (pkv [⟨p, c, x⟩]) := BinV.made w _ e _
theorem one_len (p : Option Addr) (c : Nat) (x : List UInt8) : ([⟨p, c, x⟩] : List Pk).length = 1 := rfl
/-- Encode, where the data are not empty. -/
theorem enc_at (p : Option Addr) (n c : Nat) (xs zs : List UInt8) (w : World) (hz : zs = encz xs) (hl : xs.length = n) (hs : n ≤ 4294967296) (h : Bin w p c xs) :
    Calls Try.prog 13 #[.slice p n c] w fun e w' => ∃ X c', e = .returned (.slice (some ⟨X, 0, none⟩) zs.length c') ∧ zs.length ≤ c' ∧ c' ≤ 9223372036854775807 ∧ Hid (Own w' w.heap.size 5 (.slice (some ⟨X, 0, none⟩) zs.length c') zs) ∧ Below w.heap.size w w' := by
  subst hz
  refine (encode_any p n c xs w hl hs h).mono fun e w' h => ?_
  obtain ⟨p', c', rfl, ho, hb⟩ := h
  obtain ⟨g, rfl, _, _⟩ := ho.at (by have := (enc_Enc xs).pos; unfold encz; simp)
  exact ⟨g, c', rfl, ho.bin.2.cap, ho.bin.2.max, ho, hb⟩
theorem dec_at (p : Option Addr) (n c : Nat) (xs zs : List UInt8) (w : World) (hz : zs = encz xs) (hl : zs.length = n) (hs : n ≤ 4294967296) (h : Bin w p c zs) :
    Calls Try.prog 15 #[.slice p n c] w fun e w' => ∃ p' c', e = .returned (.tuple #[.slice p' xs.length c', .int .i64 0]) ∧ Hid (Own w' w.heap.size 5 (.slice p' xs.length c') xs) ∧ Below w.heap.size w w' := by
  subst hz
  refine (decode_any p n c _ w hl hs h).mono fun e w' h => ?_
  unfold Decoded at h
  rw [dec_encz] at h
  exact h
theorem half_nz (xs : List UInt8) (k : Nat) (hk : k < (encz xs).length) : stL 300 ⟨[], [], 0⟩ ((encz xs).take k) = ⟨(encz xs).take k, [], 0⟩ := by
  have hn : Nz ((encz xs).take k) := by
    have h1 := (enc_Enc xs).nz
    unfold encz at hk ⊢
    simp at hk
    rw [List.take_append_of_le_length (by omega)]
    exact fun c hc => h1 c (List.mem_of_mem_take hc)
  rw [stL_nz _ _ _ hn]
  rfl
theorem half_rest (xs : List UInt8) (k : Nat) (hk : k < (encz xs).length) (hx : xs.length ≤ 300) : stL 300 ⟨(encz xs).take k, [], 0⟩ ((encz xs).drop k) = ⟨[], [xs], 0⟩ := by
  rw [← half_nz xs k hk, ← stL_append, List.take_append_drop, stL_encz 300 ⟨[], [], 0⟩ xs rfl hx]
  rfl

set_option maxRecDepth 20000 in
set_option maxHeartbeats 4000000 in
theorem alias_walk (p : Option Addr) (n c : Nat) (xs : List UInt8) (w : World) (hl : xs.length = n) (h : Bin w p c xs) :
    Calls Try.prog 10 #[.slice p n c] w fun e w' => e = .returned (.bool true) ∧ Below w.heap.size w w' := by
  have HB := Lib.hid (Below.refl w.heap.size w)
  by_cases hbig : 200 < n ∨ n = 0
  · rcases hbig with hbig | rfl
    all_goals
      go_enter Try.func10, Try.ntmps10
      go_wp2_with (go_at_call 11; (with_reducible refine (wakes_any _).mono ?_); rintro e w1 ⟨rfl, hb1⟩; replace HB := Lib.hid (HB.out.trans (hb1.mono HB.out.size)); clear hb1)
      all_goals (go_ret; exact ⟨rfl, HB.out⟩)
  · subst hl
    have hbn : ¬ 200 < xs.length := by omega
    have hb0 : ((xs.length : Int) == 0) = false := by simp only [beq_eq_false_iff_ne]; omega
    obtain ⟨zs, hzs⟩ : ∃ zs, zs = encz xs := ⟨_, rfl⟩
    have hz1 : zs.length ≤ 2 * xs.length + 2 := by rw [hzs]; exact encz_le xs
    have hz2 : 2 ≤ zs.length := by
      have h1 := (enc_Enc xs).pos
      have h2 : (encz xs).length = (enc xs).length + 1 := by simp [encz]
      rw [hzs]; omega
    obtain ⟨k, hk⟩ : ∃ k, k = zs.length / 2 := ⟨_, rfl⟩
    have hk1 : ((zs.length : Int)).tdiv 2 = (k : Int) := by rw [Int.tdiv_eq_ediv_of_nonneg (by omega)]; omega
    have hk2 : ((zs.length : Int)) / 2 = (k : Int) := by omega
    have hk3 : k < zs.length := by omega
    have hN := Lib.hid (half_nz xs k (by rw [← hzs]; exact hk3))
    have hR := Lib.hid (half_rest xs k (by rw [← hzs]; exact hk3) (by omega))
    rw [← hzs] at hN hR
    have HZ := Lib.hid hzs
    have HI := Lib.hid h
    have hcap := h.cap
    have hmax := h.max
    clear hzs hk h hbig
    go_enter Try.func10, Try.ntmps10
    go_wp2_with (first
      | (go_at_call 11; (with_reducible refine (wakes_any _).mono ?_); rintro e w0 ⟨rfl, hb1⟩; replace HB := Lib.hid (HB.out.trans (hb1.mono HB.out.size)); clear hb1)
      | (go_at_call 13; (with_reducible refine (enc_at _ _ _ xs zs _ HZ.out rfl (by omega) (HI.out.kept HB.out)).mono ?_); rintro e w1 ⟨X, cX, rfl, hcX, hmX, hoX, hbX⟩; have HX := Lib.hid (hoX.out.down HB.out.size); replace HB := Lib.hid (HB.out.trans (hbX.mono HB.out.size)); clear hbX hoX)
      | (go_at_call 19; (with_reducible refine (new_at (300 : Int) 300 _ rfl (by omega) (by omega)).mono ?_); rintro e w2 ⟨rfl, hs2, hb2, hf2⟩)
      | (at_builtin; refine wpList_append_bytes rfl (.tmp 40) _ 22 rfl w2.heap.size 5 _ Try.underlying22 info_u8 rfl _ [] rfl (Own.lit w2 [] 0 _ _ _ rfl rfl (by omega) (Nat.le_refl _)) _ _ cX zs rfl rfl ((HX.out.bin.2.kept hb2.out).kept ((Below.refl _ _).alloc (Nat.le_refl _) _)) (by simp; omega) (size_alloc_le _ (Nat.le_refl _)) ?_; intro pG cG us w3 hu ho3 hb3'; have hus : zs = us := hu.out.symm; subst hus; have hb3 := Lib.hid (((Below.refl w2.heap.size w2).alloc (Nat.le_refl _) _).trans hb3'); clear hb3' hu; obtain ⟨G, hpG, hG1, hG2⟩ := ho3.at (by omega); subst hpG; have hs3 := Lib.hid (hs2.out.kept hb3.out); have hout3 : Hid (Out w3 w1.heap.size (some ⟨G, 0, none⟩)) := fun a ha hc => Spl.new hs2.out (Nat.le_refl _) (fun a ha => (ho3.place a ha).1) a ha ((cand_same (hb3.out.block _ hs2.out.lt) _).1 hc); have hO3 := Lib.hid ho3; have hcG := ho3.bin.2.cap; have hmG := ho3.bin.2.max; clear ho3)
      | (refine wpList_all_h rfl (.tmp 47) _ (.tmp 48) rfl under_bytes size_u8 _ _ cG zs rfl rfl hO3.out.bin.2 _ _ k rfl rfl (by omega) ?_; intro ys hyl hy hyb)
      | (go_at_call 20; (with_reducible refine (write_any w1.heap.size 300 0 [] _ _ cG ys _ (by rw [List.take_nil]; exact hs3.out) (by omega) hyl (by omega) (by omega) (fun w' hf => (hyb.out _ hO3.out.bin.2).off hout3.out hf (Nat.le_refl _))).mono ?_); rintro e w4 ⟨p4, c4, l4, rfl, _, _, _, hs4, hf4, _, _⟩)
      | (refine wpList_all_h rfl (.tmp 51) _ (.tmp 52) rfl under_bytes size_u8 _ _ cG zs rfl rfl hO3.out.bin.2 _ _ k rfl rfl (by omega) ?_; intro ys' _ _ _))
    have hst : stL 300 ⟨[], [], 0⟩ ys = ⟨ys, [], 0⟩ := by rw [hy.out]; exact hN.out
    have hs4' : Hid (Spl w4 w1.heap.size 300 (ys.take (top 300 + 1)) 0) := by
      have := hs4.out
      rw [hst] at this
      exact this
    have hO4 : Hid (Own w4 w2.heap.size 5 (.slice (some ⟨G, 0, none⟩) zs.length cG) zs) := hO3.out.keep fun a ha hl => (hf4.out.block a.block (by omega) (hout3.out a ha)).1
    have hout4 : Hid (¬ Cand w4 w1.heap.size G) := (hf4.out.block G (by omega) (hout3.out _ rfl)).2
    have hb4 : Hid (Below w1.heap.size w1 w4) := hf2.out _ ((Off.of_big hb3.out (Nat.le_refl _) hs2.out.lt).trans (hf4.out.mono hb3.out.size))
    clear hs4 hst
    go_loopg [8, 55] k (fun g iv jv wr => ∃ (i : Nat) (us : List UInt8), jv = .int .i64 i ∧ i ≤ k ∧ g = k - i ∧ Hid (us.length = zs.length) ∧ Hid (Own wr w2.heap.size 5 (.slice (some ⟨G, 0, none⟩) zs.length cG) us) ∧ Hid (Only G w4 wr))
    case atStart => exact ⟨0, zs, rfl, by omega, rfl, rfl, hO4, Only.refl _ _⟩
    case round =>
      obtain ⟨i, us, rfl, hi, rfl, hul, hO, hon⟩ := hrel
      by_cases hik : i < k
      · have hik' : (i : Int) < k := by omega
        have hiz : (i : Int) < zs.length := by omega
        have q4 := hO.out.bin.2.cell i (by rw [hul.out]; omega)
        have q5 := (hO.out.free i).2
        rw [Nat.zero_add] at q4
        go_wp2_with fail
        go_roundg (k - (i + 1))
        case measure => omega
        case rel => exact ⟨i + 1, us.set i 0, by go_num, by omega, rfl, by rw [List.length_set]; exact hul, hO.out.set i 0, hon.out.set _ _⟩
      · obtain rfl : i = k := by omega
        have hs5 : Hid (Spl wr w1.heap.size 300 (ys.take (top 300 + 1)) 0) := hs4'.out.only hon.out hout4.out
        have hG3 : w1.heap.size ≤ G := Nat.le_trans hb2.out.size hG1
        have hb5 : Hid (Below w1.heap.size w1 wr) := hb4.out.trans (hon.out.below _ hG3)
        have hRD : Hid (∀ ds : List UInt8, ds = zs.drop i → stL 300 ⟨ys, [], 0⟩ ds = ⟨[], [xs], 0⟩) := fun ds hd => by rw [hy.out, hd]; exact hR.out
        clear hG1 hG3 hul hO hon hik
        go_wp2_with (first
          | (refine wpList_all_l rfl (.tmp 63) _ (.tmp 64) rfl under_bytes size_u8 _ _ cX zs rfl rfl HX.out.bin.2 _ _ i rfl rfl (by omega) ?_; intro pD cD nD ds hdl hd hnD hdb)
          | (go_at_call 20; (with_reducible refine (write_any w1.heap.size 300 0 ys _ _ cD ds _ hs5.out (by omega) (hdl.trans hnD) (by omega) (by omega) (fun w' hf => hdb.out _ (HX.out.bin.2.kept (hb5.out.trans (hs5.out.below hf hb5.out.size (Nat.le_refl _)))))).mono ?_); rintro e w6 ⟨p6, c6, l6, rfl, _, ho6, hp6, _, hf6, hx6, hfr6⟩; have hb6 : Hid (Below w1.heap.size w1 w6) := hb5.out.trans (hs5.out.below hf6.out hb5.out.size (Nat.le_refl _)))
          | (go_at_call 15; (with_reducible refine (dec_at _ _ _ xs zs _ HZ.out rfl (by omega) (HX.out.bin.2.kept hb6.out)).mono ?_); rintro e w7 ⟨p7, c7, rfl, ho7, hb7⟩))
        have hxs : Hid (l6.map Pk.x = [xs]) := by
          have := hx6.out
          rw [hRD.out ds hd.out] at this
          exact this
        have hb17 : Hid (Below w1.heap.size w1 w7) := hb6.out.trans (hb7.mono hb6.out.size)
        have hX7 : Hid (Own w7 w.heap.size 5 (.slice (some ⟨X, 0, none⟩) zs.length cX) zs) := HX.out.below hb17.out
        have hXp := HX.out.place ⟨X, 0, none⟩ rfl
        have HX1 : Hid (w.heap.size ≤ X ∧ X < w1.heap.size) := hXp
        have hL7 := Lib.hid (ho6.out.kept hb7)
        have hL7p := Lib.hid ho6.out.parts.2.2.2
        have hP7 : Hid (∀ t ∈ l6, Bin w7 t.p t.c t.x) := fun t ht => (hp6.out t ht).bin.kept hb7
        have hY7p := Lib.hid ho7.out.place
        have hs15 := Lib.hid hb5.out.size
        have hs16 := Lib.hid hb6.out.size
        clear hXp hx6 hp6 hdl hnD hb7
        go_loopg [12, 74] zs.length (fun g iv jv wt => ∃ (j : Nat) (us : List UInt8), jv = .int .i64 j ∧ j ≤ zs.length ∧ g = zs.length - j ∧ Hid (us.length = zs.length) ∧ Hid (Own wt w.heap.size 5 (.slice (some ⟨X, 0, none⟩) zs.length cX) us) ∧ Hid (Only X w7 wt))
        case atStart => exact ⟨0, zs, rfl, by omega, rfl, rfl, hX7, Only.refl _ _⟩
        case round =>
          obtain ⟨j, us, rfl, hj, rfl, hul, hO, hon⟩ := hrel
          by_cases hjk : j < zs.length
          · have hjk' : (j : Int) < zs.length := by omega
            have q4 := hO.out.bin.2.cell j (by rw [hul.out]; omega)
            have q5 := (hO.out.free j).2
            rw [Nat.zero_add] at q4
            go_wp2_with fail
            go_roundg (zs.length - (j + 1))
            case measure => omega
            case rel => exact ⟨j + 1, us.set j 7, by go_num, by omega, rfl, by rw [List.length_set]; exact hul, hO.out.set j 7, hon.out.set _ _⟩
          · obtain rfl : j = zs.length := by omega
            have hB8 : Hid (Below w.heap.size w wr) := (HB.out.trans (hb17.out.mono HB.out.size)).trans (hon.out.below _ HX1.out.1)
            have hb8 := Lib.hid (HI.out.kept hB8.out)
            have hy8 : Hid (Bin wr p7 c7 xs) := ho7.out.bin.2.keep fun b o hp _ => hon.out.block b fun e => by
              have h1 := (hY7p.out _ hp).1
              have h2 := HX1.out.2
              have h3 := hs16.out
              simp only at h1
              omega
            have hl8 : Hid (BinV wr p6 c6 (pkv l6)) := hL7.out.parts.2.1.keep fun b o hp _ => hon.out.block b fun e => by
              have h1 := (hL7p.out _ hp).1
              have h2 := HX1.out.2
              have h3 := hs15.out
              simp only at h1
              omega
            have hp8 : Hid (∀ t ∈ l6, Bin wr t.p t.c t.x) := fun t ht => (hP7.out t ht).keep fun b o hp _ => hon.out.block b fun e => by
              have h1 := hfr6.out t ht _ hp
              have h2 := HX1.out.2
              have h3 := hs15.out
              simp only at h1
              omega
            have hxs2 : Hid (l6.map Pk.x = ([⟨p, c, xs⟩] : List Pk).map Pk.x) := hxs.out
            clear hjk hul hO hon
            go_wp2_with (first
              | (go_at_call 12; (with_reducible refine (same_ex _ _ _ xs _ _ _ _ rfl hy8.out rfl hb8.out).mono ?_); rintro e w9 ⟨rfl, rfl⟩)
              | (go_at_call 22; (with_reducible refine (samepk_ex p6 _ c6 l6 _ 1 1 [⟨p, c, xs⟩] _ rfl (hl8.out.keep fun b o _ hb => Below.heap_alloc _ _ _ hb) (one_len _ _ _) (one_made _ _ _ _ _) (fun t ht => (hp8.out t ht).kept ((Below.refl _ _).alloc (Nat.le_refl _) _)) (fun t ht => by obtain rfl := List.mem_singleton.1 ht; exact hb8.out.kept ((Below.refl _ _).alloc (Nat.le_refl _) _)) hxs2.out).mono ?_); rintro e w10 ⟨rfl, hb10⟩))
            go_ret
            exact ⟨rfl, (hB8.out.alloc hB8.out.size _).trans (hb10.mono (size_alloc_le _ hB8.out.size))⟩
end Go.Proofs.Ytkkooghmeoodaaa
