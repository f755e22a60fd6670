/-
  The statement of layer 3 (cobs) about streams of packets, walked.
-/
import Derived.Test.YtkkooghmeoodaaaCobsLaws2
namespace Go.Proofs.Ytkkooghmeoodaaa
open Go Go.RowKit Go.IntWalk
set_option linter.unusedSimpArgs false

theorem stL_flat (most : Nat) (ps out : List (List UInt8)) (sk : Nat) (h : ∀ x ∈ ps, x.length ≤ most) : stL most ⟨[], out, sk⟩ (ps.flatMap encz) = ⟨[], out ++ ps, sk⟩ := by
  induction ps generalizing out with
  | nil => simp [stL]
  | cons x ps ih =>
    rw [List.flatMap_cons, stL_append, stL_encz most ⟨[], out, sk⟩ x rfl (h x (by simp)), ih _ (fun y hy => h y (by simp [hy]))]
    simp
/-- What was there before the splitter was made stays. -/
theorem before_spl {w w' : World} {most : Nat} (hf : Off (w.alloc (spl0 (most : Int))).heap.size w.heap.size (w.alloc (spl0 (most : Int))) w') : Below w.heap.size w w' :=
  ((Below.refl w.heap.size w).alloc (Nat.le_refl _) _).trans ((spl_new w most).below hf (size_alloc_le _ (Nat.le_refl _)) (Nat.le_refl _))
theorem new_at (z : Int) (most : Nat) (w : World) (hz : z = most) (h1 : 1 ≤ most) (h2 : most ≤ 65536) :
    Calls Try.prog 19 #[.int .i64 z] w fun e w' => e = .returned (.tuple #[.pointer (some ⟨w.heap.size, 0, none⟩), .int .i64 0]) ∧ Hid (Spl w' w.heap.size most [] 0) ∧ Hid (Below w.heap.size w w') ∧ Hid (∀ w'', Off w'.heap.size w.heap.size w' w'' → Below w.heap.size w w'') := by
  subst hz
  refine (new_any _ w (by omega) (by omega)).mono fun e w' h => ?_
  obtain ⟨rfl, rfl⟩ := h
  exact ⟨rfl, spl_new w most, (Below.refl _ _).alloc (Nat.le_refl _) _, fun w'' hf => before_spl hf⟩
theorem encz_le (xs : List UInt8) : (encz xs).length ≤ 2 * xs.length + 2 := by
  have h1 := (enc_Enc xs).le
  have h2 := top_le xs.length
  unfold encz; simp; omega

set_option maxRecDepth 20000 in
set_option maxHeartbeats 4000000 in
theorem packets_walk (p : Option Addr) (n c : Nat) (l : List Pk) (d : UInt8) (w : World) (hl : l.length = n) (h : BinV w p c (pkv l)) (hp : ∀ t ∈ l, Bin w t.p t.c t.x) :
    Calls Try.prog 9 #[.slice p n c, .int .u8 (d.toNat : Int)] w fun e w' => e = .returned (.bool true) ∧ Below w.heap.size w w' := by
  have HB := Lib.hid (Below.refl w.heap.size w)
  have l1 := d.toNat_lt
  by_cases hbig : 12 < n
  · go_enter Try.func9, Try.ntmps9
    go_wp2_with (go_at_call 11; (with_reducible refine (wakes_any _).mono ?_); rintro e w1 ⟨rfl, hb1⟩; replace HB := Lib.hid (HB.out.trans (hb1.mono HB.out.size)); clear hb1)
    go_ret
    exact ⟨rfl, HB.out⟩
  · subst hl
    have HI := Lib.hid h
    have HP := Lib.hid hp
    have hcap := h.cap
    have hmax := h.max
    rw [pkv_len] at hcap
    clear h hp
    go_enter Try.func9, Try.ntmps9
    go_wp2_with (go_at_call 11; (with_reducible refine (wakes_any _).mono ?_); rintro e w1 ⟨rfl, hb1⟩; replace HB := Lib.hid (HB.out.trans (hb1.mono HB.out.size)); clear hb1)
    go_loopg [6, 8, 21] l.length (fun g sv pv iv wr => ∃ (k : Nat) (p2 : Option Addr) (n2 c2 : Nat) (zs : List UInt8), sv = .slice p2 n2 c2 ∧ iv = .int .i64 k ∧ k ≤ l.length ∧ g = l.length - k ∧ n2 ≤ 600 * k ∧
      Hid (Own wr w.heap.size 5 (.slice p2 n2 c2) zs) ∧ Hid (Below w.heap.size w wr) ∧ Hid (zs = ((l.map Pk.x).take k).flatMap encz) ∧ Hid (∀ x ∈ (l.map Pk.x).take k, x.length ≤ 1 + d.toNat))
    case atStart => exact ⟨0, none, 0, 0, [], rfl, rfl, by omega, rfl, by omega, own_nil _ _ _, HB, rfl, fun x hx => by simp at hx⟩
    case round =>
      obtain ⟨k, p2, n2, c2, zs, rfl, rfl, hk, rfl, hn2, hzs, hbw, hst, hlen⟩ := hrel
      obtain rfl := hzs.out.bin.1
      by_cases hkl : k < l.length
      · have hkl' : (k : Int) < l.length := by omega
        obtain ⟨b, o, hq, hcell⟩ := HI.out.cells (by rw [pkv_len]; omega)
        subst hq
        obtain ⟨⟨pk, ck, xk⟩, htk⟩ : ∃ t, t = l[k] := ⟨_, rfl⟩
        have hc0 : w.cell? ⟨b, o + k, none⟩ = some (.slice pk xk.length ck) := by rw [hcell k _ (pkv_get l k hkl), ← htk]; rfl
        have hc1 : wr.cell? ⟨b, o + k, none⟩ = some (.slice pk xk.length ck) := (hbw.out.cell (World.block_lt_of_cell? _ _ hc0)).trans hc0
        have hib := Lib.hid ((HP.out l[k] (List.getElem_mem _)).kept hbw.out)
        have HTK : Hid ((l.map Pk.x).take (k + 1) = (l.map Pk.x).take k ++ [xk]) := by
          show _ = _
          rw [List.take_add_one]
          simp [hkl, ← htk]
        rw [← htk] at hib
        have hxc := hib.out.cap
        have hxm := hib.out.max
        clear hc0 hcell htk
        by_cases hxl : 1 + d.toNat < xk.length
        · have hxl' : (1 : Int) + (d.toNat : Int) < (xk.length : Int) := by omega
          go_wp2_with fail
          go_ret
          exact ⟨rfl, hbw.out⟩
        · have hxl' : ¬ (1 : Int) + (d.toNat : Int) < (xk.length : Int) := by omega
          have hez := encz_le xk
          go_wp2_with (first
            | (go_at_call 13; (with_reducible refine (encode_any _ _ _ xk _ rfl (by omega) hib.out).mono ?_); rintro e w2 ⟨p3, c3, rfl, ho3, hb3⟩)
            | (at_builtin; refine wpList_append_bytes rfl (.tmp 29) _ 22 rfl w.heap.size 5 _ Try.underlying22 info_u8 rfl _ zs rfl (hzs.out.below hb3) p3 _ c3 (encz xk) rfl rfl ho3.bin.2 (by omega) (Nat.le_trans hbw.out.size hb3.size) ?_; intro p4 c4 us w4 hu ho4 hb4))
          go_roundg (l.length - (k + 1))
          case measure => omega
          case rel =>
            refine ⟨k + 1, p4, _, c4, us, rfl, by go_num, by omega, rfl, by rw [hu.out, List.length_append]; omega, ho4, (hbw.out.trans (hb3.mono hbw.out.size)).trans hb4, ?_, ?_⟩
            · rw [hu.out, hst.out, HTK.out, List.flatMap_append]; simp [Hid]
            · rw [HTK.out]
              intro x hx
              rcases List.mem_append.1 hx with hx | hx
              · exact hlen.out x hx
              · obtain rfl := List.mem_singleton.1 hx
                omega
      · obtain rfl : k = l.length := by omega
        have htk : (l.map Pk.x).take l.length = l.map Pk.x := List.take_of_length_le (by simp)
        have hflat : stL (1 + d.toNat) ⟨[], [], 0⟩ zs = ⟨[], l.map Pk.x, 0⟩ := by
          rw [hst.out, htk, stL_flat _ _ _ _ (by have := hlen.out; rw [htk] at this; exact this)]
          simp
        have HF := Lib.hid hflat
        have HW := Lib.hid (List.take_nil (i := top (1 + d.toNat) + 1) (α := UInt8))
        have hzb := Lib.hid hzs.out.bin.2
        clear hflat htk
        go_wp2_with (first
          | (go_at_call 19; (with_reducible refine (new_at _ (1 + d.toNat) _ (by omega) (by omega) (by omega)).mono ?_); rintro e w2 ⟨rfl, hs2, hb2, hf2⟩)
          | (go_at_call 20; (with_reducible refine (write_any wr.heap.size (1 + d.toNat) 0 [] p2 _ c2 zs _ (by rw [HW.out]; exact hs2.out) (by omega) rfl (by omega) (by omega) (fun w' hf => hzb.out.kept (hf2.out w' hf))).mono ?_); rintro e w4 ⟨p4, c4, l4, rfl, hl4, ho4, hp4, hs4, hf4, hx4, _⟩; have HB4 := Lib.hid (hbw.out.trans ((hf2.out _ hf4.out).mono hbw.out.size)))
          | (go_at_call 22; (with_reducible refine (samepk_ex p4 _ c4 l4 p _ c l _ rfl ho4.out.parts.2.1 rfl (HI.out.keep fun b o _ hb => HB4.out.block b hb) (fun t ht => (hp4.out t ht).bin) (fun t ht => (HP.out t ht).kept HB4.out) (by rw [hx4.out, HF.out])).mono ?_); rintro e w7 ⟨rfl, hb7⟩)
          | (go_at_call 23; (with_reducible refine (skipped_any wr.heap.size (1 + d.toNat) _ _ _ (hs4.out.kept hb7)).mono ?_); rintro e w8 ⟨rfl, rfl⟩))
        go_ret
        exact ⟨ret_bool (by rw [HF.out]; simp), HB4.out.trans (hb7.mono HB4.out.size)⟩
end Go.Proofs.Ytkkooghmeoodaaa
