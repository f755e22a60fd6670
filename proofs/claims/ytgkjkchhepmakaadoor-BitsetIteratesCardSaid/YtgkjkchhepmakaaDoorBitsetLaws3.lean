/-
  THE STATEMENT BitsetIterates OF LAYER 4 (bitset), WALKED.
-/
import Derived.Test.YtgkjkchhepmakaaDoorBitsetIter
import Derived.Deep.RegionWith
namespace Go.Proofs.YtgkjkchhepmakaaDoor
open Go.RowKit Go.IntWalk

theorem all_box (p : Option Addr) (n c : Nat) (w : World) :
    Calls Tryd.prog 34 #[.agg #[.slice p n c]] w fun e w' => e = .returned (.func (.func 45) #[] #[.pointer (some ⟨w.heap.size, 0, none⟩)]) ∧ w'.cell? ⟨w.heap.size, 0, none⟩ = some (.slice p n c) ∧ Below w.heap.size w w' := by
  refine (all_any p n c w).mono ?_
  rintro e w' ⟨rfl, rfl⟩
  exact ⟨rfl, new_cell _ _ _, (Below.refl _ _).alloc (Nat.le_refl _) _⟩

set_option maxRecDepth 20000 in
set_option maxHeartbeats 1000000 in
theorem iterates_walk (p : Option Addr) (n c : Nat) (l : List Int) (st : Int) (hst0 : 0 ≤ st) (hst1 : st ≤ 255) (W : World) (hn : l.length = n) (hl : Rd iv W p c l) (hwf0 : ∀ x ∈ l, (Lit.int .i64 x).wf = true) (he : Env W) :
    Calls Tryd.prog 9 #[.slice p n c, .int .u8 st] W fun e W' => e = .returned (.bool true) ∧ Below W.heap.size W W' := by
  subst hn
  have hwf := wf_in hwf0
  clear hwf0
  have HB := Below.refl W.heap.size W
  by_cases hsm : l.length ≤ 60
  · have hs60 : l.length ≤ 1048576 := by omega
    have hd : decide (l.length ≤ 60) = true := by simpa using hsm
    obtain ⟨x, hyx, hx⟩ := LstI.of l
    have hrof := Lib.hid (show ∀ w, Rd iv w p c l → Calls Tryd.prog 14 #[.slice p l.length c] w fun e w' => ∃ r k j, e = .returned (.slice r k j) ∧ k = (x.map fun n : Nat => (n : Int)).length ∧ Rd iv w' r j (x.map fun n : Nat => (n : Int)) ∧ Below w.heap.size w w' from fun w h => by
      have := rof_any p l.length c l w rfl hs60 h
      rwa [hyx] at this)
    have hsm65 := hx.small (ofl_lt l)
    obtain ⟨y, hy0⟩ : ∃ y, (x.map fun n : Nat => (n : Int)) = y := ⟨_, rfl⟩
    have hylen : y.length = x.length := by rw [← hy0]; simp
    rw [hy0] at hrof
    obtain ⟨L, hL⟩ : ∃ L : Nat, st % 20 + 1 = (L : Int) := ⟨(st % 20 + 1).toNat, by omega⟩
    obtain ⟨n1, hn1⟩ : ∃ n1 : Nat, min y.length L = n1 := ⟨_, rfl⟩
    have hmin : min (y.length : Int) (L : Int) = (n1 : Int) := by omega
    have hyx1 := Lib.hid hy0
    have hn1H := Lib.hid hn1
    have hylH := Lib.hid hylen
    have hLH := Lib.hid hL
    clear hy0 hyx hylen hn1
    go_enter Tryd.func9, Tryd.ntmps9
    go_wp2_with (first
      | (go_at_call 11; generalize hW : World.alloc _ _ = v0; have hb : Below W.heap.size W v0 := (by rw [← hW]; exact ((Below.refl _ _).alloc (Nat.le_refl _) _)); have hstop : v0.cell? ⟨W.heap.size, 0, none⟩ = some (.int .u8 st) := (by rw [← hW]; exact new_cell _ _ _); clear hW; replace hl := Rd.kept hl hb; replace he := Env.kept he hb; replace HB := HB.trans (hb.mono HB.size); clear hb; generalize W.heap.size = T at hstop ⊢; (with_reducible refine (awake_any _ he).mono ?_); rintro e w1 ⟨rfl, hb⟩; replace hl := Rd.kept hl hb; replace he := Env.kept he hb; replace HB := HB.trans (hb.mono HB.size); replace hstop := (hb.cell (p := ⟨T, 0, none⟩) (World.block_lt_of_cell? _ _ hstop)).trans hstop; clear hb)
      | (go_at_call 12; (with_reducible refine (small_any _ _ _ _).mono ?_); rintro e _ ⟨rfl, rfl⟩)
      | (go_at_call 14; (with_reducible refine (hrof.out _ hl).mono ?_); rintro e w2 ⟨r2, _, j2, rfl, rfl, hy, hb⟩; replace hl := Rd.kept hl hb; replace he := Env.kept he hb; replace HB := HB.trans (hb.mono HB.size); replace hstop := (hb.cell (p := ⟨T, 0, none⟩) (World.block_lt_of_cell? _ _ hstop)).trans hstop; clear hb)
      | (go_at_call 13; (with_reducible refine (of_any _ _ _ l _ rfl hl hwf).mono ?_); rintro e w3 ⟨r, k, j, rfl, -, hs, hb⟩; replace hl := Rd.kept hl hb; replace he := Env.kept he hb; replace HB := HB.trans (hb.mono HB.size); replace hstop := (hb.cell (p := ⟨T, 0, none⟩) (World.block_lt_of_cell? _ _ hstop)).trans hstop; replace hy := Rd.kept hy hb; clear hb)
      | (go_at_call 34; (with_reducible refine (all_box _ _ _ _).mono ?_); rintro e w4 ⟨rfl, hbox, hb⟩; replace hl := Rd.kept hl hb; replace he := Env.kept he hb; replace HB := HB.trans (hb.mono HB.size); replace hstop := (hb.cell (p := ⟨T, 0, none⟩) (World.block_lt_of_cell? _ _ hstop)).trans hstop; replace hy := Rd.kept hy hb; replace hs := St.kept hs hb; clear hb; generalize w3.heap.size = B at hbox ⊢))
    obtain ⟨ws, rfl, hrw, hsets⟩ := hs
    have hg : 0 < w4.heap.size := World.block_lt_of_cell? _ _ (he.tz 0 (by decide))
    have hBlt : B < w4.heap.size := World.block_lt_of_cell? _ _ hbox
    have hTlt : T < w4.heap.size := World.block_lt_of_cell? _ _ hstop
    have hp : 0 < ws.length → ∀ d o, r = some ⟨d, o, none⟩ → d < w4.heap.size := fun h0 d o e => by
      subst e
      exact hrw.lt h0
    have hcol := Lib.hid (fun S W0 a1 a2 a3 a4 a5 a6 a7 a8 a9 => collect2_any S T B L r ws.length j (ofl l) x ws st W0 hst0 hst1 hLH.out rfl hsets hx a1 a2 a3 a4 a5 a6 a7 a8 a9)
    clear hl hmin
    go_loopw [26] (fun v wr => ∃ k : Nat, v = .int .i64 (k : Int) ∧ k ≤ 2 ∧ Hid (Below w4.heap.size w4 wr)) (fun v _ => 2 - (intOf v).toNat)
    case atStart => exact ⟨0, rfl, by omega, Below.refl _ _⟩
    case round =>
      obtain ⟨k, rfl, hk, hbw⟩ := hrel
      have hsz4 : w4.heap.size ≤ wr.heap.size := hbw.out.size
      rcases Nat.lt_or_ge k 2 with hlt | hge
      · go_wp2_with (go_at_call 45; generalize hW : World.alloc _ _ = V; have hb : Below w4.heap.size w4 V := (by rw [← hW]; exact hbw.out.alloc hbw.out.size _); have hsz : V.heap.size = wr.heap.size + 1 := (by rw [← hW]; simp); have hc0 : V.cell? ⟨wr.heap.size, 0, none⟩ = some (.slice none 0 0) := (by rw [← hW]; exact new_cell _ _ _); have hf0 : V.frozen? ⟨wr.heap.size, 0, none⟩ = false := (by rw [← hW]; exact new_free _ _ _); clear hW; refine (hcol.out wr.heap.size V ⟨(hb.cell (p := ⟨B, 0, none⟩) hBlt).trans hbox, hrw.kept hb, (he.kept hb).tz⟩ (fun h0 d o e => Nat.lt_of_lt_of_le (hp h0 d o e) hsz4) (Nat.lt_of_lt_of_le hg hsz4) (Nat.lt_of_lt_of_le hBlt hsz4) (Nat.lt_of_lt_of_le hTlt hsz4) hsz hc0 hf0 ((hb.cell (p := ⟨T, 0, none⟩) hTlt).trans hstop)).mono ?_; rintro e w5 ⟨⟨v, rfl⟩, p5, c5, hc5, ho5, hbut⟩; have hb5 := Lib.hid (hb.trans (hbut.below (M := w4.heap.size) (by omega) hsz4)); clear hc0 hf0 hsz hbut hb)
        have hn1y : n1 ≤ y.length := by have := hn1H.out; omega
        have hycap := (hy.kept hb5.out).cap
        have hymax := (hy.kept hb5.out).max
        have hra := Lib.hid ho5.rd.2.drew
        have hrb := Lib.hid ((hy.kept hb5.out).upto n1 hn1y).drew
        have heq := Lib.hid (show ((x.take L).map fun n : Nat => (n : Int)) = y.take n1 by
          rw [← hyx1.out, List.map_take]
          have h1 := hn1H.out
          have h2 : (x.map fun n : Nat => (n : Int)).length = y.length := by rw [hyx1.out]
          rcases Nat.le_total L y.length with h | h
          · rw [show n1 = L by omega]
          · rw [List.take_of_length_le (by omega), List.take_of_length_le (by omega)])
        have hla := Lib.hid (show ((x.take L).map fun n : Nat => (n : Int)).length = (x.take L).length by simp)
        have hlb := Lib.hid (show (y.take n1).length = n1 by simp; omega)
        generalize ((x.take L).map fun n : Nat => (n : Int)) = za at hra heq hla
        generalize (x.take L).length = ka at hla hc5 ⊢
        have hcut0 := cut0_zero r2 j2
        go_region_with (go_at_call 30; (with_reducible refine (requal_any _ _ _ za _ _ _ (y.take n1) _ hla.out hlb.out hra.out hrb.out).mono ?_); rintro e w6 ⟨t, rfl, ht, hb6⟩)
        all_goals simp only [List.getElem_toArray, List.getElem_cons_zero, List.getElem_cons_succ, Act.put, List.setIfInBounds_toArray, List.set_cons_succ, List.set_cons_zero]
        all_goals obtain rfl : t = true := ht.out.2 heq.out
        all_goals have hbend := Lib.hid (hb5.out.drew.trans (hb6.mono hb5.out.size))
        all_goals go_wp2
        all_goals exact ⟨⟨k + 1, by simp, hlt, hbend⟩, by simp [intOf]; omega⟩
      · obtain rfl : k = 2 := by omega
        go_wp2
        go_ret
        exact ⟨rfl, HB.trans (hbw.out.mono HB.size)⟩
  · have hd : decide (l.length ≤ 60) = false := by simpa using hsm
    go_enter Tryd.func9, Tryd.ntmps9
    go_wp2_with (first
      | (go_at_call 11; generalize hW : World.alloc _ _ = v0; have hb : Below W.heap.size W v0 := (by rw [← hW]; exact ((Below.refl _ _).alloc (Nat.le_refl _) _)); have hstop : v0.cell? ⟨W.heap.size, 0, none⟩ = some (.int .u8 st) := (by rw [← hW]; exact new_cell _ _ _); clear hW; replace he := Env.kept he hb; replace HB := HB.trans (hb.mono HB.size); clear hb; generalize W.heap.size = T at hstop ⊢; (with_reducible refine (awake_any _ he).mono ?_); rintro e w1 ⟨rfl, hb⟩; replace he := Env.kept he hb; replace HB := HB.trans (hb.mono HB.size); replace hstop := (hb.cell (p := ⟨T, 0, none⟩) (World.block_lt_of_cell? _ _ hstop)).trans hstop; clear hb)
      | (go_at_call 12; (with_reducible refine (small_any _ _ _ _).mono ?_); rintro e _ ⟨rfl, rfl⟩))
    go_ret
    exact ⟨rfl, HB⟩
end Go.Proofs.YtgkjkchhepmakaaDoor
