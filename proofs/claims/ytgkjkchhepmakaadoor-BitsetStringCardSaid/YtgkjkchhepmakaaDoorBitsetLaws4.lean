/-
  THE STATEMENT BitsetString OF LAYER 4 (bitset), WALKED.
-/
import Derived.Test.YtgkjkchhepmakaaDoorBitsetNum
namespace Go.Proofs.YtgkjkchhepmakaaDoor
open Go.RowKit Go.IntWalk

set_option maxRecDepth 20000 in
set_option maxHeartbeats 1000000 in
theorem string_walk (p : Option Addr) (n c : Nat) (l : List Int) (W : World) (hn : l.length = n) (hl : Rd iv W p c l) (hwf0 : ∀ x ∈ l, (Lit.int .i64 x).wf = true) (he : Env W) :
    Calls Tryd.prog 8 #[.slice p n c] W fun e W' => e = .returned (.bool true) ∧ Below W.heap.size W W' := by
  subst hn
  have hwf := wf_in hwf0
  clear hwf0
  have HB := Below.refl W.heap.size W
  by_cases hsm : l.length ≤ 60
  · have hs60 : l.length ≤ 1048576 := by omega
    have hd : decide (l.length ≤ 60) = true := by simpa using hsm
    obtain ⟨x, hyx, hx⟩ := LstI.of l
    have hxs : x.length ≤ 65536 := by
      have := fold_len l []
      rw [hyx] at this
      simp at this
      omega
    have hrof := Lib.hid (show ∀ w, Rd iv w p c l → Calls Tryd.prog 14 #[.slice p l.length c] w fun e w' => ∃ r k j, e = .returned (.slice r k j) ∧ k = (x.map fun n : Nat => (n : Int)).length ∧ Rd iv w' r j (x.map fun n : Nat => (n : Int)) ∧ Below w.heap.size w w' from fun w h => by
      have := rof_any p l.length c l w rfl hs60 h
      rwa [hyx] at this)
    have hsm65 : ∀ k ∈ x, k < 65536 := fun k hk => ofl_lt l k ((hx.mem k).1 hk)
    clear hyx
    go_enter Tryd.func8, Tryd.ntmps8
    go_wp2_with (first
      | (go_at_call 11; (with_reducible refine (awake_any _ he).mono ?_); rintro e w1 ⟨rfl, hb⟩; replace hl := Rd.kept hl hb; replace he := Env.kept he hb; replace HB := HB.trans (hb.mono HB.size); clear hb)
      | (go_at_call 12; (with_reducible refine (small_any _ _ _ _).mono ?_); rintro e _ ⟨rfl, rfl⟩)
      | (go_at_call 13; (with_reducible refine (of_any _ _ _ l _ rfl hl hwf).mono ?_); rintro e w2 ⟨r, k, j, rfl, -, hs, hb⟩; replace hl := Rd.kept hl hb; replace he := Env.kept he hb; replace HB := HB.trans (hb.mono HB.size); clear hb)
      | (go_at_call 32; (with_reducible refine (string_any _ _ _ _ x _ hs hx he.tz he.pow).mono ?_); rintro e w3 ⟨rfl, hb⟩; replace hl := Rd.kept hl hb; replace he := Env.kept he hb; replace HB := HB.trans (hb.mono HB.size); replace hs := St.kept hs hb; clear hb)
      | (go_at_call 14; (with_reducible refine (hrof.out _ hl).mono ?_); rintro e w4 ⟨r2, _, j2, rfl, rfl, hy, hb⟩; replace hl := Rd.kept hl hb; replace he := Env.kept he hb; replace HB := HB.trans (hb.mono HB.size); replace hs := St.kept hs hb; clear hb)
      | (go_at_call 33; (with_reducible refine (rstring_any _ _ _ x _ (by simp) hxs hsm65 hy).mono ?_); rintro e w5 ⟨rfl, hb⟩; replace hl := Rd.kept hl hb; replace he := Env.kept he hb; replace HB := HB.trans (hb.mono HB.size); replace hs := St.kept hs hb; replace hy := Rd.kept hy hb; clear hb))
    go_ret
    exact ⟨rfl, HB⟩
  · have hd : decide (l.length ≤ 60) = false := by simpa using hsm
    go_enter Tryd.func8, Tryd.ntmps8
    go_wp2_with (first
      | (go_at_call 11; (with_reducible refine (awake_any _ he).mono ?_); rintro e w1 ⟨rfl, hb⟩; replace he := Env.kept he hb; replace HB := HB.trans (hb.mono HB.size); clear hb)
      | (go_at_call 12; (with_reducible refine (small_any _ _ _ _).mono ?_); rintro e _ ⟨rfl, rfl⟩))
    go_ret
    exact ⟨rfl, HB⟩
end Go.Proofs.YtgkjkchhepmakaaDoor
