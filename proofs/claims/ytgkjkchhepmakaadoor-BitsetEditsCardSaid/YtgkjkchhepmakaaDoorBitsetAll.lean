/-
  CONTRACTS OF LAYER 4 (bitset): the iterator All.
-/
import Derived.Test.YtgkjkchhepmakaaDoorBitsetSets5
import Derived.Shelf.Abstract
namespace Go.Proofs.YtgkjkchhepmakaaDoor
open Go.RowKit Go.IntWalk Go.Shelf

theorem all_any (p : Option Addr) (n c : Nat) (w : World) :
    Calls Tryd.prog 34 #[.agg #[.slice p n c]] w fun e w' => e = .returned (.func (.func 45) #[] #[.pointer (some ⟨w.heap.size, 0, none⟩)]) ∧ w' = w.alloc (.cells #[.slice p n c] 27) := by
  go_enter Tryd.func34, Tryd.ntmps34
  go_wp2
  go_ret
  exact ⟨rfl, rfl⟩

theorem pred_num (u : W64) (h : u ≠ 0#64) : bits .and .u64 (u.toNat : Int) ((u.toNat : Int) - 1) = ((u &&& (u - 1#64)).toNat : Int) := by
  have h1 : u.toNat ≠ 0 := fun e => h (BitVec.eq_of_toNat_eq (by simpa using e))
  have hu := u.isLt
  have e : ((u.toNat : Int) - 1) = ((u - 1#64).toNat : Int) := by
    rw [pred_toNat u h]
    omega
  rw [e, and_num]
theorem pred_lt (u : W64) (h : u ≠ 0#64) : (u &&& (u - 1#64)).toNat < u.toNat := by
  have h1 : u.toNat ≠ 0 := fun e => h (BitVec.eq_of_toNat_eq (by simpa using e))
  rw [BitVec.toNat_and, pred_toNat u h]
  have := Nat.and_le_right (n := u.toNat) (m := u.toNat - 1)
  omega

/-- What the iterator reads. -/
def Src (B : Nat) (p : Option Addr) (n c : Nat) (ws : List W64) (W : World) : Prop :=
  W.cell? ⟨B, 0, none⟩ = some (.slice p n c) ∧ Rd wv W p c ws ∧ TabAt 0 Lib.deBruijn64tab W

set_option maxHeartbeats 400000 in
theorem all1_any (g : Nat) (lb : Array Value) (eg : ∀ args w, (callFunc g args).run Tryd.prog w = .ok (.enter g args) w) (B : Nat) (p : Option Addr) (n c : Nat) (ws : List W64) (hn : ws.length = n) (hlen : ws.length ≤ 1024)
    (J Jx : List Nat → World → Prop) (hI : ∀ pre W, J pre W → Src B p n c ws W)
    (hY : ∀ pre x W, J pre W → pre ++ [x] <+: elsFrom 0 ws → Calls Tryd.prog g (#[.int .i64 (x : Int)] ++ lb) W fun e W' => (e = .returned (.bool true) ∧ J (pre ++ [x]) W') ∨ (e = .returned (.bool false) ∧ Jx (pre ++ [x]) W'))
    (w : World) (h0 : J [] w) :
    Calls Tryd.prog 45 #[.func (.func g) #[] lb, .pointer (some ⟨B, 0, none⟩)] w fun e w' => (∃ v, e = .returned v) ∧ (J (elsFrom 0 ws) w' ∨ ∃ pre, pre <+: elsFrom 0 ws ∧ Jx pre w') := by
  subst hn
  obtain ⟨hB, hr, hT⟩ := hI [] w h0
  have hcap := hr.cap
  have hmax := hr.max
  go_enter Tryd.func45, Tryd.ntmps45
  go_wp2
  go_loopw [8] (fun v wr => ∃ (k : Nat) (pre : List Nat), v = .int .i64 (k : Int) ∧ k ≤ ws.length ∧ Hid (J pre wr) ∧ Hid (pre ++ elsFrom k (ws.drop k) = elsFrom 0 ws)) (fun v _ => ws.length - (intOf v).toNat)
  case atStart => exact ⟨0, [], rfl, Nat.zero_le _, h0, by simp [Hid]⟩
  case round =>
    obtain ⟨k, pre, rfl, hk, hJ, hel⟩ := hrel
    rcases Nat.lt_or_ge k ws.length with hlt | hge
    · obtain ⟨b, o, rfl, _⟩ := hr.cells (by omega)
      have hcell := (hI _ _ hJ.out).2.1.word k hlt
      have hdrop := elsFrom_drop ws k hlt
      obtain ⟨u0, hu0⟩ : ∃ u, ws.getD k 0#64 = u := ⟨_, rfl⟩
      rw [hu0] at hcell hdrop
      rw [hdrop, ← List.append_assoc] at hel
      clear hdrop hu0
      go_wp2
      go_loopw [4] (fun v wr => ∃ (u : W64) (pre : List Nat), v = .int .u64 (u.toNat : Int) ∧ Hid (J pre wr) ∧ Hid (pre ++ (low u).map (64 * k + ·) ++ elsFrom (k + 1) (ws.drop (k + 1)) = elsFrom 0 ws)) (fun v _ => (intOf v).toNat)
      case atStart => exact ⟨u0, pre, rfl, hJ, hel⟩
      case round =>
        clear hel hJ hcell
        obtain ⟨u, pre, rfl, hJ, hel⟩ := hrel
        by_cases hu : u = 0#64
        · subst hu
          rw [low_zero] at hel
          go_wp2
          go_roundw
          case rel => exact ⟨k + 1, pre, by simp, hlt, hJ, by simpa [Hid] using hel⟩
          case measure => simp [intOf]; omega
        · obtain ⟨hpeel, hk64⟩ := low_peel u hu
          have hne : ((u.toNat : Int) != 0) = true := by
            have h1 : u.toNat ≠ 0 := fun e => hu (BitVec.eq_of_toNat_eq (by simpa using e))
            simp
            omega
          have hand := pred_num u hu
          have hlt2 := pred_lt u hu
          rw [hpeel, List.map_cons] at hel
          obtain ⟨t, ht⟩ : ∃ t, Lib.ctz 64 u.toNat = t := ⟨_, rfl⟩
          rw [ht] at hel hk64
          have htz := (tz_any u hu wr (hI _ _ hJ.out).2.2)
          rw [ht] at htz
          have hround := hY pre (64 * k + t) wr hJ.out ⟨(low (u &&& (u - 1#64))).map (64 * k + ·) ++ elsFrom (k + 1) (ws.drop (k + 1)), by rw [← hel.out]; simp⟩
          obtain ⟨u2, hu2⟩ : ∃ u2, u &&& (u - 1#64) = u2 := ⟨_, rfl⟩
          rw [hu2] at hand hlt2 hel
          clear hpeel hu2 ht
          rw [show ((64 * k + t : Nat) : Int) = (k : Int) * 64 + (t : Int) by omega] at hround
          have hpre : pre ++ [64 * k + t] <+: elsFrom 0 ws := ⟨(low u2).map (64 * k + ·) ++ elsFrom (k + 1) (ws.drop (k + 1)), by rw [← hel.out]; simp⟩
          go_wp2_with (first
            | (go_at_call 46; refine htz.mono ?_; rintro e w1 ⟨rfl, rfl⟩)
            | (go_at_fn g; refine hround.mono ?_; rintro e w1 (⟨rfl, hJ1⟩ | ⟨rfl, hJx⟩)))
          · refine ⟨⟨u2, pre ++ [64 * k + t], rfl, hJ1, ?_⟩, by simp [intOf]; omega⟩
            rw [← hel.out]
            simp [Hid]
          · try simp only [Exit.inBlock, Exit.then]
            refine bodyPost_ret (results_none rfl _ _ _) rfl ?_
            exact ⟨⟨_, rfl⟩, .inr ⟨_, hpre, hJx⟩⟩
    · obtain rfl : k = ws.length := by omega
      go_wp2
      go_end0
      refine ⟨⟨_, rfl⟩, .inl ?_⟩
      have h1 := hel.out
      rw [elsFrom_end _ _ (Nat.le_refl _), List.append_nil] at h1
      rw [← h1]
      exact hJ.out
end Go.Proofs.YtgkjkchhepmakaaDoor
