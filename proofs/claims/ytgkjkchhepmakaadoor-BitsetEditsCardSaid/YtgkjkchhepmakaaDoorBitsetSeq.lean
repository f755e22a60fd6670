/-
  CONTRACTS OF LAYER 4 (bitset): the iterator All under a range over it.
-/
import Derived.Test.YtgkjkchhepmakaaDoorBitsetAll
import Derived.RangeFuncBox
import Derived.RangeFuncLeaves
import Derived.RangeFuncWrites
import Derived.RangeFuncCalls
import Derived.Shelf.Abstract
import Derived.Shelf.AbstractIn
import Derived.OwnWalkIn
import Derived.TacticsInMore
import Derived.LoopNIn
import Derived.LoopIn
namespace Go.Proofs.YtgkjkchhepmakaaDoor
open Go.RowKit Go.IntWalk Go.Shelf

set_option maxRecDepth 100000 in
set_option maxHeartbeats 1000000 in
theorem all1_in (n : Nat) (hn : 1 ≤ n) (l B : Nat) (p : Option Addr) (m c : Nat) (ws : List W64) (hm : ws.length = m) (hlen : ws.length ≤ 1024)
    (J Jx : List Nat → World → Prop) (hI : ∀ pre W, J pre W → Rd wv W p c ws ∧ TabAt 0 Lib.deBruijn64tab W)
    (hY : ∀ pre x W, J pre W → pre ++ [x] <+: elsFrom 0 ws → YieldAt Fence.wide (n - 1) Tryd.prog l #[.int .i64 ((x : Nat) : Int)] W fun e W' => (e = .returned (.bool true) ∧ J (pre ++ [x]) W') ∨ (e = .returned (.bool false) ∧ Jx (pre ++ [x]) W'))
    (w : World) (hB : w.cell? ⟨B, 0, none⟩ = some (.slice p m c)) (h0 : J [] w) :
    CallsIn Fence.wide n Tryd.prog 45 #[.func (.yield l) #[] #[], .pointer (some ⟨B, 0, none⟩)] w fun e w' => (∃ v, e = .returned v) ∧ ((∃ ys, ys = elsFrom 0 ws ∧ J ys w') ∨ ∃ pre, pre <+: elsFrom 0 ws ∧ Jx pre w') := by
  subst hm
  obtain ⟨hr, hT⟩ := hI [] w h0
  have hcap := hr.cap
  have hmax := hr.max
  refine callsIn_of_wp Tryd.func45 rfl trivial ?_ rfl
  simp only [Tryd.ntmps45, List.size_toArray, List.length_cons, List.length_nil, Nat.reduceAdd, Nat.reduceSub, Array.replicate_succ, Array.replicate_zero, List.push_toArray, List.append_toArray, List.nil_append, List.cons_append]
  gi_wp2
  gi_loopw [8] (fun v wr => ∃ (k : Nat) (pre : List Nat), v = .int .i64 (k : Int) ∧ k ≤ ws.length ∧ Hid (J pre wr) ∧ Hid (pre ++ elsFrom k (ws.drop k) = elsFrom 0 ws)) (fun v _ => ws.length - (intOf v).toNat)
  case atStart => exact ⟨0, [], rfl, Nat.zero_le _, h0, by simp [Hid]⟩
  case round =>
    obtain ⟨k, pre, rfl, hk, hJ, hel⟩ := hrel
    rcases Nat.lt_or_ge k ws.length with hlt | hge
    · obtain ⟨b, o, rfl, -⟩ := hr.cells (by omega)
      have hcell := (hI _ _ hJ.out).1.word k hlt
      have hdrop := elsFrom_drop ws k hlt
      obtain ⟨u0, hu0⟩ : ∃ u, ws.getD k 0#64 = u := ⟨_, rfl⟩
      rw [hu0] at hcell hdrop
      rw [hdrop, ← List.append_assoc] at hel
      clear hdrop hu0
      gi_wp2
      gi_loopw [4] (fun v wr => ∃ (u : W64) (pre : List Nat), v = .int .u64 (u.toNat : Int) ∧ Hid (J pre wr) ∧ Hid (pre ++ (low u).map (64 * k + ·) ++ elsFrom (k + 1) (ws.drop (k + 1)) = elsFrom 0 ws)) (fun v _ => (intOf v).toNat)
      case atStart => exact ⟨u0, pre, rfl, hJ, hel⟩
      case round =>
        clear hel hJ hcell
        obtain ⟨u, pre, rfl, hJ, hel⟩ := hrel
        by_cases hu : u = 0#64
        · subst hu
          rw [low_zero] at hel
          gi_wp2
          go_roundw
          case rel => exact ⟨k + 1, pre, by simp, hlt, hJ, by simpa [Hid] using hel⟩
          case measure => simp [intOf]; omega
        · obtain ⟨hpeel, hk64⟩ := low_peel u hu
          have hne : ((u.toNat : Int) != 0) = true := by
            have h1 : u.toNat ≠ 0 := fun e => hu (BitVec.eq_of_toNat_eq (by simpa using e))
            simp
            omega
          have hand := pred_num u hu
          have hlt2 := pred_lt u hu
          rw [hpeel, List.map_cons] at hel
          obtain ⟨t, ht⟩ : ∃ t, Lib.ctz 64 u.toNat = t := ⟨_, rfl⟩
          rw [ht] at hel hk64
          have htz := (tz_any u hu wr (hI _ _ hJ.out).2)
          rw [ht] at htz
          have hround := hY pre (64 * k + t) wr hJ.out ⟨(low (u &&& (u - 1#64))).map (64 * k + ·) ++ elsFrom (k + 1) (ws.drop (k + 1)), by rw [← hel.out]; simp⟩
          obtain ⟨u2, hu2⟩ : ∃ u2, u &&& (u - 1#64) = u2 := ⟨_, rfl⟩
          rw [hu2] at hand hlt2 hel
          clear hpeel hu2 ht
          rw [show ((64 * k + t : Nat) : Int) = (k : Int) * 64 + (t : Int) by omega] at hround
          have hpre : pre ++ [64 * k + t] <+: elsFrom 0 ws := ⟨(low u2).map (64 * k + ·) ++ elsFrom (k + 1) (ws.drop (k + 1)), by rw [← hel.out]; simp⟩
          obtain ⟨fn, tmps, assign, body, hy, hR⟩ := hround
          gi_wp2_with (refine ⟨trivial, ?_⟩; gi_at_call 46; refine (callsIn_wide.2 htz).mono ?_; rintro e w1 ⟨rfl, rfl⟩)
          refine hR.mono ?_
          rintro e W3 (⟨rfl, hJ1⟩ | ⟨rfl, hJx⟩)
          · gi_wp2
            refine ⟨⟨u2, pre ++ [64 * k + t], rfl, hJ1, ?_⟩, by simp [intOf]; omega⟩
            rw [← hel.out]
            simp [Hid]
          · gi_wp2
            refine bodyPost_ret (results_none rfl _ _ _) rfl ?_
            exact ⟨⟨_, rfl⟩, .inr ⟨_, hpre, hJx⟩⟩
    · obtain rfl : k = ws.length := by omega
      gi_wp2
      go_end0
      refine ⟨⟨_, rfl⟩, .inl ⟨_, rfl, ?_⟩⟩
      have h1 := hel.out
      rw [elsFrom_end _ _ (Nat.le_refl _), List.append_nil] at h1
      rw [← h1]
      exact hJ.out

/-- An element. -/
abbrev E16 := { n : Nat // n < 65536 }
/-- All HANDS BACK A VALUE THAT RUNS THROUGH THE ELEMENTS, whatever the body of the loop, as long as it keeps what lay below n₀. -/
theorem all_stops (n : Nat) (hn : 1 ≤ n) (B n₀ : Nat) (p : Option Addr) (m c : Nat) (ws : List W64) (f : Nat → Bool) (hm : ws.length = m) (hs : Sets ws f) (w : World) (hn₀ : n₀ ≤ w.heap.size) (hB : B < w.heap.size)
    (hsrc : Src B p m c ws w) (hp : 0 < ws.length → ∀ d o, p = some ⟨d, o, none⟩ → d < n₀) (hg : 0 < n₀) :
    SeqStopsK Fence.wide n Tryd.prog 45 #[.pointer (some ⟨B, 0, none⟩)] (fun x : E16 => #[Value.int .i64 (x.1 : Int)]) (Below n₀) (fun ys => ys.map (·.1) = elsFrom 0 ws) (fun pre => pre.map (·.1) <+: elsFrom 0 ws) (elsFrom 0 ws).length w := by
  intro l J Jx W hW _ _ hY h0
  have hlt : ∀ k ∈ elsFrom 0 ws, k < 65536 := fun k hk => hs.lt k ((hs.els.mem k).1 hk)
  have keep : ∀ {A C : World}, Below n₀ A C → Rd wv A p c ws ∧ TabAt 0 Lib.deBruijn64tab A → Rd wv C p c ws ∧ TabAt 0 Lib.deBruijn64tab C := fun {A C} h hs =>
    ⟨⟨hs.1.cap, hs.1.max, hs.1.bare, fun h0 => by
      obtain ⟨d, o, rfl, hc⟩ := hs.1.cells h0
      have := hp h0 d o rfl
      exact ⟨d, o, rfl, fun i u hu => (h.cell (p := ⟨d, o + i, none⟩) this).trans (hc i u hu)⟩⟩, fun j hj => (h.cell (p := ⟨0, j, none⟩) hg).trans (hs.2 j hj)⟩
  refine (all1_in n hn l B p m c ws hm hs.len (fun pre W1 => (∃ q : List E16, q.map (·.1) = pre ∧ J q W1) ∧ Rd wv W1 p c ws ∧ TabAt 0 Lib.deBruijn64tab W1) (fun pre W1 => ∃ q : List E16, q.map (·.1) = pre ∧ Jx q W1) (fun pre W1 h => h.2) (fun pre x W1 hJ hpre => ?_) W ((hW.cell (p := ⟨B, 0, none⟩) hB).trans hsrc.1) ⟨⟨[], rfl, h0⟩, keep (hW.mono hn₀) hsrc.2⟩).mono ?_
  · obtain ⟨⟨q, rfl, hJq⟩, hrd⟩ := hJ
    have hl := hpre.length_le
    simp only [List.length_append, List.length_cons, List.length_nil, List.length_map] at hl
    have hx : x < 65536 := hlt x (hpre.subset (by simp))
    obtain ⟨fn, tmps, assign, body, hy, hR⟩ := hY q ⟨x, hx⟩ W1 hJq (by omega)
    refine ⟨fn, tmps, assign, body, hy, hR.mono ?_⟩
    rintro e W' (⟨rfl, h1, h2⟩ | ⟨rfl, h1⟩)
    · exact .inl ⟨rfl, ⟨_, by simp, h1⟩, keep h2 hrd⟩
    · exact .inr ⟨rfl, _, by simp, h1⟩
  · rintro e W' ⟨hv, h | h⟩
    · obtain ⟨ys, rfl, ⟨q, hq, h1⟩, _⟩ := h
      exact ⟨hv, .inl ⟨q, hq, h1⟩⟩
    · obtain ⟨pre, hpre, q, rfl, h1⟩ := h
      exact ⟨hv, .inr ⟨q, hpre, h1⟩⟩
end Go.Proofs.YtgkjkchhepmakaaDoor
