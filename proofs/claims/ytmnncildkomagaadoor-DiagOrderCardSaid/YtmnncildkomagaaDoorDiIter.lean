/-
  CONTRACTS OF LAYER 14 (diag): maps.Keys and its iterator.
-/
import Derived.Test.YtmnncildkomagaaDoorDiCmp
import Derived.Test.YtmnncildkomagaaDoorEachP
import Derived.RangeFuncCalls
import Derived.RangeFuncBound
import Derived.Shelf.Abstract
import Derived.Shelf.AbstractIn
import Derived.OwnWalkIn
import Derived.TacticsInMore
import Derived.LoopIn
namespace Go.Proofs.YtmnncildkomagaaDoor
open Go Go.RowKit Go.IntWalk Go.Shelf
set_option linter.unusedSimpArgs false
set_option linter.unusedVariables false
set_option maxRecDepth 8000

attribute [local go_sem] Oper.semAt_some
/-- How many entries have not come yet. -/
def leftC (w : World) (b r : Nat) : Nat :=
  match w.heap[b]?, w.heap[r]? with
  | some (.map es _), some (.mapIter _ _ seen _) => es.size - seen.size
  | _, _ => 0
theorem Ranged.leftC {α : Type} {P : Program} {k : TypeId} {kv : α → Value} {w : World} {b r : Nat} {L pre : List α} (h : Ranged P k kv w b r L pre) : leftC w b r = L.length - pre.length := by
  obtain ⟨es, clock, seen, ys, h1, h2, h3, h4, _, _, h7⟩ := h
  have e1 : seen.size = ys.length := by
    have := congrArg List.length h4
    simpa using this
  have e2 : ys.length = pre.length := by
    have := congrArg List.length h7
    simpa using this
  unfold Proofs.YtmnncildkomagaaDoor.leftC
  rw [h1, h3]
  simp only
  rw [h2.size, e1, e2]
theorem keys_any (mo : Option Nat) (w : World) : Calls Tryd.prog 35 #[.map mo] w fun e w' => e = .returned (.func (.func 52) #[] #[.pointer (some ⟨w.heap.size, 0, none⟩)]) ∧ w' = w.alloc (.cells #[.map mo] MapT) := by
  go_enter Tryd.func35, Tryd.ntmps35
  go_wp2
  go_ret
  exact ⟨rfl, rfl⟩
set_option maxRecDepth 100000 in
set_option maxHeartbeats 4000000 in
theorem keys1_gives (Bm b : Nat) (L : List It) (w : World) (hm : Blk Bm [.map (some b)] MapT w) (hs : SetM Tryd.prog 37 itv w b L) :
    Gives Tryd.prog 52 #[.pointer (some ⟨Bm, 0, none⟩)] (fun x => #[itv x]) (fun pre _ => pre.length < L.length) (fun k => k = Bm ∨ k = b) (fun xs => xs.Nodup ∧ ∀ x, x ∈ xs ↔ x ∈ L) (fun _ => True) w := by
  intro nn l J Jx W hgW hJ hJx hY h0
  obtain ⟨P₀, hP₀⟩ : ∃ P : Blks, P = fun k => k = Bm ∨ k = b := ⟨_, rfl⟩
  rw [← hP₀] at h0
  have pB : P₀ b := by rw [hP₀]; exact .inr rfl
  have p0 : ∀ k, P₀ k → k < W.heap.size := fun k hk => by
    rw [hP₀] at hk
    have h1 := hm.lt; have h2 := hs.lt; have h4 := hgW.sz
    rcases hk with rfl | rfl <;> omega
  have hmW := hm.grew hgW
  obtain ⟨w0, hrange, hR0, hg0⟩ := (hs.grew hgW).range Tryd.underlying33
  have c0 := hmW.cell 0
  have l0 := hmW.lt
  simp only [List.getElem?_cons_zero] at c0
  have HY := Lib.hid hY
  have HJ := Lib.hid hJ
  have HJ0 := Lib.hid (hJ.grew h0 hg0 (P' := fun k => P₀ k ∨ k = W.heap.size) (fun k hk hp => hp.elim id (fun e => by omega)))
  have HR0 := Lib.hid hR0
  have HP0 := Lib.hid p0
  have HPB := Lib.hid pB
  have HZ0 := Lib.hid hg0.sz
  have HZR := Lib.hid hR0.lt.2
  have HWW := Lib.hid hgW.sz
  clear hm hs hgW hY hJ hJx h0 hP₀ pB p0 hmW hR0 hg0
  refine callsIn_of_wp Tryd.func52 rfl trivial ?_ rfl
  simp only [Tryd.ntmps52, List.size_toArray, List.length_cons, List.length_nil, Nat.reduceAdd, Nat.reduceSub, Array.replicate_succ, Array.replicate_zero, List.push_toArray, List.append_toArray, List.nil_append, List.cons_append]
  gi_wp2
  obtain ⟨r, hr⟩ : ∃ r, W.heap.size = r := ⟨_, rfl⟩
  rw [hr] at HR0 HJ0 HZR ⊢
  have HRW := Lib.hid hr
  clear hrange c0 l0 hr
  gi_loopw [3] (fun v wr => ∃ (pre : List It) (P1 : Blks), Hid (Ranged Tryd.prog 37 itv wr b r L pre) ∧ Hid (J P1 pre wr ∧ (∀ k, P₀ k → P1 k) ∧ P1 r ∧ ∀ k, P1 k → k < wr.heap.size)) (fun _ wr => leftC wr b r)
  case atStart => exact ⟨[], _, HR0, Lib.hid ⟨HJ0.out, fun k h => .inl h, .inr rfl, fun k hk => by
    rcases hk with hk | rfl
    · exact Nat.lt_of_lt_of_le (HP0.out k hk) HZ0.out
    · exact HZR.out⟩⟩
  case round =>
    obtain ⟨pre, P1, HR, HJJ⟩ := hrel
    rcases HR.out.next itv_inj 0 with ⟨hS, hnx⟩ | ⟨x, w2, hxL, hxp, hlen, hnx, hent, hR2, hc2⟩
    · have HS := Lib.hid hS
      clear hS
      gi_wp2
      go_end0
      exact ⟨⟨_, rfl⟩, .inl ⟨pre, P1, HS.out, HJJ.out.1⟩⟩
    · have hN : w.heap.size ≤ r := by rw [← HRW.out]; exact HWW.out
      have HJ2 := Lib.hid (HJ.out P1 P1 pre wr w2 HJJ.out.1 (hc2.mono fun k e => by
        have e' : k = r := e
        rw [e']
        exact ⟨HJJ.out.2.2.1, hN⟩) (fun _ _ h => h))
      have hz2 : wr.heap.size ≤ w2.heap.size := hc2.size
      have hga : Grew w2 (w2.alloc (.cells #[.int .i64 x.1, .string ⟨x.2.toArray⟩] 37)) := (Grew.refl _).alloc _
      have HR3 := Lib.hid (hR2.keep (w' := w2.alloc (.cells #[.int .i64 x.1, .string ⟨x.2.toArray⟩] 37)) (Below.block hga b hR2.lt.1) (Below.block hga r hR2.lt.2))
      have hbd : ∀ k, P1 k → k < (w2.alloc (.cells #[.int .i64 x.1, .string ⟨x.2.toArray⟩] 37)).heap.size := fun k hk => by
        have h1 := HJJ.out.2.2.2 k hk
        have h2 := hga.sz
        omega
      have hy := HY.out P1 pre x (w2.alloc (.cells #[.int .i64 x.1, .string ⟨x.2.toArray⟩] 37)) (HJ.out.grew HJ2.out hga (fun _ _ h => h)) hlen hbd
      obtain ⟨fn, tm, asg, bd, hyr, hR⟩ := hy
      have HRR := Lib.hid hR
      have HLT := Lib.hid hlen
      have HLF := Lib.hid HR.out.leftC
      have HBD := Lib.hid hbd
      clear hR hlen hbd hR2 hc2 hN hga hxL hxp
      gi_wp2
      refine ⟨(fun h => absurd h (by decide)), ?_⟩
      refine (HRR.out _).mono ?_
      rintro e w3 (⟨rfl, h3⟩ | ⟨rfl, h3⟩)
      · have HN3 := Lib.hid h3
        clear h3
        gi_wp2
        go_roundw
        case rel => exact ⟨pre ++ [x], P1, Lib.hid (HR3.out.keep (HN3.out.2.same b HR3.out.lt.1 (HJJ.out.2.1 b HPB.out)) (HN3.out.2.same r HR3.out.lt.2 HJJ.out.2.2.1)), Lib.hid ⟨HN3.out.1, HJJ.out.2.1, HJJ.out.2.2.1, fun k hk => Nat.lt_of_lt_of_le (HBD.out k hk) HN3.out.2.size⟩⟩
        case measure =>
          have h1 := (HR3.out.keep (HN3.out.2.same b HR3.out.lt.1 (HJJ.out.2.1 b HPB.out)) (HN3.out.2.same r HR3.out.lt.2 HJJ.out.2.2.1)).leftC
          rw [h1, HLF.out, List.length_append, List.length_singleton]
          have h2 := HLT.out
          omega
      · have HN3 := Lib.hid h3
        clear h3
        gi_wp2
        first
          | (go_end0; exact ⟨⟨_, rfl⟩, .inr ⟨pre ++ [x], P1, trivial, HN3.out.1⟩⟩)
          | (go_ret; exact ⟨⟨_, rfl⟩, .inr ⟨pre ++ [x], P1, trivial, HN3.out.1⟩⟩)
          | (refine bodyPost_ret (results_none rfl _ _ _) rfl ?_; exact ⟨⟨_, rfl⟩, .inr ⟨pre ++ [x], P1, trivial, HN3.out.1⟩⟩)
set_option maxRecDepth 100000 in
set_option maxHeartbeats 4000000 in
theorem keys0_gives (Bm : Nat) (w : World) (hm : Blk Bm [.map none] MapT w) :
    Gives Tryd.prog 52 #[.pointer (some ⟨Bm, 0, none⟩)] (fun x : It => #[itv x]) (fun pre _ => pre.length < 0) (fun k => k = Bm) (fun xs => xs.Nodup ∧ ∀ x, x ∈ xs ↔ x ∈ ([] : List It)) (fun _ => True) w := by
  intro nn l J Jx W hgW hJ hJx hY h0
  have hmW := hm.grew hgW
  have c0 := hmW.cell 0
  have l0 := hmW.lt
  simp only [List.getElem?_cons_zero] at c0
  have hrange := run_range_nilMap (P := Tryd.prog) W _ _ _ Tryd.underlying33
  have hnx := run_next_nilMap (P := Tryd.prog) W 0 0 0 #[]
  have HJ0 := Lib.hid (hJ.grew h0 ((Grew.refl W).alloc (.mapIter none 0 #[] 0)) (P' := fun k => k = Bm) (fun _ _ h => h))
  clear hm hgW hY hJ hJx h0 hmW
  refine callsIn_of_wp Tryd.func52 rfl trivial ?_ rfl
  simp only [Tryd.ntmps52, List.size_toArray, List.length_cons, List.length_nil, Nat.reduceAdd, Nat.reduceSub, Array.replicate_succ, Array.replicate_zero, List.push_toArray, List.append_toArray, List.nil_append, List.cons_append]
  gi_wp2
  gi_loopw [3] (fun v wr => wr = W.alloc (.mapIter none 0 #[] 0)) (fun _ wr => 0)
  case atStart => rfl
  case round =>
    subst hrel
    gi_wp2
    go_end0
    exact ⟨⟨_, rfl⟩, .inl ⟨[], _, ⟨List.nodup_nil, fun x => Iff.rfl⟩, HJ0.out⟩⟩
/-- The iterator over a list's map, whether it has been made or not. -/
theorem keys_gives (Bm : Nat) (mo : Option Nat) (L : List It) (w : World) (hm : Blk Bm [.map mo] MapT w) (hn : mo = none → L = []) (hs : ∀ b, mo = some b → SetM Tryd.prog 37 itv w b L) :
    Gives Tryd.prog 52 #[.pointer (some ⟨Bm, 0, none⟩)] (fun x => #[itv x]) (fun pre _ => pre.length < L.length) (fun k => k = Bm ∨ mo = some k) (fun xs => xs.Nodup ∧ ∀ x, x ∈ xs ↔ x ∈ L) (fun _ => True) w := by
  cases mo with
  | none =>
    obtain rfl := hn rfl
    have e : (fun k => k = Bm ∨ (none : Option Nat) = some k) = fun k => k = Bm := by
      funext k
      simp
    rw [e]
    exact keys0_gives Bm w hm
  | some b =>
    have e : (fun k => k = Bm ∨ (some b : Option Nat) = some k) = fun k => k = Bm ∨ k = b := by
      funext k
      simp [eq_comm]
    rw [e]
    exact keys1_gives Bm b L w hm (hs b rfl)
end Go.Proofs.YtmnncildkomagaaDoor
