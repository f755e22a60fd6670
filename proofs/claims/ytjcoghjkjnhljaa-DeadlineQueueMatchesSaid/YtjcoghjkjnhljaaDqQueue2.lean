/-
  LAYER 6 (deadlinequeue): the queue's methods Pop, Remove, Push.
-/
import Derived.Test.YtjcoghjkjnhljaaDqQueue
namespace Go.Proofs.Ytjcoghjkjnhljaa
open Go Go.RowKit Go.IntWalk Go.Sort
set_option maxRecDepth 8000
set_option linter.unusedSimpArgs false

/-- A block that is newer than the queue is none of the queue's. -/
theorem Que.apart {w V : World} {q S : Nat} {d : Array It} (h : Que w q d) (hg : Grew w V) (hS : w.heap.size ≤ S) : ¬ Cand V q S := fun hc => by
  obtain ⟨p, c, m, h⟩ := h
  have h2 := h.record.lt
  have h' := h.grew hg
  rcases (h'.record.cand _).1 hc with h5 | h5 | h5
  · omega
  · cases p with
    | none => simp at h5
    | some b =>
      simp at h5
      have := (h.own.place b rfl).2
      omega
  · rcases h.map with ⟨e, _⟩ | ⟨b, e, _, h6⟩
    · rw [e] at h5; cases h5
    · rw [e] at h5
      have := Option.some.inj h5
      have := MapG.lt h6
      omega
theorem Off.keeps {V w' : World} {q S : Nat} (h : Off V.heap.size q V w') (hS : S < V.heap.size) (hn : ¬ Cand V q S) : (∀ k, w'.cell? ⟨S, k, none⟩ = V.cell? ⟨S, k, none⟩) ∧ (∀ k, w'.frozen? ⟨S, k, none⟩ = V.frozen? ⟨S, k, none⟩) := by
  have hb := (h.block S hS hn).1
  exact ⟨fun k => World.cell?_of_block (w := V) (w' := w') (a := ⟨S, k, none⟩) hb, fun k => World.frozen?_of_block (w := V) (w' := w') (a := ⟨S, k, none⟩) hb⟩
theorem Off.set {V w' : World} {N q S : Nat} (h : Off N q V w') (hS : N ≤ S) (hq : q < S) (k : Nat) (v : Value) : Off N q V (w'.setCell ⟨S, k, none⟩ v) :=
  ⟨h.os, h.tape, h.output, by rw [World.size_setCell]; exact h.size, fun j hj hc => by
    obtain ⟨h1, h2⟩ := h.block j hj hc
    refine ⟨(heap_setCell_other w' ⟨S, k, none⟩ j v (by simp; omega)).trans h1, fun hc' => h2 ?_⟩
    have e : (w'.setCell ⟨S, k, none⟩ v).heap[q]? = w'.heap[q]? := heap_setCell_other w' ⟨S, k, none⟩ q v (by simp; omega)
    have e0 := World.cell?_of_block (w := w') (w' := w'.setCell ⟨S, k, none⟩ v) (a := ⟨q, 0, none⟩) e
    have e1 := World.cell?_of_block (w := w') (w' := w'.setCell ⟨S, k, none⟩ v) (a := ⟨q, 1, none⟩) e
    unfold Cand at hc' ⊢
    rwa [e0, e1] at hc'⟩
theorem QRep.set {w : World} {q S : Nat} {L : List It} (h : QRep w q L) (hn : ¬ Cand w q S) (k : Nat) (v : Value) : QRep (w.setCell ⟨S, k, none⟩ v) q L := by
  obtain ⟨d, ⟨p, c, m, h1⟩, h2⟩ := h
  exact ⟨d, ⟨p, c, m, h1.keep fun j _ hc => heap_setCell_other w ⟨S, k, none⟩ j v (fun e => hn (by simp at e; rw [← e]; exact hc))⟩, h2⟩
theorem Off.start {w V w' : World} {q : Nat} (hg : Grew w V) (hq : q < w.heap.size) (h : Off V.heap.size q V w') : Off w.heap.size q w w' := (Off.of_grew hg (Nat.le_refl _) hq).trans (h.mono hg.size)
set_option maxHeartbeats 2000000 in
theorem pop_any (q : Nat) (L : List It) (w : World) (h : QRep w q L) (hL : L.length ≤ 1000000) : Calls Try.prog 19 #[.pointer (some ⟨q, 0, none⟩)] w fun e w' => e = .returned (.tuple #[itv (first L), .bool (!L.isEmpty)]) ∧ QRep w' q L.tail ∧ Off w.heap.size q w w' := by
  have hqlt := h.lt
  cases L with
  | nil =>
    have HPk : Hid (∀ W, Grew w W → Calls Try.prog 13 #[.pointer (some ⟨q, 0, none⟩)] W fun e w' => e = .returned (.tuple #[.agg #[.int .i64 0, .int .i64 0], .bool false]) ∧ Grew W w') := Lib.hid fun W hg => peek_any q [] W (h.grew hg)
    have HR := Lib.hid h
    clear h
    go_enter Try.func19, Try.ntmps19
    have tk0 := Lib.hid trivial
    go_wp2_with (go_at_call 13; clear tk0; (with_reducible refine (HPk.out _ ((Grew.refl w).alloc _)).mono ?_); rintro e w1 ⟨rfl, g1⟩; have b0 : w1.cell? ⟨w.heap.size, 0, none⟩ = some (.int .i64 0) := (Below.cell g1 (p := ⟨w.heap.size, 0, none⟩) (by simp)).trans (by go_simp); have b1 : w1.cell? ⟨w.heap.size, 1, none⟩ = some (.int .i64 0) := (Below.cell g1 (p := ⟨w.heap.size, 1, none⟩) (by simp)).trans (by go_simp); have b2 : w1.frozen? ⟨w.heap.size, 0, none⟩ = false := (Below.frozen g1 (p := ⟨w.heap.size, 0, none⟩) (by simp)).trans (by go_simp); have b3 : w1.frozen? ⟨w.heap.size, 1, none⟩ = false := (Below.frozen g1 (p := ⟨w.heap.size, 1, none⟩) (by simp)).trans (by go_simp); have bl : w.heap.size < w1.heap.size := World.block_lt_of_cell? _ _ b0; have G1 := Lib.hid (((Grew.refl w).alloc _).trans g1); clear g1)
    refine ret_itb Try.results19 rfl rfl (S := w.heap.size) (x := (0, 0)) (b := false) ⟨by go_simp, by go_simp⟩ ?_
    refine (show ∀ {W : World}, Grew w W → (Ending.returned (.tuple #[itv ((0 : Int), (0 : Int)), .bool false]) = .returned (.tuple #[itv (first []), .bool (!([] : List It).isEmpty)]) ∧ QRep W q ([] : List It).tail ∧ Off w.heap.size q w W) from fun hg => ⟨rfl, HR.out.grew hg, Off.of_grew hg (Nat.le_refl _) hqlt⟩) ?_
    repeat (first | with_reducible exact G1.out | with_reducible refine Grew.alloc ?_ _ | with_reducible refine Grew.setN ?_ (Nat.le_refl _) _ _ | refine Grew.setN ?_ (by omega) _ _)
  | cons x L =>
    have HPk : Hid (∀ W, Grew w W → Calls Try.prog 13 #[.pointer (some ⟨q, 0, none⟩)] W fun e w' => e = .returned (.tuple #[.agg #[.int .i64 x.1, .int .i64 x.2], .bool true]) ∧ Grew W w') := Lib.hid fun W hg => peek_any q (x :: L) W (h.grew hg)
    obtain ⟨d, h1, h2⟩ := h
    have hs := h2.size
    rw [List.length_cons] at hs
    have HQ := Lib.hid h1
    have HR := Lib.hid h2
    have Hs := Lib.hid hs
    have hL' : L.length + 1 ≤ 1000000 := by simpa using hL
    clear h1 h2 hs hL
    go_enter Try.func19, Try.ntmps19
    have tk0 := Lib.hid trivial
    go_wp2_with (go_at_call 13; clear tk0; (with_reducible refine (HPk.out _ ((Grew.refl w).alloc _)).mono ?_); rintro e w1 ⟨rfl, g1⟩; have b0 : w1.cell? ⟨w.heap.size, 0, none⟩ = some (.int .i64 0) := (Below.cell g1 (p := ⟨w.heap.size, 0, none⟩) (by simp)).trans (by go_simp); have b1 : w1.cell? ⟨w.heap.size, 1, none⟩ = some (.int .i64 0) := (Below.cell g1 (p := ⟨w.heap.size, 1, none⟩) (by simp)).trans (by go_simp); have b2 : w1.frozen? ⟨w.heap.size, 0, none⟩ = false := (Below.frozen g1 (p := ⟨w.heap.size, 0, none⟩) (by simp)).trans (by go_simp); have b3 : w1.frozen? ⟨w.heap.size, 1, none⟩ = false := (Below.frozen g1 (p := ⟨w.heap.size, 1, none⟩) (by simp)).trans (by go_simp); have bl : w.heap.size < w1.heap.size := World.block_lt_of_cell? _ _ b0; have G1 := Lib.hid (((Grew.refl w).alloc _).trans g1); clear g1)
    have gV : Grew w1 (w1.alloc (.cells #[.int .i64 x.1, .int .i64 x.2] 32)) := (Grew.refl _).alloc _
    have v0 : (w1.alloc (.cells #[.int .i64 x.1, .int .i64 x.2] 32)).cell? ⟨w1.heap.size, 0, none⟩ = some (.int .i64 x.1) := by go_simp
    have v1 : (w1.alloc (.cells #[.int .i64 x.1, .int .i64 x.2] 32)).cell? ⟨w1.heap.size, 1, none⟩ = some (.int .i64 x.2) := by go_simp
    have u0 : (w1.alloc (.cells #[.int .i64 x.1, .int .i64 x.2] 32)).cell? ⟨w.heap.size, 0, none⟩ = some (.int .i64 0) := by go_simp
    have u1 : (w1.alloc (.cells #[.int .i64 x.1, .int .i64 x.2] 32)).cell? ⟨w.heap.size, 1, none⟩ = some (.int .i64 0) := by go_simp
    have u2 : (w1.alloc (.cells #[.int .i64 x.1, .int .i64 x.2] 32)).frozen? ⟨w.heap.size, 0, none⟩ = false := by go_simp
    have u3 : (w1.alloc (.cells #[.int .i64 x.1, .int .i64 x.2] 32)).frozen? ⟨w.heap.size, 1, none⟩ = false := by go_simp
    have hVs : (w1.alloc (.cells #[.int .i64 x.1, .int .i64 x.2] 32)).heap.size = w1.heap.size + 1 := by simp
    generalize World.alloc w1 _ = V at gV v0 v1 u0 u1 u2 u3 hVs ⊢
    have GV := Lib.hid (G1.out.trans gV)
    clear b0 b1 b2 b3 gV
    have qV := HQ.out.grew GV.out
    (with_reducible refine (heapPop_any q L.length d V qV Hs.out (by rw [Hs.out]; omega) HR.out.heap).mono ?_)
    rintro e w3 ⟨d3, rfl, q3, p3, h3, o3⟩
    have k2 := o3.keeps (S := w.heap.size) (by omega) (HQ.out.apart GV.out (Nat.le_refl _))
    have k4 := o3.keeps (S := w1.heap.size) (by omega) (HQ.out.apart GV.out G1.out.size)
    replace v0 := (k4.1 0).trans v0
    replace v1 := (k4.1 1).trans v1
    replace u0 := (k2.1 0).trans u0
    replace u1 := (k2.1 1).trans u1
    replace u2 := (k2.2 0).trans u2
    replace u3 := (k2.2 1).trans u3
    have hrep := HR.out.remove p3 h3
    rw [HR.out.head, rem_head HR.out.ids] at hrep
    have hS2 : ¬ Cand w3 q w.heap.size := (o3.block w.heap.size (by omega) (HQ.out.apart GV.out (Nat.le_refl _))).2
    have R := Lib.hid (show ∀ a b : Value, QRep ((w3.setCell ⟨w.heap.size, 0, none⟩ a).setCell ⟨w.heap.size, 1, none⟩ b) q L ∧ Off w.heap.size q w ((w3.setCell ⟨w.heap.size, 0, none⟩ a).setCell ⟨w.heap.size, 1, none⟩ b) from fun a b => by
      have oo := Off.start GV.out hqlt o3
      have hq3 : QRep w3 q L := ⟨d3, q3, hrep⟩
      have hS3 : ¬ Cand (w3.setCell ⟨w.heap.size, 0, none⟩ a) q w.heap.size := fun hc => hS2 (by
        have e : (w3.setCell ⟨w.heap.size, 0, none⟩ a).heap[q]? = w3.heap[q]? := heap_setCell_other w3 ⟨w.heap.size, 0, none⟩ q a (by simp; omega)
        have e0 := World.cell?_of_block (w := w3) (w' := w3.setCell ⟨w.heap.size, 0, none⟩ a) (a := ⟨q, 0, none⟩) e
        have e1 := World.cell?_of_block (w := w3) (w' := w3.setCell ⟨w.heap.size, 0, none⟩ a) (a := ⟨q, 1, none⟩) e
        unfold Cand at hc ⊢
        rwa [e0, e1] at hc)
      exact ⟨(hq3.set hS2 0 a).set hS3 1 b, (oo.set (Nat.le_refl _) hqlt 0 a).set (Nat.le_refl _) hqlt 1 b⟩)
    clear qV q3 p3 h3 o3 k2 k4 hrep hS2 hVs
    go_wp2
    refine ret_itb Try.results19 rfl rfl (S := w.heap.size) (x := x) (b := true) ⟨by go_simp, by go_simp⟩ ⟨rfl, R.out _ _⟩
end Go.Proofs.Ytjcoghjkjnhljaa
