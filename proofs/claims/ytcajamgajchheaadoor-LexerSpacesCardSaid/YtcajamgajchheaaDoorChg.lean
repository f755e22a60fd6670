/-
  WORLDS OF WHICH ONLY NAMED BLOCKS HAVE CHANGED (any program): what stays; a store to a cell of a block whose cells are known.
-/
import Derived.Test.YtcajamgajchheaaDoorBytes
import Derived.Test.YtcajamgajchheaaDoorPostsOps
import Derived.Laws.Rows
namespace Go.Proofs.YtcajamgajchheaaDoor
open Go Go.RowKit Go.IntWalk

/-- Of the blocks that were there only those that S names may have changed. -/
structure Chg (w w' : World) (S : Nat → Prop) : Prop where
  os : w'.os = w.os
  tape : w'.tape = w.tape
  output : w'.output = w.output
  size : w.heap.size ≤ w'.heap.size
  block : ∀ k, k < w.heap.size → ¬ S k → w'.heap[k]? = w.heap[k]?
theorem Chg.refl (w : World) (S : Nat → Prop) : Chg w w S := ⟨rfl, rfl, rfl, Nat.le_refl _, fun _ _ _ => rfl⟩
theorem Chg.trans {a b c : World} {S : Nat → Prop} (h : Chg a b S) (h' : Chg b c S) : Chg a c S :=
  ⟨h'.os.trans h.os, h'.tape.trans h.tape, h'.output.trans h.output, Nat.le_trans h.size h'.size, fun k hk hs => (h'.block k (by have := h.size; omega) hs).trans (h.block k hk hs)⟩
theorem Chg.mono {a b : World} {S T : Nat → Prop} (h : Chg a b S) (hST : ∀ k, S k → T k) : Chg a b T := ⟨h.os, h.tape, h.output, h.size, fun k hk hs => h.block k hk fun h' => hs (hST k h')⟩
theorem Chg.of_grew {a b : World} (h : Grew a b) (S : Nat → Prop) : Chg a b S := ⟨h.os, h.tape, h.output, h.size, fun k hk _ => h.block k hk⟩
theorem Chg.set (w : World) (a : Addr) (v : Value) : Chg w (w.setCell a v) (fun k => k = a.block) :=
  ⟨rfl, rfl, rfl, by simp, fun k _ hs => heap_setCell_other w a k v hs⟩
theorem Chg.then_set {w w' : World} {S : Nat → Prop} (h : Chg w w' S) (a : Addr) (v : Value) (hs : S a.block) : Chg w (w'.setCell a v) S :=
  h.trans ((Chg.set w' a v).mono fun _ hk => hk ▸ hs)
/-- Where none of the named blocks lies below N, nothing below N has changed. -/
theorem Chg.below {w w' : World} {S : Nat → Prop} {N : Nat} (h : Chg w w' S) (hN : N ≤ w.heap.size) (hS : ∀ k, S k → N ≤ k) : Below N w w' :=
  ⟨h.os, h.tape, h.output, h.size, fun k hk => h.block k (by omega) fun hs => by have := hS k hs; omega⟩
theorem below_lift {w w' W : World} {N : Nat} (h : Below N W w) {S : Nat → Prop} (h2 : Chg w w' S) (hS : ∀ k, S k → N ≤ k) (hN : N ≤ W.heap.size) : Below N W w' :=
  h.trans (h2.below (by have := h.size; omega) hS)
theorem grew_lift {w w' W : World} (h : Grew W w) {S : Nat → Prop} (h2 : Chg w w' S) (hS : ∀ k, S k → W.heap.size ≤ k) : Grew W w' := below_lift h h2 hS (Nat.le_refl _)
theorem Bin.gr {w w' : World} {p : Option Addr} {c : Nat} {xs : List UInt8} (h : Bin w p c xs) (hg : Grew w w') : Bin w' p c xs := h.kept hg
/-- A slice that lies in none of the named blocks. -/
def Away (S : Nat → Prop) (p : Option Addr) : Prop := ∀ a, p = some a → ¬ S a.block
theorem Bin.chg {w w' : World} {S : Nat → Prop} {p : Option Addr} {c : Nat} {xs : List UInt8} (h : Bin w p c xs) (hc : Chg w w' S) (ha : Away S p) : Bin w' p c xs :=
  ⟨h.cap, h.max, h.bare, fun hn => by
    obtain ⟨b, o, rfl, hx⟩ := h.cells hn
    refine ⟨b, o, rfl, fun i hi => ?_⟩
    have hl : b < w.heap.size := World.block_lt_of_cell? _ _ (hx i hi)
    rw [World.cell?_of_block (w := w) (w' := w') (a := ⟨b, o + i, none⟩) (hc.block b hl (ha ⟨b, o, none⟩ rfl))]
    exact hx i hi⟩
theorem Bin.sub {w : World} {p : Option Addr} {c : Nat} {xs : List UInt8} (h : Bin w p c xs) {S : Nat → Prop} (hS : ∀ k, S k → w.heap.size ≤ k) (hn : 0 < xs.length) : Away S p := fun a ha hs => by
  obtain ⟨b, o, rfl, hx⟩ := h.cells hn
  obtain rfl := Option.some.inj ha
  have hl : b < w.heap.size := World.block_lt_of_cell? _ _ (hx 0 hn)
  have h2 : w.heap.size ≤ b := hS _ hs
  omega
theorem heap_setCell_same {w : World} {b : Nat} {cs : Array Value} {e : TypeId} {fr : Nat × Nat} (h : w.heap[b]? = some (.cells cs e fr)) (i : Nat) (v : Value) :
    (w.setCell ⟨b, i, none⟩ v).heap[b]? = some (.cells (cs.setIfInBounds i v) e fr) := by
  simp [World.setCell, Array.getElem?_modify, h]
theorem cells_of_heap {w : World} {b : Nat} {cs : Array Value} {e : TypeId} {fr : Nat × Nat} (h : w.heap[b]? = some (.cells cs e fr)) (i : Nat) : w.cell? ⟨b, i, none⟩ = cs[i]? := by
  simp [World.cell?, h]
theorem free_of_heap {w : World} {b : Nat} {cs : Array Value} {e : TypeId} (h : w.heap[b]? = some (.cells cs e)) (i : Nat) : w.frozen? ⟨b, i, none⟩ = false := by
  simp [World.frozen?, h]
theorem lt_of_heap {w : World} {b : Nat} {o : Obj} (h : w.heap[b]? = some o) : b < w.heap.size := (Array.getElem?_eq_some_iff.1 h).1
theorem Grew.heap {w w' : World} (hg : Grew w w') {b : Nat} {o : Obj} (h : w.heap[b]? = some o) : w'.heap[b]? = some o := (Below.block hg b (lt_of_heap h)).trans h
end Go.Proofs.YtcajamgajchheaaDoor
