/-
  BLOCKS OF WHICH ALL CELLS ARE KNOWN, and drawn regions that make memory and end in a store (any program).
-/
import Derived.Test.YtcajamgajchheaaDoorChg
import Derived.Test.YtcajamgajchheaaDoorPostsTail
import Derived.Test.YtcajamgajchheaaDoorPostsSide
import Derived.WalkSpells
import Derived.WalkLawsBesides
namespace Go.Proofs.YtcajamgajchheaaDoor
open Go Go.RowKit Go.IntWalk

/-- Block S holds the values vs, of the type e. -/
def Blk (S : Nat) (vs : List Value) (e : TypeId) (w : World) : Prop := w.heap[S]? = some (.cells vs.toArray e)
section
variable {S : Nat} {vs : List Value} {e : TypeId} {w w' : World}
theorem Blk.lt (h : Blk S vs e w) : S < w.heap.size := lt_of_heap h
theorem Blk.grew (h : Blk S vs e w) (hg : Grew w w') : Blk S vs e w' := hg.heap h
theorem Blk.chg {T : Nat → Prop} (h : Blk S vs e w) (hc : Chg w w' T) (hs : ¬ T S) : Blk S vs e w' := (hc.block S (lt_of_heap h) hs).trans h
theorem Blk.cell (h : Blk S vs e w) (i : Nat) : w.cell? ⟨S, i, none⟩ = vs[i]? := by rw [cells_of_heap h]; simp
theorem Blk.free (h : Blk S vs e w) (i : Nat) : w.frozen? ⟨S, i, none⟩ = false := free_of_heap h i
theorem Blk.set (h : Blk S vs e w) (i : Nat) (v : Value) : Blk S (vs.set i v) e (w.setCell ⟨S, i, none⟩ v) := by
  have := heap_setCell_same h i v
  simpa [Blk] using this
theorem Blk.ne {S' : Nat} {vs' : List Value} {e' : TypeId} (h : Blk S vs e w) (h' : Blk S' vs' e' w) (he : e ≠ e') : S ≠ S' := fun hs => by
  subst hs
  have h1 : w.heap[S]? = _ := h
  have h2 : w.heap[S]? = _ := h'
  rw [h1] at h2
  simp only [Option.some.injEq, Obj.cells.injEq] at h2
  exact he h2.2.1
theorem Blk.new (w : World) (vs : List Value) (e : TypeId) : Blk w.heap.size vs e (w.alloc (.cells vs.toArray e)) := heap_alloc_new w _
theorem Blk.other (h : Blk S vs e w) (b i : Nat) (v : Value) (hb : S ≠ b) : Blk S vs e (w.setCell ⟨b, i, none⟩ v) := (heap_setCell_other w ⟨b, i, none⟩ S v hb).trans h
end
/-- The cell at q holds v. -/
def Atv (q : Addr) (v : Value) (w : World) : Prop := w.cell? q = some v
theorem Atv.grew {q : Addr} {v : Value} {w w' : World} (h : Atv q v w) (hg : Grew w w') : w'.cell? q = some v := (Below.cell hg (p := q) (World.block_lt_of_cell? _ _ h)).trans h
theorem Blk.atv {S : Nat} {vs : List Value} {e : TypeId} {w : World} (h : Blk S vs e w) (i : Nat) {v : Value} (hi : vs[i]? = some v) : Atv ⟨S, i, none⟩ v w := (h.cell i).trans hi
section
variable {P : Program} {id : Nat} {ops : Array Oper} {Q : Exit → Act → World → Prop} {a0 : Act} {w0 : World}
theorem wp_grew_tail (n : Nat) (sl : List (Option Nat)) (D : List Bool) (ps : List (Value → World → Prop)) (hm : P.follows .mixedOrders = true) (hok : regionOkN ops n sl D = true) (htl : (decide (n ≤ ops.size) && tailOk ops n) = true) (hD : D.length = a0.tmps.size) (hps : Monos ps)
    (hs : Steps P Grew (postAt ps) sl (mixA D a0) w0.drew 0 (ops.toList.take n)) (hend : ∀ u w, Grew w0.drew w → (∀ i, i < n → postAt ps i (uval sl u i) w) → wpAny P .any ops Q (ops.size - n) (listedN n ops.size) (mixA D a0 u) w) : (Code.region id ops true).wp P Q a0 w0 :=
  wp_region_tail n sl D Grew (postAt ps) hm hok htl hD Grew.refl Grew.trans hps.at hs hend
end
theorem run_ext {P : Program} {dst : Option Tmp} {ty : TypeId} {pos : String} {after : Array Edge} {g : Option (Nat × Bool)} {a : Act} {w : World} {x : Operand} {k : Nat} {vs : Array Value} {v : Value} (hx : a.eval x = .tuple vs) (hk : vs[k]? = some v) :
    (execOp a.eval ⟨dst, .extract x k, ty, pos, after, g⟩).run P w = .ok (.value v) w := by
  simp only [execOp, hx]
  go_simp
end Go.Proofs.YtcajamgajchheaaDoor
