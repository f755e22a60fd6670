/-
  LAYER 8 (capacitor): a capacitor in memory: five cells at the head of a block; what its methods change.
-/
import Derived.Test.YtjepjcdobgdacaaCapPlain
import Derived.Test.YtjepjcdobgdacaaRowsC
import Derived.Test.YtjepjcdobgdacaaChg
import Derived.Test.YtjepjcdobgdacaaRuns
import Derived.Test.YtjepjcdobgdacaaRows
import Derived.WalkKit
import Derived.WalkSpells
import Derived.WalkLawsBesides
import Derived.Lib.Hide
import Derived.LoopTactic
import Derived.Deep.LoopGhost
namespace Go.Proofs.Ytjepjcdobgdacaa
open Go Go.RowKit Go.IntWalk
set_option linter.unusedSimpArgs false

/-- A configuration as a value. -/
abbrev cfv (c o f : Int) : Value := .agg #[.int .i64 c, .int .i64 o, .int .i64 f]
/-- A capacitor as a value. -/
abbrev cpv (x : Cp) : Value := .agg #[.int .i64 x.c, .int .i64 x.o, .int .i64 x.f, .int .i64 x.q, .bool x.r]
/-- Its cells, and what lies behind them in the same block. -/
abbrev cc (x : Cp) (rest : List Value) : List Value := .int .i64 x.c :: .int .i64 x.o :: .int .i64 x.f :: .int .i64 x.q :: .bool x.r :: rest
/-- Block b holds x, then rest. -/
def CapB (b : Nat) (x : Cp) (rest : List Value) (e : TypeId) (w : World) : Prop := w.heap[b]? = some (.cells (cc x rest).toArray e)
theorem CapB.lt {b : Nat} {x : Cp} {rest : List Value} {e : TypeId} {w : World} (h : CapB b x rest e w) : b < w.heap.size := lt_of_heap h
theorem CapB.grew {b : Nat} {x : Cp} {rest : List Value} {e : TypeId} {w w' : World} (h : CapB b x rest e w) (hg : Grew w w') : CapB b x rest e w' := hg.heap h
theorem CapB.chg {b : Nat} {x : Cp} {rest : List Value} {e : TypeId} {w w' : World} {T : Nat → Prop} (h : CapB b x rest e w) (hc : Chg w w' T) (hs : ¬ T b) : CapB b x rest e w' := (hc.block b (lt_of_heap h) hs).trans h
/-- The cells. -/
theorem CapB.cs {b : Nat} {x : Cp} {rest : List Value} {e : TypeId} {w : World} (h : CapB b x rest e w) :
    w.cell? ⟨b, 0, none⟩ = some (.int .i64 x.c) ∧ w.cell? ⟨b, 1, none⟩ = some (.int .i64 x.o) ∧ w.cell? ⟨b, 2, none⟩ = some (.int .i64 x.f) ∧ w.cell? ⟨b, 3, none⟩ = some (.int .i64 x.q) ∧ w.cell? ⟨b, 4, none⟩ = some (.bool x.r) ∧ ∀ i, w.frozen? ⟨b, i, none⟩ = false := by
  refine ⟨?_, ?_, ?_, ?_, ?_, fun i => free_of_heap h i⟩ <;> rw [cells_of_heap h] <;> rfl
theorem CapB.rest {b : Nat} {x : Cp} {rest : List Value} {e : TypeId} {w : World} (h : CapB b x rest e w) (i : Nat) : w.cell? ⟨b, i + 5, none⟩ = rest[i]? := by
  rw [cells_of_heap h]
  simp
/-- A store to its charge and to whether it runs. -/
abbrev st2 (w : World) (b : Nat) (q : Int) (r : Bool) : World := (w.setCell ⟨b, 3, none⟩ (.int .i64 q)).setCell ⟨b, 4, none⟩ (.bool r)
theorem st2_chg (w : World) (b : Nat) (q : Int) (r : Bool) : Chg w (st2 w b q r) (fun k => k = b) := ((Chg.refl w (fun k => k = b)).then_set ⟨b, 3, none⟩ _ rfl).then_set ⟨b, 4, none⟩ _ rfl
theorem CapB.st2 {b : Nat} {x : Cp} {rest : List Value} {e : TypeId} {w : World} (h : CapB b x rest e w) (q : Int) (r : Bool) : CapB b ⟨x.c, x.o, x.f, q, r⟩ rest e (st2 w b q r) := by
  have h1 := heap_setCell_same h 3 (.int .i64 q)
  have h2 := heap_setCell_same h1 4 (.bool r)
  simpa [CapB] using h2
/-- A store to what lies behind. -/
theorem CapB.st5 {b : Nat} {x : Cp} {rest : List Value} {e : TypeId} {w : World} (h : CapB b x rest e w) (i : Nat) (v : Value) : CapB b x (rest.set i v) e (w.setCell ⟨b, i + 5, none⟩ v) := by
  have h1 := heap_setCell_same h (i + 5) v
  simpa [CapB] using h1
theorem Grew.al {a w : World} (h : Grew a w) (o : Obj) : Grew a (w.alloc o) := Below.alloc h h.size o
theorem Grew.sc {a w : World} (h : Grew a w) {S : Nat} (hS : a.heap.size ≤ S) (k : Nat) (v : Value) : Grew a (w.setCell ⟨S, k, none⟩ v) := Below.setCell h (p := ⟨S, k, none⟩) hS _
/-- .. with a draw between the two. -/
theorem CapB.st2d {b : Nat} {x : Cp} {rest : List Value} {e : TypeId} {w : World} (h : CapB b x rest e w) (q : Int) (r : Bool) :
    CapB b ⟨x.c, x.o, x.f, q, r⟩ rest e ((w.setCell ⟨b, 3, none⟩ (.int .i64 q)).drew.setCell ⟨b, 4, none⟩ (.bool r)) ∧ Chg w ((w.setCell ⟨b, 3, none⟩ (.int .i64 q)).drew.setCell ⟨b, 4, none⟩ (.bool r)) (fun k => k = b) := by
  have h1 := heap_setCell_same h 3 (.int .i64 q)
  have h1' : (w.setCell ⟨b, 3, none⟩ (.int .i64 q)).drew.heap[b]? = _ := h1
  have h2 := heap_setCell_same h1' 4 (.bool r)
  refine ⟨by simpa [CapB] using h2, ?_⟩
  have c1 : Chg w (w.setCell ⟨b, 3, none⟩ (.int .i64 q)) (fun k => k = b) := (Chg.refl w (fun k => k = b)).then_set ⟨b, 3, none⟩ _ rfl
  have c2 : Chg w (w.setCell ⟨b, 3, none⟩ (.int .i64 q)).drew (fun k => k = b) := c1.trans (Chg.of_grew (Grew.drw (Grew.refl _)) _)
  exact c2.then_set ⟨b, 4, none⟩ _ rfl
/-- Results: a configuration in a box; a capacitor in a box and a second value. -/
theorem ret_cfg {fn : Func} {p : Tmp} (h : fn.results = #[.cell p 30]) {tmps : Array Value} {w : World} {S : Nat} {c o f : Int} {R : Ending → World → Prop} (hp : tmps.getD p undef = .pointer (some ⟨S, 0, none⟩))
    (hb : w.heap[S]? = some (.cells #[.int .i64 c, .int .i64 o, .int .i64 f] 30)) (hR : R (.returned (cfv c o f)) w) : bodyPost Try.prog fn R .ret { tmps := tmps, defers := [] } w := by
  have h0 : w.cell? ⟨S, 0, none⟩ = some (.int .i64 c) := by rw [cells_of_heap hb]; rfl
  have h1 : w.cell? ⟨S, 1, none⟩ = some (.int .i64 o) := by rw [cells_of_heap hb]; rfl
  have h2 : w.cell? ⟨S, 2, none⟩ = some (.int .i64 f) := by rw [cells_of_heap hb]; rfl
  refine bodyPost_ret (v := cfv c o f) ?_ rfl hR
  rw [Array.getD_eq_getD_getElem?] at hp
  simp [results, h, hp, h0, h1, h2, go_sem]
theorem ret_cp {fn : Func} {p q : Tmp} (h : fn.results = #[.cell p 34, .tmp q]) {tmps : Array Value} {w : World} {S : Nat} {x : Cp} {v : Value} {R : Ending → World → Prop} (hp : tmps.getD p undef = .pointer (some ⟨S, 0, none⟩)) (hq : tmps.getD q undef = v)
    (hb : CapB S x [] 34 w) (hR : R (.returned (.tuple #[cpv x, v])) w) : bodyPost Try.prog fn R .ret { tmps := tmps, defers := [] } w := by
  obtain ⟨h0, h1, h2, h3, h4, _⟩ := hb.cs
  refine bodyPost_ret (v := .tuple #[cpv x, v]) ?_ rfl hR
  rw [Array.getD_eq_getD_getElem?] at hp hq
  simp [results, h, hp, hq, h0, h1, h2, h3, h4, go_sem]
end Go.Proofs.Ytjepjcdobgdacaa
