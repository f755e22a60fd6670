/-
  THE OPERATIONS OF A REGION BY POSTS, FOR LAYER 7 (nvm): the reference's memory in boxes.
-/
import Derived.Test.YtmfahmbebpojpaaNvRef
import Derived.Test.YtmfahmbebpojpaaNvOps3
namespace Go.Proofs.Ytmfahmbebpojpaa
open Go Go.RowKit Go.IntWalk
set_option maxRecDepth 8000
set_option linter.unusedSimpArgs false

/-- Block S holds x. -/
def BoxR (S : Nat) (x : RM) (p : Option Addr) (c : Nat) (w : World) : Prop := w.heap[S]? = some (.cells (rmc x p c) 31)
/-- Block S is a new box. -/
def BoxZ (S : Nat) (w : World) : Prop := w.heap[S]? = some (.cells #[.slice none 0 0, .bool false, .bool false, .int .i64 0, .bool false, .int .i64 0, .int .i64 0] 31)
theorem BoxR.grew {S : Nat} {x : RM} {p : Option Addr} {c : Nat} {w w' : World} (h : BoxR S x p c w) (hg : Grew w w') : BoxR S x p c w' := hg.heap h
theorem BoxZ.grew {S : Nat} {w w' : World} (h : BoxZ S w) (hg : Grew w w') : BoxZ S w' := hg.heap h
/-- x stored into block S. -/
abbrev set7 (w : World) (b : Nat) (x : RM) (p : Option Addr) (c : Nat) : World := ((((((w.setCell ⟨b, 0, none⟩ (.slice p x.B.length c)).setCell ⟨b, 1, none⟩ (.bool x.off)).setCell ⟨b, 2, none⟩ (.bool x.armed)).setCell ⟨b, 3, none⟩ (.int .i64 x.left)).setCell ⟨b, 4, none⟩ (.bool x.metered)).setCell ⟨b, 5, none⟩ (.int .i64 x.bud)).setCell ⟨b, 6, none⟩ (.int .i64 x.wr)
theorem set7_chg (w : World) (b : Nat) (x : RM) (p : Option Addr) (c : Nat) : Chg w (set7 w b x p c) (fun k => k = b) :=
  (((((((Chg.refl w (fun k => k = b)).then_set ⟨b, 0, none⟩ _ rfl).then_set ⟨b, 1, none⟩ _ rfl).then_set ⟨b, 2, none⟩ _ rfl).then_set ⟨b, 3, none⟩ _ rfl).then_set ⟨b, 4, none⟩ _ rfl).then_set ⟨b, 5, none⟩ _ rfl).then_set ⟨b, 6, none⟩ _ rfl
theorem BoxZ.set7 {S : Nat} {w : World} (h : BoxZ S w) (x : RM) (p : Option Addr) (c : Nat) : BoxR S x p c (set7 w S x p c) := heap7 h
theorem BoxR.set7 {S : Nat} {x0 : RM} {p0 : Option Addr} {c0 : Nat} {w : World} (h : BoxR S x0 p0 c0 w) (x : RM) (p : Option Addr) (c : Nat) : BoxR S x p c (set7 w S x p c) := heap7 h
theorem BoxR.chg {S : Nat} {x : RM} {p : Option Addr} {c : Nat} {w w' : World} {T : Nat → Prop} (h : BoxR S x p c w) (hc : Chg w w' T) (hs : ¬ T S) : BoxR S x p c w' := (hc.block S (lt_of_heap h) hs).trans h
theorem BoxZ.chg {S : Nat} {w w' : World} {T : Nat → Prop} (h : BoxZ S w) (hc : Chg w w' T) (hs : ¬ T S) : BoxZ S w' := (hc.block S (lt_of_heap h) hs).trans h
theorem Bin.boxr {S : Nat} {x : RM} {p0 : Option Addr} {c0 : Nat} {w : World} (hb : BoxR S x p0 c0 w) {p : Option Addr} {c : Nat} {xs : List UInt8} (h : Bin w p c xs) (y : RM) (p1 : Option Addr) (c1 : Nat) : Bin (set7 w S y p1 c1) p c xs := by
  refine ⟨h.cap, h.max, h.bare, fun hn => ?_⟩
  obtain ⟨b, o, rfl, hc⟩ := h.cells hn
  have hne : b ≠ S := fun e => by
    have h0 := hc 0 hn
    rw [e, Nat.add_zero, cells_of_heap hb] at h0
    match o, h0 with
    | 0, h0 => simp [bv] at h0
    | 1, h0 => simp [bv] at h0
    | 2, h0 => simp [bv] at h0
    | 3, h0 => simp [bv] at h0
    | 4, h0 => simp [bv] at h0
    | 5, h0 => simp [bv] at h0
    | 6, h0 => simp [bv] at h0
    | o + 7, h0 => simp at h0
  refine ⟨b, o, rfl, fun i hi => ?_⟩
  have hl : b < w.heap.size := World.block_lt_of_cell? _ _ (hc i hi)
  rw [World.cell?_of_block (w := w) (w' := set7 w S y p1 c1) (a := ⟨b, o + i, none⟩) ((set7_chg w S y p1 c1).block b hl hne)]
  exact hc i hi
theorem Grew.set7 {a w : World} (h : Grew a w) {S : Nat} (hS : a.heap.size ≤ S) (x : RM) (p : Option Addr) (c : Nat) : Grew a (set7 w S x p c) := grew_lift h (set7_chg w S x p c) fun _ hk => hk ▸ hS
section
variable {dst : Option Tmp} {ty : TypeId} {pos : String} {after : Array Edge} {g : Option (Nat × Bool)} {a : Act} {w : World} {T : Value → World → Prop}
theorem runs_ldm {o : Operand} {S : Nat} {x : RM} {p : Option Addr} {c : Nat} (hx : a.eval o = .pointer (some ⟨S, 0, none⟩)) (hb : BoxR S x p c w) (h : T (rmv x p c) w) : Runs Try.prog ⟨dst, .load 31 o, ty, pos, after, g⟩ a w T := by
  obtain ⟨h0, h1, h2, h3, h4, h5, h6, _⟩ := box7 hb
  refine Runs.value (v := rmv x p c) (w' := w) ?_ h
  simp only [execOp, hx]
  go_simp
theorem runs_stom {o1 o2 : Operand} {S : Nat} {x : RM} {p : Option Addr} {c : Nat} (hx : a.eval o1 = .pointer (some ⟨S, 0, none⟩)) (hy : a.eval o2 = rmv x p c) (hb : BoxZ S w) (h : T undef (set7 w S x p c)) : Runs Try.prog ⟨dst, .store 31 o1 o2, ty, pos, after, g⟩ a w T := by
  obtain ⟨h0, h1, h2, h3, h4, h5, h6, hf⟩ := box7 hb
  refine Runs.skip (w' := set7 w S x p c) ?_ h
  simp only [execOp, hx, hy]
  go_simp
theorem runs_newm (h : T (.pointer (some ⟨w.heap.size, 0, none⟩)) (w.alloc (.cells #[.slice none 0 0, .bool false, .bool false, .int .i64 0, .bool false, .int .i64 0, .int .i64 0] 31))) : Runs Try.prog ⟨dst, .alloc 31, ty, pos, after, g⟩ a w T := by
  refine Runs.value (v := .pointer (some ⟨w.heap.size, 0, none⟩)) (w' := w.alloc (.cells #[.slice none 0 0, .bool false, .bool false, .int .i64 0, .bool false, .int .i64 0, .int .i64 0] 31)) ?_ h
  simp only [execOp]
  go_simp
theorem run_ext {o : Operand} {k : Nat} {vs : Array Value} {v : Value} (hy : a.eval o = .tuple vs) (hk : vs[k]? = some v) : (execOp a.eval ⟨dst, .extract o k, ty, pos, after, g⟩).run Try.prog w = .ok (.value v) w := by
  simp only [execOp, hy]
  go_simp
theorem runs_ext {o : Operand} {k : Nat} {vs : Array Value} {v : Value} (hy : a.eval o = .tuple vs) (hk : vs[k]? = some v) (h : T v w) : Runs Try.prog ⟨dst, .extract o k, ty, pos, after, g⟩ a w T := by
  refine Runs.value (v := v) (w' := w) ?_ h
  simp only [execOp, hy]
  go_simp
theorem runs_ixb {o1 o2 : Operand} {b off n c i : Nat} (hx : a.eval o1 = .slice (some ⟨b, off, none⟩) n c) (hy : a.eval o2 = .int .i64 (i : Int)) (hi : i < n) (h : T (.pointer (some ⟨b, off + i, none⟩)) w) :
    Runs Try.prog ⟨dst, .indexAddr 29 o1 o2, ty, pos, after, g⟩ a w T := by
  have h0 : (0 : Int) ≤ (i : Int) := by omega
  have h1 : (i : Int) < (n : Int) := by omega
  refine Runs.value (v := .pointer (some ⟨b, off + i, none⟩)) (w' := w) ?_ h
  simp only [execOp, hx, hy]
  go_simp
theorem runs_ld8 {o : Operand} {q : Addr} {z : Int} (hx : a.eval o = .pointer (some q)) (hc : w.cell? q = some (.int .u8 z)) (h : T (.int .u8 z) w) : Runs Try.prog ⟨dst, .load 5 o, ty, pos, after, g⟩ a w T := by
  refine Runs.value (v := .int .u8 z) (w' := w) ?_ h
  simp only [execOp, hx]
  go_simp
end
theorem enters_rwrite : Enters Try.prog 30 := fun args w => by go_simp
theorem enters_rwriteBytes : Enters Try.prog 31 := fun args w => by go_simp
theorem enters_rword : Enters Try.prog 32 := fun args w => by go_simp
theorem enters_rreadBytes : Enters Try.prog 38 := fun args w => by go_simp
theorem enters_rreadWord : Enters Try.prog 37 := fun args w => by go_simp
/-- The value is x, its bytes at p' near p. -/
def IsR (W : World) (p : Option Addr) (x : RM) (v : Value) (w : World) : Prop := ∃ p' c', v = rmv x p' c' ∧ Bin w p' c' x.B ∧ Near W p p'
/-- .. and an answer. -/
def IsRB (W : World) (p : Option Addr) (x : RM) (b : Bool) (v : Value) (w : World) : Prop := ∃ p' c', v = .tuple #[rmv x p' c', .bool b] ∧ Bin w p' c' x.B ∧ Near W p p'
theorem IsR.grew {W : World} {p : Option Addr} {x : RM} : ∀ (v : Value) (w w' : World), Grew w w' → IsR W p x v w → IsR W p x v w' := fun _ _ _ hg ⟨p', c', h1, h2, h3⟩ => ⟨p', c', h1, h2.gr hg, h3⟩
theorem IsRB.grew {W : World} {p : Option Addr} {x : RM} {b : Bool} : ∀ (v : Value) (w w' : World), Grew w w' → IsRB W p x b v w → IsRB W p x b v w' := fun _ _ _ hg ⟨p', c', h1, h2, h3⟩ => ⟨p', c', h1, h2.gr hg, h3⟩
/-- The value is a new box above N. -/
def IsZ (N : Nat) (v : Value) (w : World) : Prop := ∃ S, v = .pointer (some ⟨S, 0, none⟩) ∧ BoxZ S w ∧ N ≤ S
theorem IsZ.grew {N : Nat} : ∀ (v : Value) (w w' : World), Grew w w' → IsZ N v w → IsZ N v w' := fun _ _ _ hg ⟨S, h1, h2, h3⟩ => ⟨S, h1, h2.grew hg, h3⟩
end Go.Proofs.Ytmfahmbebpojpaa
