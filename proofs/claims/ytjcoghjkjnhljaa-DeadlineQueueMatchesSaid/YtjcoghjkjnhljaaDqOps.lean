/-
  THE OPERATIONS OF A REGION BY POSTS, FOR LAYER 6 (deadlinequeue): the general part, and items in boxes and slices.
-/
import Derived.Test.YtjcoghjkjnhljaaPostsOps
import Derived.Test.YtjcoghjkjnhljaaPostsTail
import Derived.Test.YtjcoghjkjnhljaaRows2
import Derived.Test.YtjcoghjkjnhljaaRows
import Derived.WalkKit
import Derived.WalkSpells
import Derived.WalkLawsBesides
namespace Go.Proofs.Ytjcoghjkjnhljaa
open Go Go.RowKit Go.IntWalk
set_option maxRecDepth 4000

/-- The world behind a region is the one ahead of it. -/
def Still (w w' : World) : Prop := w' = w
theorem Grew.alloc {a w : World} (h : Grew a w) (o : Obj) : Grew a (w.alloc o) := Below.alloc h h.size o
theorem Grew.drw {a w : World} (h : Grew a w) : Grew a w.drew := Below.drew h
theorem Grew.drwN {a w : World} (h : Grew a w) (n : Nat) : Grew a (w.drewN n) := ⟨h.os, h.tape, h.output, h.size, h.block⟩
/-- A box over one step of a region: its world has grown, or is the same. -/
class Keeps (R : World → World → Prop) : Prop where
  grew : ∀ {w w'}, R w w' → Grew w w'
instance : Keeps Grew := ⟨fun h => h⟩
instance : Keeps Still := ⟨fun h => h ▸ Grew.refl _⟩

section
variable {P : Program} {id : Nat} {ops : Array Oper} {Q : Exit → Act → World → Prop} {a0 : Act} {w0 : World}
theorem wp_still (sl : List (Option Nat)) (D : List Bool) (ps : List (Value → World → Prop)) (hm : P.follows .mixedOrders = true) (hok : regionOk ops sl D = true) (hD : D.length = a0.tmps.size)
    (hs : Steps P Still (postAt ps) sl (mixA D a0) w0.drew 0 ops.toList) (hend : ∀ u, (∀ i, i < ops.size → postAt ps i (uval sl u i) w0.drew) → Q .normal (mixA D a0 u) w0.drew) : (Code.region id ops true).wp P Q a0 w0 :=
  wp_region_posts sl D Still (postAt ps) hm hok hD (fun _ => rfl) (fun h h' => h'.trans h) (fun _ _ _ _ h p => by rw [show _ = _ from h]; exact p) hs (fun u w h hp => by
    obtain rfl : w = w0.drew := h
    exact hend u hp)
end
section
variable {P : Program} {dst : Option Tmp} {ty : TypeId} {pos : String} {after : Array Edge} {g : Option (Nat × Bool)} {a : Act} {w : World} {T : Value → World → Prop}
theorem ev {x : Nat} {v : Value} (h : slot a x = v) : a.eval (.tmp x) = v := (slot_eval a x).trans h
theorem runs_mv {o : Operand} {v : Value} (hx : a.eval o = v) (h : T v w) : Runs P ⟨dst, .move o, ty, pos, after, g⟩ a w T := Runs.value (w' := w) rfl (by rw [hx]; exact h)
theorem runs_mva {o : Operand} {v : Value} (hx : a.eval o = v) (h : T v w) : Runs P ⟨dst, .assign o, ty, pos, after, g⟩ a w T := Runs.value (w' := w) rfl (by rw [hx]; exact h)
theorem runs_nt {t : TypeId} {o : Operand} {b : Bool} (hx : a.eval o = .bool b) (h : T (.bool !b) w) : Runs P ⟨dst, .unOp .not t o, ty, pos, after, g⟩ a w T := by
  refine Runs.value (v := .bool !b) (w' := w) ?_ h
  simp only [execOp, hx]
  rfl
theorem runs_an {x y : Operand} {b c : Bool} (hx : a.eval x = .bool b) (hy : b = true → a.eval y = .bool c) (h : T (.bool (b && c)) w) : Runs P ⟨dst, .pick x y (.const (.bool false)), ty, pos, after, g⟩ a w T := by
  refine Runs.value (v := .bool (b && c)) (w' := w) ?_ h
  simp only [execOp, hx]
  cases b with
  | false => rfl
  | true => rw [hy rfl]; rfl
theorem runs_andF {x y : Operand} (hx : a.eval x = .bool false) (h : T (.bool false) w) : Runs P ⟨dst, .pick x y (.const (.bool false)), ty, pos, after, g⟩ a w T := by
  refine Runs.value (v := .bool false) (w' := w) ?_ h
  simp only [execOp, hx]
  rfl
theorem runs_or2 {x y : Operand} {b c : Bool} (hx : a.eval x = .bool b) (hy : b = false → a.eval y = .bool c) (h : T (.bool (b || c)) w) : Runs P ⟨dst, .pick x (.const (.bool true)) y, ty, pos, after, g⟩ a w T := by
  refine Runs.value (v := .bool (b || c)) (w' := w) ?_ h
  simp only [execOp, hx]
  cases b with
  | true => rfl
  | false => rw [hy rfl]; rfl
theorem runs_orT {x y : Operand} (hx : a.eval x = .bool true) (h : T (.bool true) w) : Runs P ⟨dst, .pick x (.const (.bool true)) y, ty, pos, after, g⟩ a w T := by
  refine Runs.value (v := .bool true) (w' := w) ?_ h
  simp only [execOp, hx]
  rfl
theorem runs_c0 {f : FuncId} (hf : Enters P f) (h : Calls P f #[] w fun e w'' => ∃ v, e = .returned v ∧ T v w'') : Runs P ⟨dst, .call { callee := .value (.func f), args := #[], argTypes := #[] }, ty, pos, after, g⟩ a w T :=
  runs_call (vs := #[]) hf (by simp) h
theorem runs_c1 {f : FuncId} {x : Operand} {ts : Array TypeId} {v : Value} (hf : Enters P f) (hx : a.eval x = v) (h : Calls P f #[v] w fun e w'' => ∃ v, e = .returned v ∧ T v w'') : Runs P ⟨dst, .call { callee := .value (.func f), args := #[x], argTypes := ts }, ty, pos, after, g⟩ a w T :=
  runs_call hf (by simp [hx]) h
theorem runs_c2 {f : FuncId} {x y : Operand} {ts : Array TypeId} {v u : Value} (hf : Enters P f) (hx : a.eval x = v) (hy : a.eval y = u) (h : Calls P f #[v, u] w fun e w'' => ∃ v, e = .returned v ∧ T v w'') : Runs P ⟨dst, .call { callee := .value (.func f), args := #[x, y], argTypes := ts }, ty, pos, after, g⟩ a w T :=
  runs_call hf (by simp [hx, hy]) h
theorem callp {f : FuncId} {vs : Array Value} {x : Value} {R : World → Prop} {F : Value → Prop} (hp : ∀ v, v = x → F v) (h : Calls P f vs w fun e w' => e = .returned x ∧ R w') : Calls P f vs w fun e w' => ∃ v, e = .returned v ∧ (R w' ∧ F v) :=
  h.mono fun _ _ ⟨h1, h2⟩ => ⟨x, h1, h2, hp x rfl⟩
end

/-- One cell. -/
structure Cel (b o : Nat) (v : Value) (w : World) : Prop where
  c : w.cell? ⟨b, o, none⟩ = some v
theorem Cel.grew {b o : Nat} {v : Value} {w w' : World} (h : Cel b o v w) (hg : Grew w w') : Cel b o v w' := ⟨(Below.cell hg (p := ⟨b, o, none⟩) (World.block_lt_of_cell? _ _ h.c)).trans h.c⟩
theorem Cel.kept {R : World → World → Prop} [Keeps R] {b o : Nat} {v : Value} {w w' : World} (h : Cel b o v w) (hg : R w w') : Cel b o v w' := h.grew (Keeps.grew hg)
/-- An item's cells. -/
structure Bx (b o : Nat) (x : It) (w : World) : Prop where
  c0 : w.cell? ⟨b, o, none⟩ = some (.int .i64 x.1)
  c1 : w.cell? ⟨b, o + 1, none⟩ = some (.int .i64 x.2)
theorem Bx.grew {b o : Nat} {x : It} {w w' : World} (h : Bx b o x w) (hg : Grew w w') : Bx b o x w' :=
  ⟨(Below.cell hg (p := ⟨b, o, none⟩) (World.block_lt_of_cell? _ _ h.c0)).trans h.c0, (Below.cell hg (p := ⟨b, o + 1, none⟩) (World.block_lt_of_cell? _ _ h.c1)).trans h.c1⟩
theorem Bx.kept {R : World → World → Prop} [Keeps R] {b o : Nat} {x : It} {w w' : World} (h : Bx b o x w) (hg : R w w') : Bx b o x w' := h.grew (Keeps.grew hg)
theorem RdI.bx {w : World} {b o c : Nat} {xs : List It} (h : RdI w (some ⟨b, o, none⟩) c xs) (i : Nat) (x : It) (hi : xs[i]? = some x) : Bx b (o + i * 2) x w := ⟨(h.cell hi).1, (h.cell hi).2⟩
section
variable {dst : Option Tmp} {ty : TypeId} {pos : String} {after : Array Edge} {g : Option (Nat × Bool)} {a : Act} {w : World} {T : Value → World → Prop}
theorem runs_bx32 {o : Operand} {b off : Nat} {x : It} (hx : a.eval o = .pointer (some ⟨b, off, none⟩)) (hb : Bx b off x w) (h : T (itv x) w) : Runs Try.prog ⟨dst, .load 32 o, ty, pos, after, g⟩ a w T := by
  obtain ⟨c0, c1⟩ := hb
  refine Runs.value (v := itv x) (w' := w) ?_ h
  simp only [execOp, hx]
  go_simp
theorem runs_fld32_0 {o : Operand} {b off : Nat} (hx : a.eval o = .pointer (some ⟨b, off, none⟩)) (h : T (.pointer (some ⟨b, off, none⟩)) w) : Runs Try.prog ⟨dst, .fieldAddr 32 o 0, ty, pos, after, g⟩ a w T := by
  refine Runs.value (v := .pointer (some ⟨b, off, none⟩)) (w' := w) ?_ h
  simp only [execOp, hx]
  go_simp
theorem runs_fld32_1 {o : Operand} {b off : Nat} (hx : a.eval o = .pointer (some ⟨b, off, none⟩)) (h : T (.pointer (some ⟨b, off + 1, none⟩)) w) : Runs Try.prog ⟨dst, .fieldAddr 32 o 1, ty, pos, after, g⟩ a w T := by
  refine Runs.value (v := .pointer (some ⟨b, off + 1, none⟩)) (w' := w) ?_ h
  simp only [execOp, hx]
  go_simp
theorem runs_ix39 {o1 o2 : Operand} {b off n c i : Nat} (hx : a.eval o1 = .slice (some ⟨b, off, none⟩) n c) (hy : a.eval o2 = .int .i64 (i : Int)) (hi : i < n) (h : T (.pointer (some ⟨b, off + i * 2, none⟩)) w) :
    Runs Try.prog ⟨dst, .indexAddr 39 o1 o2, ty, pos, after, g⟩ a w T := by
  have h0 : (0 : Int) ≤ (i : Int) := by omega
  have h1 : (i : Int) < (n : Int) := by omega
  refine Runs.value (v := .pointer (some ⟨b, off + i * 2, none⟩)) (w' := w) ?_ h
  simp only [execOp, hx, hy]
  go_simp
theorem runs_bld32 {x y : Nat} {b c : Int} (hx : a.eval (.tmp x) = .int .i64 b) (hy : a.eval (.tmp y) = .int .i64 c) (h : T (itv (b, c)) w) : Runs Try.prog ⟨dst, .build 32 #[(0, .tmp x), (1, .tmp y)], ty, pos, after, g⟩ a w T := by
  rw [slot_eval, ← slot_get] at hx hy
  refine Runs.value (v := itv (b, c)) (w' := w) ?_ h
  simp only [execOp]
  go_simp
theorem runs_bldz32 (h : T (itv (0, 0)) w) : Runs Try.prog ⟨dst, .build 32 #[], ty, pos, after, g⟩ a w T := by
  refine Runs.value (v := itv (0, 0)) (w' := w) ?_ h
  simp only [execOp]
  go_simp
theorem runs_eql32 {o1 o2 : Operand} {x y : It} (hx : a.eval o1 = itv x) (hy : a.eval o2 = itv y) (h : T (.bool (decide (x = y))) w) : Runs Try.prog ⟨dst, .binOp .eql 32 o1 o2 32, ty, pos, after, g⟩ a w T := by
  refine Runs.value (v := .bool (decide (x = y))) (w' := w) ?_ h
  simp only [execOp, hx, hy]
  go_simp
  by_cases e1 : x.1 = y.1 <;> by_cases e2 : x.2 = y.2 <;> simp [e1, e2, Prod.ext_iff]
theorem runs_neq32 {o1 o2 : Operand} {x y : It} (hx : a.eval o1 = itv x) (hy : a.eval o2 = itv y) (h : T (.bool (decide (x ≠ y))) w) : Runs Try.prog ⟨dst, .binOp .neq 32 o1 o2 32, ty, pos, after, g⟩ a w T := by
  refine Runs.value (v := .bool (decide (x ≠ y))) (w' := w) ?_ h
  simp only [execOp, hx, hy]
  go_simp
  by_cases e1 : x.1 = y.1 <;> by_cases e2 : x.2 = y.2 <;> simp [e1, e2, Prod.ext_iff]
theorem runs_bx36 {o : Operand} {b off : Nat} {x : It} (hx : a.eval o = .pointer (some ⟨b, off, none⟩)) (hb : Bx b off x w) (h : T (itv x) w) : Runs Try.prog ⟨dst, .load 36 o, ty, pos, after, g⟩ a w T := by
  obtain ⟨c0, c1⟩ := hb
  refine Runs.value (v := itv x) (w' := w) ?_ h
  simp only [execOp, hx]
  go_simp
theorem runs_fld36_0 {o : Operand} {b off : Nat} (hx : a.eval o = .pointer (some ⟨b, off, none⟩)) (h : T (.pointer (some ⟨b, off, none⟩)) w) : Runs Try.prog ⟨dst, .fieldAddr 36 o 0, ty, pos, after, g⟩ a w T := by
  refine Runs.value (v := .pointer (some ⟨b, off, none⟩)) (w' := w) ?_ h
  simp only [execOp, hx]
  go_simp
theorem runs_fld36_1 {o : Operand} {b off : Nat} (hx : a.eval o = .pointer (some ⟨b, off, none⟩)) (h : T (.pointer (some ⟨b, off + 1, none⟩)) w) : Runs Try.prog ⟨dst, .fieldAddr 36 o 1, ty, pos, after, g⟩ a w T := by
  refine Runs.value (v := .pointer (some ⟨b, off + 1, none⟩)) (w' := w) ?_ h
  simp only [execOp, hx]
  go_simp
theorem runs_ix26 {o1 o2 : Operand} {b off n c i : Nat} (hx : a.eval o1 = .slice (some ⟨b, off, none⟩) n c) (hy : a.eval o2 = .int .i64 (i : Int)) (hi : i < n) (h : T (.pointer (some ⟨b, off + i * 2, none⟩)) w) :
    Runs Try.prog ⟨dst, .indexAddr 26 o1 o2, ty, pos, after, g⟩ a w T := by
  have h0 : (0 : Int) ≤ (i : Int) := by omega
  have h1 : (i : Int) < (n : Int) := by omega
  refine Runs.value (v := .pointer (some ⟨b, off + i * 2, none⟩)) (w' := w) ?_ h
  simp only [execOp, hx, hy]
  go_simp
theorem runs_bld36 {x y : Nat} {b c : Int} (hx : a.eval (.tmp x) = .int .i64 b) (hy : a.eval (.tmp y) = .int .i64 c) (h : T (itv (b, c)) w) : Runs Try.prog ⟨dst, .build 36 #[(0, .tmp x), (1, .tmp y)], ty, pos, after, g⟩ a w T := by
  rw [slot_eval, ← slot_get] at hx hy
  refine Runs.value (v := itv (b, c)) (w' := w) ?_ h
  simp only [execOp]
  go_simp
theorem runs_bldz36 (h : T (itv (0, 0)) w) : Runs Try.prog ⟨dst, .build 36 #[], ty, pos, after, g⟩ a w T := by
  refine Runs.value (v := itv (0, 0)) (w' := w) ?_ h
  simp only [execOp]
  go_simp
theorem runs_eql36 {o1 o2 : Operand} {x y : It} (hx : a.eval o1 = itv x) (hy : a.eval o2 = itv y) (h : T (.bool (decide (x = y))) w) : Runs Try.prog ⟨dst, .binOp .eql 36 o1 o2 36, ty, pos, after, g⟩ a w T := by
  refine Runs.value (v := .bool (decide (x = y))) (w' := w) ?_ h
  simp only [execOp, hx, hy]
  go_simp
  by_cases e1 : x.1 = y.1 <;> by_cases e2 : x.2 = y.2 <;> simp [e1, e2, Prod.ext_iff]
theorem runs_neq36 {o1 o2 : Operand} {x y : It} (hx : a.eval o1 = itv x) (hy : a.eval o2 = itv y) (h : T (.bool (decide (x ≠ y))) w) : Runs Try.prog ⟨dst, .binOp .neq 36 o1 o2 36, ty, pos, after, g⟩ a w T := by
  refine Runs.value (v := .bool (decide (x ≠ y))) (w' := w) ?_ h
  simp only [execOp, hx, hy]
  go_simp
  by_cases e1 : x.1 = y.1 <;> by_cases e2 : x.2 = y.2 <;> simp [e1, e2, Prod.ext_iff]
theorem runs_nil {P : Program} {o : Operand} {q : Addr} (hx : a.eval o = .pointer (some q)) (h : T (.pointer (some q)) w) : Runs P ⟨dst, .nilCheck o, ty, pos, after, g⟩ a w T := by
  refine Runs.value (v := .pointer (some q)) (w' := w) ?_ h
  simp only [execOp, hx]
  go_simp
theorem runs_fldQ {o : Operand} {q : Nat} (hx : a.eval o = .pointer (some ⟨q, 0, none⟩)) (h : T (.pointer (some ⟨q, 0, none⟩)) w) : Runs Try.prog ⟨dst, .fieldAddr 65 o 0, ty, pos, after, g⟩ a w T := by
  refine Runs.value (v := .pointer (some ⟨q, 0, none⟩)) (w' := w) ?_ h
  simp only [execOp, hx]
  go_simp
theorem runs_fld63_0 {o : Operand} {q : Nat} (hx : a.eval o = .pointer (some ⟨q, 0, none⟩)) (h : T (.pointer (some ⟨q, 0, none⟩)) w) : Runs Try.prog ⟨dst, .fieldAddr 63 o 0, ty, pos, after, g⟩ a w T := by
  refine Runs.value (v := .pointer (some ⟨q, 0, none⟩)) (w' := w) ?_ h
  simp only [execOp, hx]
  go_simp
theorem runs_fld63_1 {o : Operand} {q : Nat} (hx : a.eval o = .pointer (some ⟨q, 0, none⟩)) (h : T (.pointer (some ⟨q, 1, none⟩)) w) : Runs Try.prog ⟨dst, .fieldAddr 63 o 1, ty, pos, after, g⟩ a w T := by
  refine Runs.value (v := .pointer (some ⟨q, 1, none⟩)) (w' := w) ?_ h
  simp only [execOp, hx]
  go_simp
theorem runs_ld3 {o : Operand} {b off : Nat} {z : Int} (hx : a.eval o = .pointer (some ⟨b, off, none⟩)) (hc : Cel b off (.int .i64 z) w) (h : T (.int .i64 z) w) : Runs Try.prog ⟨dst, .load 3 o, ty, pos, after, g⟩ a w T := by
  obtain ⟨hc⟩ := hc
  refine Runs.value (v := .int .i64 z) (w' := w) ?_ h
  simp only [execOp, hx]
  go_simp
theorem runs_ld2 {o : Operand} {b off : Nat} {z : Int} (hx : a.eval o = .pointer (some ⟨b, off, none⟩)) (hc : Cel b off (.int .i64 z) w) (h : T (.int .i64 z) w) : Runs Try.prog ⟨dst, .load 2 o, ty, pos, after, g⟩ a w T := by
  obtain ⟨hc⟩ := hc
  refine Runs.value (v := .int .i64 z) (w' := w) ?_ h
  simp only [execOp, hx]
  go_simp
theorem runs_ld39 {o : Operand} {b off : Nat} {z : Option Addr} {n c : Nat} (hx : a.eval o = .pointer (some ⟨b, off, none⟩)) (hc : Cel b off (.slice z n c) w) (h : T (.slice z n c) w) : Runs Try.prog ⟨dst, .load 39 o, ty, pos, after, g⟩ a w T := by
  obtain ⟨hc⟩ := hc
  refine Runs.value (v := .slice z n c) (w' := w) ?_ h
  simp only [execOp, hx]
  go_simp
theorem runs_ld61 {o : Operand} {b off : Nat} {z : Option Nat} (hx : a.eval o = .pointer (some ⟨b, off, none⟩)) (hc : Cel b off (.map z) w) (h : T (.map z) w) : Runs Try.prog ⟨dst, .load 61 o, ty, pos, after, g⟩ a w T := by
  obtain ⟨hc⟩ := hc
  refine Runs.value (v := .map z) (w' := w) ?_ h
  simp only [execOp, hx]
  go_simp
theorem runs_leq3 {o1 o2 : Operand} {b c : Int} (hx : a.eval o1 = .int .i64 b) (hy : a.eval o2 = .int .i64 c) (h : T (.bool (decide (b ≤ c))) w) : Runs Try.prog ⟨dst, .binOp .leq 3 o1 o2 3, ty, pos, after, g⟩ a w T := by
  refine Runs.value (v := .bool (decide (b ≤ c))) (w' := w) ?_ h
  simp only [execOp, hx, hy]
  go_simp
theorem runs_lss3 {o1 o2 : Operand} {b c : Int} (hx : a.eval o1 = .int .i64 b) (hy : a.eval o2 = .int .i64 c) (h : T (.bool (decide (b < c))) w) : Runs Try.prog ⟨dst, .binOp .lss 3 o1 o2 3, ty, pos, after, g⟩ a w T := by
  refine Runs.value (v := .bool (decide (b < c))) (w' := w) ?_ h
  simp only [execOp, hx, hy]
  go_simp
theorem runs_geq3 {o1 o2 : Operand} {b c : Int} (hx : a.eval o1 = .int .i64 b) (hy : a.eval o2 = .int .i64 c) (h : T (.bool (decide (c ≤ b))) w) : Runs Try.prog ⟨dst, .binOp .geq 3 o1 o2 3, ty, pos, after, g⟩ a w T := by
  refine Runs.value (v := .bool (decide (c ≤ b))) (w' := w) ?_ h
  simp only [execOp, hx, hy]
  go_simp
theorem runs_gtr3 {o1 o2 : Operand} {b c : Int} (hx : a.eval o1 = .int .i64 b) (hy : a.eval o2 = .int .i64 c) (h : T (.bool (decide (c < b))) w) : Runs Try.prog ⟨dst, .binOp .gtr 3 o1 o2 3, ty, pos, after, g⟩ a w T := by
  refine Runs.value (v := .bool (decide (c < b))) (w' := w) ?_ h
  simp only [execOp, hx, hy]
  go_simp
theorem runs_eql3 {o1 o2 : Operand} {b c : Int} (hx : a.eval o1 = .int .i64 b) (hy : a.eval o2 = .int .i64 c) (h : T (.bool (b == c)) w) : Runs Try.prog ⟨dst, .binOp .eql 3 o1 o2 3, ty, pos, after, g⟩ a w T := by
  refine Runs.value (v := .bool (b == c)) (w' := w) ?_ h
  simp only [execOp, hx, hy]
  go_simp
theorem runs_neq3 {o1 o2 : Operand} {b c : Int} (hx : a.eval o1 = .int .i64 b) (hy : a.eval o2 = .int .i64 c) (h : T (.bool (b != c)) w) : Runs Try.prog ⟨dst, .binOp .neq 3 o1 o2 3, ty, pos, after, g⟩ a w T := by
  refine Runs.value (v := .bool (b != c)) (w' := w) ?_ h
  simp only [execOp, hx, hy]
  go_simp
theorem runs_leq2 {o1 o2 : Operand} {b c : Int} (hx : a.eval o1 = .int .i64 b) (hy : a.eval o2 = .int .i64 c) (h : T (.bool (decide (b ≤ c))) w) : Runs Try.prog ⟨dst, .binOp .leq 2 o1 o2 2, ty, pos, after, g⟩ a w T := by
  refine Runs.value (v := .bool (decide (b ≤ c))) (w' := w) ?_ h
  simp only [execOp, hx, hy]
  go_simp
theorem runs_lss2 {o1 o2 : Operand} {b c : Int} (hx : a.eval o1 = .int .i64 b) (hy : a.eval o2 = .int .i64 c) (h : T (.bool (decide (b < c))) w) : Runs Try.prog ⟨dst, .binOp .lss 2 o1 o2 2, ty, pos, after, g⟩ a w T := by
  refine Runs.value (v := .bool (decide (b < c))) (w' := w) ?_ h
  simp only [execOp, hx, hy]
  go_simp
theorem runs_geq2 {o1 o2 : Operand} {b c : Int} (hx : a.eval o1 = .int .i64 b) (hy : a.eval o2 = .int .i64 c) (h : T (.bool (decide (c ≤ b))) w) : Runs Try.prog ⟨dst, .binOp .geq 2 o1 o2 2, ty, pos, after, g⟩ a w T := by
  refine Runs.value (v := .bool (decide (c ≤ b))) (w' := w) ?_ h
  simp only [execOp, hx, hy]
  go_simp
theorem runs_gtr2 {o1 o2 : Operand} {b c : Int} (hx : a.eval o1 = .int .i64 b) (hy : a.eval o2 = .int .i64 c) (h : T (.bool (decide (c < b))) w) : Runs Try.prog ⟨dst, .binOp .gtr 2 o1 o2 2, ty, pos, after, g⟩ a w T := by
  refine Runs.value (v := .bool (decide (c < b))) (w' := w) ?_ h
  simp only [execOp, hx, hy]
  go_simp
theorem runs_eql2 {o1 o2 : Operand} {b c : Int} (hx : a.eval o1 = .int .i64 b) (hy : a.eval o2 = .int .i64 c) (h : T (.bool (b == c)) w) : Runs Try.prog ⟨dst, .binOp .eql 2 o1 o2 2, ty, pos, after, g⟩ a w T := by
  refine Runs.value (v := .bool (b == c)) (w' := w) ?_ h
  simp only [execOp, hx, hy]
  go_simp
theorem runs_neq2 {o1 o2 : Operand} {b c : Int} (hx : a.eval o1 = .int .i64 b) (hy : a.eval o2 = .int .i64 c) (h : T (.bool (b != c)) w) : Runs Try.prog ⟨dst, .binOp .neq 2 o1 o2 2, ty, pos, after, g⟩ a w T := by
  refine Runs.value (v := .bool (b != c)) (w' := w) ?_ h
  simp only [execOp, hx, hy]
  go_simp
theorem runs_eql51 {o1 o2 : Operand} {b c : Int} (hx : a.eval o1 = .int .i64 b) (hy : a.eval o2 = .int .i64 c) (h : T (.bool (b == c)) w) : Runs Try.prog ⟨dst, .binOp .eql 51 o1 o2 51, ty, pos, after, g⟩ a w T := by
  refine Runs.value (v := .bool (b == c)) (w' := w) ?_ h
  simp only [execOp, hx, hy]
  go_simp
theorem runs_neq51 {o1 o2 : Operand} {b c : Int} (hx : a.eval o1 = .int .i64 b) (hy : a.eval o2 = .int .i64 c) (h : T (.bool (b != c)) w) : Runs Try.prog ⟨dst, .binOp .neq 51 o1 o2 51, ty, pos, after, g⟩ a w T := by
  refine Runs.value (v := .bool (b != c)) (w' := w) ?_ h
  simp only [execOp, hx, hy]
  go_simp
theorem runs_eql4 {o1 o2 : Operand} {b c : Bool} (hx : a.eval o1 = .bool b) (hy : a.eval o2 = .bool c) (h : T (.bool (b == c)) w) : Runs Try.prog ⟨dst, .binOp .eql 4 o1 o2 4, ty, pos, after, g⟩ a w T := by
  refine Runs.value (v := .bool (b == c)) (w' := w) ?_ h
  simp only [execOp, hx, hy]
  go_simp
theorem runs_neq4 {o1 o2 : Operand} {b c : Bool} (hx : a.eval o1 = .bool b) (hy : a.eval o2 = .bool c) (h : T (.bool (b != c)) w) : Runs Try.prog ⟨dst, .binOp .neq 4 o1 o2 4, ty, pos, after, g⟩ a w T := by
  refine Runs.value (v := .bool (b != c)) (w' := w) ?_ h
  simp only [execOp, hx, hy]
  go_simp
  cases b <;> cases c <;> rfl
theorem runs_add3 {o1 o2 : Operand} {b c : Int} (hx : a.eval o1 = .int .i64 b) (hy : a.eval o2 = .int .i64 c) (hb : -9223372036854775808 ≤ b + c ∧ b + c ≤ 9223372036854775807) (h : T (.int .i64 (b + c)) w) : Runs Try.prog ⟨dst, .binOp .add 3 o1 o2 3, ty, pos, after, g⟩ a w T := by
  refine Runs.value (v := .int .i64 (b + c)) (w' := w) ?_ h
  have hw : IntKind.i64.wrap (b + c) = b + c := IntWalk.i64_in _ hb
  simp only [execOp, hx, hy]
  go_simp
theorem runs_sub3 {o1 o2 : Operand} {b c : Int} (hx : a.eval o1 = .int .i64 b) (hy : a.eval o2 = .int .i64 c) (hb : -9223372036854775808 ≤ b - c ∧ b - c ≤ 9223372036854775807) (h : T (.int .i64 (b - c)) w) : Runs Try.prog ⟨dst, .binOp .sub 3 o1 o2 3, ty, pos, after, g⟩ a w T := by
  refine Runs.value (v := .int .i64 (b - c)) (w' := w) ?_ h
  have hw : IntKind.i64.wrap (b - c) = b - c := IntWalk.i64_in _ hb
  simp only [execOp, hx, hy]
  go_simp
theorem runs_add2 {o1 o2 : Operand} {b c : Int} (hx : a.eval o1 = .int .i64 b) (hy : a.eval o2 = .int .i64 c) (hb : -9223372036854775808 ≤ b + c ∧ b + c ≤ 9223372036854775807) (h : T (.int .i64 (b + c)) w) : Runs Try.prog ⟨dst, .binOp .add 2 o1 o2 2, ty, pos, after, g⟩ a w T := by
  refine Runs.value (v := .int .i64 (b + c)) (w' := w) ?_ h
  have hw : IntKind.i64.wrap (b + c) = b + c := IntWalk.i64_in _ hb
  simp only [execOp, hx, hy]
  go_simp
theorem runs_sub2 {o1 o2 : Operand} {b c : Int} (hx : a.eval o1 = .int .i64 b) (hy : a.eval o2 = .int .i64 c) (hb : -9223372036854775808 ≤ b - c ∧ b - c ≤ 9223372036854775807) (h : T (.int .i64 (b - c)) w) : Runs Try.prog ⟨dst, .binOp .sub 2 o1 o2 2, ty, pos, after, g⟩ a w T := by
  refine Runs.value (v := .int .i64 (b - c)) (w' := w) ?_ h
  have hw : IntKind.i64.wrap (b - c) = b - c := IntWalk.i64_in _ hb
  simp only [execOp, hx, hy]
  go_simp
theorem runs_len39 {o : Operand} {p : Option Addr} {n c : Nat} (hx : a.eval o = .slice p n c) (h : T (.int .i64 (n : Int)) w) : Runs Try.prog ⟨dst, .call { callee := .builtin .len, args := #[o], argTypes := #[39] }, ty, pos, after, g⟩ a w T := by
  refine Runs.value (v := .int .i64 (n : Int)) (w' := w) ?_ h
  simp [execOp, resolve, invoke, builtin, hx]
  go_simp
theorem runs_len26 {o : Operand} {p : Option Addr} {n c : Nat} (hx : a.eval o = .slice p n c) (h : T (.int .i64 (n : Int)) w) : Runs Try.prog ⟨dst, .call { callee := .builtin .len, args := #[o], argTypes := #[26] }, ty, pos, after, g⟩ a w T := by
  refine Runs.value (v := .int .i64 (n : Int)) (w' := w) ?_ h
  simp [execOp, resolve, invoke, builtin, hx]
  go_simp
end
section
variable {P : Program} {id : Nat} {ops : Array Oper} {Q : Exit → Act → World → Prop} {a0 : Act} {w0 : World}
theorem wp_still_tail (n : Nat) (sl : List (Option Nat)) (D : List Bool) (ps : List (Value → World → Prop)) (hm : P.follows .mixedOrders = true) (hok : regionOkN ops n sl D = true) (htl : (decide (n ≤ ops.size) && tailOk ops n) = true) (hD : D.length = a0.tmps.size)
    (hs : Steps P Still (postAt ps) sl (mixA D a0) w0.drew 0 (ops.toList.take n)) (hend : ∀ u, (∀ i, i < n → postAt ps i (uval sl u i) w0.drew) → wpAny P .any ops Q (ops.size - n) (listedN n ops.size) (mixA D a0 u) w0.drew) : (Code.region id ops true).wp P Q a0 w0 :=
  wp_region_tail n sl D Still (postAt ps) hm hok htl hD (fun _ => rfl) (fun h h' => h'.trans h) (fun _ _ _ _ h p => by rw [show _ = _ from h]; exact p) hs (fun u w h hp => by
    obtain rfl : w = w0.drew := h
    exact hend u hp)
end
end Go.Proofs.Ytjcoghjkjnhljaa
