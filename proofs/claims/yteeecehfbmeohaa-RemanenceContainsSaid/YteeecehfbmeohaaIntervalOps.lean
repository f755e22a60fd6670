/-
  THE OPERATIONS OF A REGION BY POSTS, FOR LAYER 5 (interval): intervals, their boxes and fields, comparisons, sums, texts; and regions whose calls leave the world as it is.
-/
import Derived.Test.YteeecehfbmeohaaPostsOps
import Derived.Test.YteeecehfbmeohaaPostsTail
import Derived.Test.YteeecehfbmeohaaRows
import Derived.WalkKit
import Derived.WalkSpells
import Derived.WalkLawsBesides
namespace Go.Proofs.Yteeecehfbmeohaa
open Go.RowKit Go.IntWalk

/-- An interval as a value. -/
abbrev iv (x y : Int) : Value := .agg #[.int .i64 x, .int .i64 y]
/-- The world behind a region is the one ahead of it. -/
def Still (w w' : World) : Prop := w' = w
theorem Grew.alloc {a w : World} (h : Grew a w) (o : Obj) : Grew a (w.alloc o) := Below.alloc h h.size o
theorem Grew.drw {a w : World} (h : Grew a w) : Grew a w.drew := Below.drew h
theorem Grew.drwN {a w : World} (h : Grew a w) (n : Nat) : Grew a (w.drewN n) := ⟨h.os, h.tape, h.output, h.size, h.block⟩
/-- Block S holds the interval from x to y. -/
structure Box (S : Nat) (x y : Int) (w : World) : Prop where
  c0 : w.cell? ⟨S, 0, none⟩ = some (.int .i64 x)
  c1 : w.cell? ⟨S, 1, none⟩ = some (.int .i64 y)
theorem Box.grew {S : Nat} {x y : Int} {w w' : World} (h : Box S x y w) (hg : Grew w w') : Box S x y w' :=
  ⟨(Below.cell hg (p := ⟨S, 0, none⟩) (World.block_lt_of_cell? _ _ h.c0)).trans h.c0, (Below.cell hg (p := ⟨S, 1, none⟩) (World.block_lt_of_cell? _ _ h.c1)).trans h.c1⟩
/-- A box over one step of a region: its world has grown, or is the same. -/
class Keeps (R : World → World → Prop) : Prop where
  grew : ∀ {w w'}, R w w' → Grew w w'
instance : Keeps Grew := ⟨fun h => h⟩
instance : Keeps Still := ⟨fun h => h ▸ Grew.refl _⟩
theorem Box.kept {R : World → World → Prop} [Keeps R] {S : Nat} {x y : Int} {w w' : World} (h : Box S x y w) (hg : R w w') : Box S x y w' := h.grew (Keeps.grew hg)

section
variable {P : Program} {id : Nat} {ops : Array Oper} {Q : Exit → Act → World → Prop} {a0 : Act} {w0 : World}
theorem wp_still (sl : List (Option Nat)) (D : List Bool) (ps : List (Value → World → Prop)) (hm : P.follows .mixedOrders = true) (hok : regionOk ops sl D = true) (hD : D.length = a0.tmps.size)
    (hs : Steps P Still (postAt ps) sl (mixA D a0) w0.drew 0 ops.toList) (hend : ∀ u, (∀ i, i < ops.size → postAt ps i (uval sl u i) w0.drew) → Q .normal (mixA D a0 u) w0.drew) : (Code.region id ops true).wp P Q a0 w0 :=
  wp_region_posts sl D Still (postAt ps) hm hok hD (fun _ => rfl) (fun h h' => h'.trans h) (fun _ _ _ _ h p => by rw [show _ = _ from h]; exact p) hs (fun u w h hp => by
    obtain rfl : w = w0.drew := h
    exact hend u hp)
end
section
variable {P : Program} {dst : Option Tmp} {ty : TypeId} {pos : String} {after : Array Edge} {g : Option (Nat × Bool)} {a : Act} {w : World} {T : Value → World → Prop}
theorem ev {x : Nat} {v : Value} (h : slot a x = v) : a.eval (.tmp x) = v := (slot_eval a x).trans h
theorem runs_mv {o : Operand} {v : Value} (hx : a.eval o = v) (h : T v w) : Runs P ⟨dst, .move o, ty, pos, after, g⟩ a w T := Runs.value (w' := w) rfl (by rw [hx]; exact h)
theorem runs_mva {o : Operand} {v : Value} (hx : a.eval o = v) (h : T v w) : Runs P ⟨dst, .assign o, ty, pos, after, g⟩ a w T := Runs.value (w' := w) rfl (by rw [hx]; exact h)
theorem runs_nt {t : TypeId} {o : Operand} {b : Bool} (hx : a.eval o = .bool b) (h : T (.bool !b) w) : Runs P ⟨dst, .unOp .not t o, ty, pos, after, g⟩ a w T := by
  refine Runs.value (v := .bool !b) (w' := w) ?_ h
  simp only [execOp, hx]
  rfl
theorem runs_an {x y : Operand} {b c : Bool} (hx : a.eval x = .bool b) (hy : b = true → a.eval y = .bool c) (h : T (.bool (b && c)) w) : Runs P ⟨dst, .pick x y (.const (.bool false)), ty, pos, after, g⟩ a w T := by
  refine Runs.value (v := .bool (b && c)) (w' := w) ?_ h
  simp only [execOp, hx]
  cases b with
  | false => rfl
  | true => rw [hy rfl]; rfl
theorem runs_andF {x y : Operand} (hx : a.eval x = .bool false) (h : T (.bool false) w) : Runs P ⟨dst, .pick x y (.const (.bool false)), ty, pos, after, g⟩ a w T := by
  refine Runs.value (v := .bool false) (w' := w) ?_ h
  simp only [execOp, hx]
  rfl
theorem runs_or2 {x y : Operand} {b c : Bool} (hx : a.eval x = .bool b) (hy : b = false → a.eval y = .bool c) (h : T (.bool (b || c)) w) : Runs P ⟨dst, .pick x (.const (.bool true)) y, ty, pos, after, g⟩ a w T := by
  refine Runs.value (v := .bool (b || c)) (w' := w) ?_ h
  simp only [execOp, hx]
  cases b with
  | true => rfl
  | false => rw [hy rfl]; rfl
theorem runs_orT {x y : Operand} (hx : a.eval x = .bool true) (h : T (.bool true) w) : Runs P ⟨dst, .pick x (.const (.bool true)) y, ty, pos, after, g⟩ a w T := by
  refine Runs.value (v := .bool true) (w' := w) ?_ h
  simp only [execOp, hx]
  rfl
theorem runs_c0 {f : FuncId} (hf : Enters P f) (h : Calls P f #[] w fun e w'' => ∃ v, e = .returned v ∧ T v w'') : Runs P ⟨dst, .call { callee := .value (.func f), args := #[], argTypes := #[] }, ty, pos, after, g⟩ a w T :=
  runs_call (vs := #[]) hf (by simp) h
theorem runs_c1 {f : FuncId} {x : Operand} {ts : Array TypeId} {v : Value} (hf : Enters P f) (hx : a.eval x = v) (h : Calls P f #[v] w fun e w'' => ∃ v, e = .returned v ∧ T v w'') : Runs P ⟨dst, .call { callee := .value (.func f), args := #[x], argTypes := ts }, ty, pos, after, g⟩ a w T :=
  runs_call hf (by simp [hx]) h
theorem runs_c2 {f : FuncId} {x y : Operand} {ts : Array TypeId} {v u : Value} (hf : Enters P f) (hx : a.eval x = v) (hy : a.eval y = u) (h : Calls P f #[v, u] w fun e w'' => ∃ v, e = .returned v ∧ T v w'') : Runs P ⟨dst, .call { callee := .value (.func f), args := #[x, y], argTypes := ts }, ty, pos, after, g⟩ a w T :=
  runs_call hf (by simp [hx, hy]) h
theorem callp {f : FuncId} {vs : Array Value} {x : Value} {R : World → Prop} {F : Value → Prop} (hp : ∀ v, v = x → F v) (h : Calls P f vs w fun e w' => e = .returned x ∧ R w') : Calls P f vs w fun e w' => ∃ v, e = .returned v ∧ (R w' ∧ F v) :=
  h.mono fun _ _ ⟨h1, h2⟩ => ⟨x, h1, h2, hp x rfl⟩
end
section
variable {dst : Option Tmp} {ty : TypeId} {pos : String} {after : Array Edge} {g : Option (Nat × Bool)} {a : Act} {w : World} {T : Value → World → Prop}
theorem runs_box25 {o : Operand} {S : Nat} {x y : Int} (hx : a.eval o = .pointer (some ⟨S, 0, none⟩)) (hb : Box S x y w) (h : T (iv x y) w) : Runs Try.prog ⟨dst, .load 25 o, ty, pos, after, g⟩ a w T := by
  obtain ⟨c0, c1⟩ := hb
  refine Runs.value (v := iv x y) (w' := w) ?_ h
  simp only [execOp, hx]
  go_simp
theorem runs_fld25_0 {o : Operand} {S : Nat} (hx : a.eval o = .pointer (some ⟨S, 0, none⟩)) (h : T (.pointer (some ⟨S, 0, none⟩)) w) : Runs Try.prog ⟨dst, .fieldAddr 25 o 0, ty, pos, after, g⟩ a w T := by
  refine Runs.value (v := .pointer (some ⟨S, 0, none⟩)) (w' := w) ?_ h
  simp only [execOp, hx]
  go_simp
theorem runs_fld25_1 {o : Operand} {S : Nat} (hx : a.eval o = .pointer (some ⟨S, 0, none⟩)) (h : T (.pointer (some ⟨S, 1, none⟩)) w) : Runs Try.prog ⟨dst, .fieldAddr 25 o 1, ty, pos, after, g⟩ a w T := by
  refine Runs.value (v := .pointer (some ⟨S, 1, none⟩)) (w' := w) ?_ h
  simp only [execOp, hx]
  go_simp
theorem runs_ld2 {o : Operand} {q : Addr} {z : Int} (hx : a.eval o = .pointer (some q)) (hc : w.cell? q = some (.int .i64 z)) (h : T (.int .i64 z) w) : Runs Try.prog ⟨dst, .load 2 o, ty, pos, after, g⟩ a w T := by
  refine Runs.value (v := .int .i64 z) (w' := w) ?_ h
  simp only [execOp, hx]
  go_simp
theorem runs_leq2 {o1 o2 : Operand} {b c : Int} (hx : a.eval o1 = .int .i64 b) (hy : a.eval o2 = .int .i64 c) (h : T (.bool (decide (b ≤ c))) w) : Runs Try.prog ⟨dst, .binOp .leq 2 o1 o2 2, ty, pos, after, g⟩ a w T := by
  refine Runs.value (v := .bool (decide (b ≤ c))) (w' := w) ?_ h
  simp only [execOp, hx, hy]
  go_simp
theorem runs_lss2 {o1 o2 : Operand} {b c : Int} (hx : a.eval o1 = .int .i64 b) (hy : a.eval o2 = .int .i64 c) (h : T (.bool (decide (b < c))) w) : Runs Try.prog ⟨dst, .binOp .lss 2 o1 o2 2, ty, pos, after, g⟩ a w T := by
  refine Runs.value (v := .bool (decide (b < c))) (w' := w) ?_ h
  simp only [execOp, hx, hy]
  go_simp
theorem runs_geq2 {o1 o2 : Operand} {b c : Int} (hx : a.eval o1 = .int .i64 b) (hy : a.eval o2 = .int .i64 c) (h : T (.bool (decide (c ≤ b))) w) : Runs Try.prog ⟨dst, .binOp .geq 2 o1 o2 2, ty, pos, after, g⟩ a w T := by
  refine Runs.value (v := .bool (decide (c ≤ b))) (w' := w) ?_ h
  simp only [execOp, hx, hy]
  go_simp
theorem runs_gtr2 {o1 o2 : Operand} {b c : Int} (hx : a.eval o1 = .int .i64 b) (hy : a.eval o2 = .int .i64 c) (h : T (.bool (decide (c < b))) w) : Runs Try.prog ⟨dst, .binOp .gtr 2 o1 o2 2, ty, pos, after, g⟩ a w T := by
  refine Runs.value (v := .bool (decide (c < b))) (w' := w) ?_ h
  simp only [execOp, hx, hy]
  go_simp
theorem runs_eql2 {o1 o2 : Operand} {b c : Int} (hx : a.eval o1 = .int .i64 b) (hy : a.eval o2 = .int .i64 c) (h : T (.bool (b == c)) w) : Runs Try.prog ⟨dst, .binOp .eql 2 o1 o2 2, ty, pos, after, g⟩ a w T := by
  refine Runs.value (v := .bool (b == c)) (w' := w) ?_ h
  simp only [execOp, hx, hy]
  go_simp
theorem runs_eql26 {o1 o2 : Operand} {b c : Int} (hx : a.eval o1 = .int .i64 b) (hy : a.eval o2 = .int .i64 c) (h : T (.bool (b == c)) w) : Runs Try.prog ⟨dst, .binOp .eql 26 o1 o2 26, ty, pos, after, g⟩ a w T := by
  refine Runs.value (v := .bool (b == c)) (w' := w) ?_ h
  simp only [execOp, hx, hy]
  go_simp
theorem runs_eql4 {o1 o2 : Operand} {b c : Bool} (hx : a.eval o1 = .bool b) (hy : a.eval o2 = .bool c) (h : T (.bool (b == c)) w) : Runs Try.prog ⟨dst, .binOp .eql 4 o1 o2 4, ty, pos, after, g⟩ a w T := by
  refine Runs.value (v := .bool (b == c)) (w' := w) ?_ h
  simp only [execOp, hx, hy]
  go_simp
theorem runs_eql25 {o1 o2 : Operand} {b c d e : Int} (hx : a.eval o1 = iv b c) (hy : a.eval o2 = iv d e) (h : T (.bool ((b == d) && (c == e))) w) : Runs Try.prog ⟨dst, .binOp .eql 25 o1 o2 25, ty, pos, after, g⟩ a w T := by
  refine Runs.value (v := .bool ((b == d) && (c == e))) (w' := w) ?_ h
  simp only [execOp, hx, hy]
  go_simp
  by_cases e1 : b = d <;> by_cases e2 : c = e <;> simp [e1, e2]
theorem runs_eql9 {o1 o2 : Operand} {b c : List UInt8} (hx : a.eval o1 = .string ⟨b.toArray⟩) (hy : a.eval o2 = .string ⟨c.toArray⟩) (h : T (.bool (b == c)) w) : Runs Try.prog ⟨dst, .binOp .eql 9 o1 o2 9, ty, pos, after, g⟩ a w T := by
  refine Runs.value (v := .bool (b == c)) (w' := w) ?_ h
  simp only [execOp, hx, hy]
  go_simp
theorem runs_cat9 {o1 o2 : Operand} {b c : List UInt8} (hx : a.eval o1 = .string ⟨b.toArray⟩) (hy : a.eval o2 = .string ⟨c.toArray⟩) (hb : b.length + c.length ≤ 9223372036854775807) (h : T (.string ⟨(b ++ c).toArray⟩) w) : Runs Try.prog ⟨dst, .binOp .add 9 o1 o2 9, ty, pos, after, g⟩ a w T := by
  have hs : (⟨b.toArray⟩ : ByteArray) ++ ⟨c.toArray⟩ = ⟨(b ++ c).toArray⟩ := by apply ByteArray.ext; simp
  have hn : ¬ 9223372036854775807 < b.length + c.length := by omega
  refine Runs.value (v := .string ⟨(b ++ c).toArray⟩) (w' := w) ?_ h
  rw [← hs]
  simp only [execOp, hx, hy]
  go_simp
theorem runs_add2 {o1 o2 : Operand} {b c : Int} (hx : a.eval o1 = .int .i64 b) (hy : a.eval o2 = .int .i64 c) (hb : -9223372036854775808 ≤ b + c ∧ b + c ≤ 9223372036854775807) (h : T (.int .i64 (b + c)) w) : Runs Try.prog ⟨dst, .binOp .add 2 o1 o2 2, ty, pos, after, g⟩ a w T := by
  refine Runs.value (v := .int .i64 (b + c)) (w' := w) ?_ h
  have hw : IntKind.i64.wrap (b + c) = b + c := IntWalk.i64_in _ hb
  simp only [execOp, hx, hy]
  go_simp
theorem runs_add3 {o1 o2 : Operand} {b c : Int} (hx : a.eval o1 = .int .i64 b) (hy : a.eval o2 = .int .i64 c) (hb : -9223372036854775808 ≤ b + c ∧ b + c ≤ 9223372036854775807) (h : T (.int .i64 (b + c)) w) : Runs Try.prog ⟨dst, .binOp .add 3 o1 o2 3, ty, pos, after, g⟩ a w T := by
  refine Runs.value (v := .int .i64 (b + c)) (w' := w) ?_ h
  have hw : IntKind.i64.wrap (b + c) = b + c := IntWalk.i64_in _ hb
  simp only [execOp, hx, hy]
  go_simp
theorem runs_slH9 {x y : Nat} {s : ByteArray} {k : Nat} (hx : a.eval (.tmp x) = .string s) (hy : a.eval (.tmp y) = .int .i64 (k : Int)) (hk : k ≤ s.size) (h : T (.string (s.extract 0 k)) w) : Runs Try.prog ⟨dst, .slice 9 (.tmp x) none (some (.tmp y)) none, ty, pos, after, g⟩ a w T := by
  rw [slot_eval, ← slot_get] at hx hy
  refine Runs.value (v := .string (s.extract 0 k)) (w' := w) ?_ h
  simp only [execOp]
  go_simp
theorem runs_slL9 {x y : Nat} {s : ByteArray} {k : Nat} (hx : a.eval (.tmp x) = .string s) (hy : a.eval (.tmp y) = .int .i64 (k : Int)) (hk : k ≤ s.size) (h : T (.string (s.extract k s.size)) w) : Runs Try.prog ⟨dst, .slice 9 (.tmp x) (some (.tmp y)) none none, ty, pos, after, g⟩ a w T := by
  rw [slot_eval, ← slot_get] at hx hy
  refine Runs.value (v := .string (s.extract k s.size)) (w' := w) ?_ h
  simp only [execOp]
  go_simp
theorem runs_sub2 {o1 o2 : Operand} {b c : Int} (hx : a.eval o1 = .int .i64 b) (hy : a.eval o2 = .int .i64 c) (hb : -9223372036854775808 ≤ b - c ∧ b - c ≤ 9223372036854775807) (h : T (.int .i64 (b - c)) w) : Runs Try.prog ⟨dst, .binOp .sub 2 o1 o2 2, ty, pos, after, g⟩ a w T := by
  refine Runs.value (v := .int .i64 (b - c)) (w' := w) ?_ h
  have hw : IntKind.i64.wrap (b - c) = b - c := IntWalk.i64_in _ hb
  simp only [execOp, hx, hy]
  go_simp
theorem runs_bld25 {x y : Nat} {b c : Int} (hx : a.eval (.tmp x) = .int .i64 b) (hy : a.eval (.tmp y) = .int .i64 c) (h : T (iv b c) w) : Runs Try.prog ⟨dst, .build 25 #[(0, .tmp x), (1, .tmp y)], ty, pos, after, g⟩ a w T := by
  rw [slot_eval, ← slot_get] at hx hy
  refine Runs.value (v := iv b c) (w' := w) ?_ h
  simp only [execOp]
  go_simp
/-- The interval stored into block S. -/
abbrev put2 (w : World) (S : Nat) (x y : Int) : World := (w.setCell ⟨S, 0, none⟩ (.int .i64 x)).setCell ⟨S, 1, none⟩ (.int .i64 y)
theorem runs_sto25 {x y S : Nat} {b c b0 c0 : Int} (hx : a.eval (.tmp x) = .pointer (some ⟨S, 0, none⟩)) (hy : a.eval (.tmp y) = iv b c) (hb : Box S b0 c0 w) (hf : ∀ k, w.frozen? ⟨S, k, none⟩ = false) (h : T undef (put2 w S b c)) :
    Runs Try.prog ⟨dst, .store 25 (.tmp x) (.tmp y), ty, pos, after, g⟩ a w T := by
  obtain ⟨h0, h1⟩ := hb
  have hf0 := hf 0
  have hf1 := hf 1
  rw [slot_eval, ← slot_get] at hx hy
  refine Runs.skip (w' := put2 w S b c) ?_ h
  simp only [execOp]
  go_simp
theorem Box.put2 {S : Nat} {x0 y0 : Int} {w : World} (h : Box S x0 y0 w) (x y : Int) : Box S x y (put2 w S x y) := by
  have h1 : (w.setCell ⟨S, 0, none⟩ (.int .i64 x)).cell? ⟨S, 0, none⟩ = some (.int .i64 x) := World.cell?_setCell_same' _ _ _ (by rw [h.c0]; rfl)
  have h2 : (w.setCell ⟨S, 0, none⟩ (.int .i64 x)).cell? ⟨S, 1, none⟩ = some (.int .i64 y0) := (World.cell?_setCell_other _ _ _ _ (by simp)).trans h.c1
  exact ⟨(World.cell?_setCell_other _ _ _ _ (by simp)).trans h1, World.cell?_setCell_same' _ _ _ (by rw [h2]; rfl)⟩
theorem Grew.put2 {a w : World} (h : Grew a w) {S : Nat} (hS : a.heap.size ≤ S) (x y : Int) : Grew a (put2 w S x y) := (Below.setCell h (p := ⟨S, 0, none⟩) hS _).setCell (p := ⟨S, 1, none⟩) hS _
end
theorem ret_iv2 {fn : Func} {p q : Tmp} (h : fn.results = #[.cell p 25, .tmp q]) {tmps : Array Value} {w : World} {S : Nat} {x y c : Int} {R : Ending → World → Prop} (hp : tmps.getD p undef = .pointer (some ⟨S, 0, none⟩)) (hq : tmps.getD q undef = .int .i64 c)
    (hb : Box S x y w) (hR : R (.returned (.tuple #[iv x y, .int .i64 c])) w) : bodyPost Try.prog fn R .ret { tmps := tmps, defers := [] } w := by
  obtain ⟨h0, h1⟩ := hb
  refine bodyPost_ret (v := .tuple #[iv x y, .int .i64 c]) ?_ rfl hR
  rw [Array.getD_eq_getD_getElem?] at hp hq
  simp [results, h, hp, hq, h0, h1, go_sem]
section
variable {P : Program} {id : Nat} {ops : Array Oper} {Q : Exit → Act → World → Prop} {a0 : Act} {w0 : World}
theorem wp_still_tail (n : Nat) (sl : List (Option Nat)) (D : List Bool) (ps : List (Value → World → Prop)) (hm : P.follows .mixedOrders = true) (hok : regionOkN ops n sl D = true) (htl : (decide (n ≤ ops.size) && tailOk ops n) = true) (hD : D.length = a0.tmps.size)
    (hs : Steps P Still (postAt ps) sl (mixA D a0) w0.drew 0 (ops.toList.take n)) (hend : ∀ u, (∀ i, i < n → postAt ps i (uval sl u i) w0.drew) → wpAny P .any ops Q (ops.size - n) (listedN n ops.size) (mixA D a0 u) w0.drew) : (Code.region id ops true).wp P Q a0 w0 :=
  wp_region_tail n sl D Still (postAt ps) hm hok htl hD (fun _ => rfl) (fun h h' => h'.trans h) (fun _ _ _ _ h p => by rw [show _ = _ from h]; exact p) hs (fun u w h hp => by
    obtain rfl : w = w0.drew := h
    exact hend u hp)
end
end Go.Proofs.Yteeecehfbmeohaa
