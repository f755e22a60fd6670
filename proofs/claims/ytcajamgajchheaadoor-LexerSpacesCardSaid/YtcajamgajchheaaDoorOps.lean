/-
  THE OPERATIONS OF A REGION BY POSTS, the part that is of no program: moves, picks, calls; worlds that grow through a walk; cells that stay (own text; out of XIntervalOps and XRmOps).
-/
import Derived.Test.YtcajamgajchheaaDoorPostsOps
import Derived.Test.YtcajamgajchheaaDoorPostsTail
import Derived.Test.YtcajamgajchheaaDoorPostsSS
import Derived.Test.YtcajamgajchheaaDoorPostsFr
import Derived.WalkKit
import Derived.WalkSpells
import Derived.WalkLawsBesides
namespace Go.Proofs.YtcajamgajchheaaDoor
open Go.RowKit Go.IntWalk

/-- The world behind a region is the one ahead of it. -/
def Still (w w' : World) : Prop := w' = w
theorem Grew.alloc {a w : World} (h : Grew a w) (o : Obj) : Grew a (w.alloc o) := Below.alloc h h.size o
theorem Grew.drw {a w : World} (h : Grew a w) : Grew a w.drew := Below.drew h
theorem Grew.drwN {a w : World} (h : Grew a w) (n : Nat) : Grew a (w.drewN n) := ⟨h.os, h.tape, h.output, h.size, h.block⟩
theorem Grew.sc {a w : World} (h : Grew a w) {S : Nat} (hS : a.heap.size ≤ S) (k : Nat) (v : Value) : Grew a (w.setCell ⟨S, k, none⟩ v) := Below.setCell h (p := ⟨S, k, none⟩) hS _
/-- A box over one step of a region: its world has grown, or is the same. -/
class Keeps (R : World → World → Prop) : Prop where
  grew : ∀ {w w'}, R w w' → Grew w w'
instance : Keeps Grew := ⟨fun h => h⟩
instance : Keeps Still := ⟨fun h => h ▸ Grew.refl _⟩
theorem Atv.kept {R : World → World → Prop} [Keeps R] {q : Addr} {v : Value} {w w' : World} (h : Atv q v w) (hg : R w w') : w'.cell? q = some v := h.grew (Keeps.grew hg)

section
variable {P : Program} {id : Nat} {ops : Array Oper} {Q : Exit → Act → World → Prop} {a0 : Act} {w0 : World}
theorem wp_still (sl : List (Option Nat)) (D : List Bool) (ps : List (Value → World → Prop)) (hm : P.follows .mixedOrders = true) (hok : regionOk ops sl D = true) (hD : D.length = a0.tmps.size)
    (hs : Steps P Still (postAt ps) sl (mixA D a0) w0.drew 0 ops.toList) (hend : ∀ u, (∀ i, i < ops.size → postAt ps i (uval sl u i) w0.drew) → Q .normal (mixA D a0 u) w0.drew) : (Code.region id ops true).wp P Q a0 w0 :=
  wp_region_posts sl D Still (postAt ps) hm hok hD (fun _ => rfl) (fun h h' => h'.trans h) (fun _ _ _ _ h p => by rw [show _ = _ from h]; exact p) hs (fun u w h hp => by
    obtain rfl : w = w0.drew := h
    exact hend u hp)
end
section
variable {P : Program} {dst : Option Tmp} {ty : TypeId} {pos : String} {after : Array Edge} {g : Option (Nat × Bool)} {a : Act} {w : World} {T : Value → World → Prop}
theorem ev {x : Nat} {v : Value} (h : slot a x = v) : a.eval (.tmp x) = v := (slot_eval a x).trans h
theorem runs_mv {o : Operand} {v : Value} (hx : a.eval o = v) (h : T v w) : Runs P ⟨dst, .move o, ty, pos, after, g⟩ a w T := Runs.value (w' := w) rfl (by rw [hx]; exact h)
theorem runs_mva {o : Operand} {v : Value} (hx : a.eval o = v) (h : T v w) : Runs P ⟨dst, .assign o, ty, pos, after, g⟩ a w T := Runs.value (w' := w) rfl (by rw [hx]; exact h)
theorem runs_nt {t : TypeId} {o : Operand} {b : Bool} (hx : a.eval o = .bool b) (h : T (.bool !b) w) : Runs P ⟨dst, .unOp .not t o, ty, pos, after, g⟩ a w T := by
  refine Runs.value (v := .bool !b) (w' := w) ?_ h
  simp only [execOp, hx]
  rfl
theorem runs_an {x y : Operand} {b c : Bool} (hx : a.eval x = .bool b) (hy : b = true → a.eval y = .bool c) (h : T (.bool (b && c)) w) : Runs P ⟨dst, .pick x y (.const (.bool false)), ty, pos, after, g⟩ a w T := by
  refine Runs.value (v := .bool (b && c)) (w' := w) ?_ h
  simp only [execOp, hx]
  cases b with
  | false => rfl
  | true => rw [hy rfl]; rfl
theorem runs_andF {x y : Operand} (hx : a.eval x = .bool false) (h : T (.bool false) w) : Runs P ⟨dst, .pick x y (.const (.bool false)), ty, pos, after, g⟩ a w T := by
  refine Runs.value (v := .bool false) (w' := w) ?_ h
  simp only [execOp, hx]
  rfl
theorem runs_or2 {x y : Operand} {b c : Bool} (hx : a.eval x = .bool b) (hy : b = false → a.eval y = .bool c) (h : T (.bool (b || c)) w) : Runs P ⟨dst, .pick x (.const (.bool true)) y, ty, pos, after, g⟩ a w T := by
  refine Runs.value (v := .bool (b || c)) (w' := w) ?_ h
  simp only [execOp, hx]
  cases b with
  | true => rfl
  | false => rw [hy rfl]; rfl
theorem runs_orT {x y : Operand} (hx : a.eval x = .bool true) (h : T (.bool true) w) : Runs P ⟨dst, .pick x (.const (.bool true)) y, ty, pos, after, g⟩ a w T := by
  refine Runs.value (v := .bool true) (w' := w) ?_ h
  simp only [execOp, hx]
  rfl
theorem runs_c0 {f : FuncId} (hf : Enters P f) (h : Calls P f #[] w fun e w'' => ∃ v, e = .returned v ∧ T v w'') : Runs P ⟨dst, .call { callee := .value (.func f), args := #[], argTypes := #[] }, ty, pos, after, g⟩ a w T :=
  runs_call (vs := #[]) hf (by simp) h
theorem runs_c1 {f : FuncId} {x : Operand} {ts : Array TypeId} {v : Value} (hf : Enters P f) (hx : a.eval x = v) (h : Calls P f #[v] w fun e w'' => ∃ v, e = .returned v ∧ T v w'') : Runs P ⟨dst, .call { callee := .value (.func f), args := #[x], argTypes := ts }, ty, pos, after, g⟩ a w T :=
  runs_call hf (by simp [hx]) h
theorem runs_c2 {f : FuncId} {x y : Operand} {ts : Array TypeId} {v u : Value} (hf : Enters P f) (hx : a.eval x = v) (hy : a.eval y = u) (h : Calls P f #[v, u] w fun e w'' => ∃ v, e = .returned v ∧ T v w'') : Runs P ⟨dst, .call { callee := .value (.func f), args := #[x, y], argTypes := ts }, ty, pos, after, g⟩ a w T :=
  runs_call hf (by simp [hx, hy]) h
theorem callp {f : FuncId} {vs : Array Value} {x : Value} {R : World → Prop} {F : Value → Prop} (hp : ∀ v, v = x → F v) (h : Calls P f vs w fun e w' => e = .returned x ∧ R w') : Calls P f vs w fun e w' => ∃ v, e = .returned v ∧ (R w' ∧ F v) :=
  h.mono fun _ _ ⟨h1, h2⟩ => ⟨x, h1, h2, hp x rfl⟩
end
section
variable {P : Program} {id : Nat} {ops : Array Oper} {Q : Exit → Act → World → Prop} {a0 : Act} {w0 : World}
theorem wp_still_tail (n : Nat) (sl : List (Option Nat)) (D : List Bool) (ps : List (Value → World → Prop)) (hm : P.follows .mixedOrders = true) (hok : regionOkN ops n sl D = true) (htl : (decide (n ≤ ops.size) && tailOk ops n) = true) (hD : D.length = a0.tmps.size)
    (hs : Steps P Still (postAt ps) sl (mixA D a0) w0.drew 0 (ops.toList.take n)) (hend : ∀ u, (∀ i, i < n → postAt ps i (uval sl u i) w0.drew) → wpAny P .any ops Q (ops.size - n) (listedN n ops.size) (mixA D a0 u) w0.drew) : (Code.region id ops true).wp P Q a0 w0 :=
  wp_region_tail n sl D Still (postAt ps) hm hok htl hD (fun _ => rfl) (fun h h' => h'.trans h) (fun _ _ _ _ h p => by rw [show _ = _ from h]; exact p) hs (fun u w h hp => by
    obtain rfl : w = w0.drew := h
    exact hend u hp)
end
section
variable {P : Program} {id : Nat} {ops : Array Oper} {Q : Exit → Act → World → Prop} {a0 : Act} {w0 : World}
theorem wp_grew_free (f x d : Nat) (v : Value) (n : Nat) (sl : List (Option Nat)) (D : List Bool) (ps : List (Value → World → Prop)) (hm : P.follows .mixedOrders = true) (hok : regionOkN ops n sl D = true) (htl : (decide (n ≤ ops.size) && tailOkF ops n [f]) = true) (hD : D.length = a0.tmps.size)
    (hf : (match ops[f]? with | some o => (match o.op with | .move (.tmp y) => decide (y = x) | _ => false) && o.guard.isNone && (o.dst == some d) && o.after.isEmpty | none => false) = true) (hns : Region.noSelect ops = true)
    (hfree : Region.free .any ops (Array.replicate ops.size false) f = true) (hready : (Region.ready .any ops (Array.replicate ops.size false)).contains f = true) (hfn : f < n) (hv : slot a0 x = v) (hQ : ∀ c a w, Q (.panic c) (a.put (some d) v) w → Q (.panic c) a w)
    (hps : Monos ps) (hF0 : postAt ps f v w0.drew)
    (hs : Steps P Grew (postAt ps) sl (mixA D a0) w0.drew 0 (ops.toList.take n)) (hend : ∀ u w, Grew w0.drew w → (∀ i, i < n → postAt ps i (uval sl u i) w) → wpAny P .any ops Q (ops.size - n) (listedN n ops.size) (mixA D a0 u) w) : (Code.region id ops true).wp P Q a0 w0 :=
  wp_region_free f x d v n sl D Grew (postAt ps) hm hok htl hD hf hns hfree hready hfn hv hQ Grew.refl Grew.trans hps.at hF0 hs hend
end
/-! A region in which a store may come ahead of operations that read: a relation of one's own in place of Grew. -/
def MonosR (R : World → World → Prop) : List (Value → World → Prop) → Prop
  | [] => True
  | p :: ps => (∀ v w w', R w w' → p v w → p v w') ∧ MonosR R ps
theorem MonosR.at {R : World → World → Prop} : ∀ {ps : List (Value → World → Prop)}, MonosR R ps → ∀ (i : Nat) (v : Value) (w w' : World), R w w' → postAt ps i v w → postAt ps i v w'
  | [], _, _, _, _, _, _, _ => trivial
  | _ :: _, h, 0, v, w, w', hg, hp => h.1 v w w' hg hp
  | _ :: ps, h, i + 1, v, w, w', hg, hp => MonosR.at (ps := ps) h.2 i v w w' hg hp
theorem wp_postsR {P : Program} {id : Nat} {ops : Array Oper} {Q : Exit → Act → World → Prop} {a0 : Act} {w0 : World} (R : World → World → Prop) (hrr : ∀ w, R w w) (hrt : ∀ {a b c}, R a b → R b c → R a c)
    (sl : List (Option Nat)) (D : List Bool) (ps : List (Value → World → Prop)) (hm : P.follows .mixedOrders = true) (hok : regionOk ops sl D = true) (hD : D.length = a0.tmps.size) (hps : MonosR R ps)
    (hs : Steps P R (postAt ps) sl (mixA D a0) w0.drew 0 ops.toList) (hend : ∀ u w, R w0.drew w → (∀ i, i < ops.size → postAt ps i (uval sl u i) w) → Q .normal (mixA D a0 u) w) : (Code.region id ops true).wp P Q a0 w0 :=
  wp_region_posts sl D R (postAt ps) hm hok hD hrr hrt hps.at hs hend
/-- A cell that holds v throughout. -/
def Sta (R : World → World → Prop) (w0 : World) (q : Addr) (v : Value) : Prop := ∀ w, R w0 w → w.cell? q = some v
theorem Sta.kept {R : World → World → Prop} {w0 w : World} {q : Addr} {v : Value} (h : Sta R w0 q v) (hR : R w0 w) : w.cell? q = some v := h w hR
/-- Nothing but block S changes; it holds the old cells or the new ones, and the new ones for good. -/
structure Turns (S : Nat) (old new : List Value) (e : TypeId) (w w' : World) : Prop where
  chg : Chg w w' (fun k => k = S)
  some : (Blk S old e w ∨ Blk S new e w) → (Blk S old e w' ∨ Blk S new e w')
  stay : Blk S new e w → Blk S new e w'
theorem Turns.refl {S : Nat} {old new : List Value} {e : TypeId} (w : World) : Turns S old new e w w := ⟨Chg.refl _ _, fun h => h, fun h => h⟩
theorem Turns.trans {S : Nat} {old new : List Value} {e : TypeId} {a b c : World} (h : Turns S old new e a b) (h' : Turns S old new e b c) : Turns S old new e a c :=
  ⟨h.chg.trans h'.chg, fun x => h'.some (h.some x), fun x => h'.stay (h.stay x)⟩
theorem Turns.of_grew {S : Nat} {old new : List Value} {e : TypeId} {a b : World} (h : Grew a b) : Turns S old new e a b :=
  ⟨Chg.of_grew h _, fun x => x.imp (fun y => y.grew h) (fun y => y.grew h), fun y => y.grew h⟩
theorem Turns.blk {S : Nat} {old new : List Value} {e e' : TypeId} {a b : World} (h : Turns S old new e a b) {T : Nat} {vs : List Value} (hT : Blk T vs e' a) (hne : T ≠ S) : Blk T vs e' b := hT.chg h.chg hne
theorem Grew.sz {a w : World} (h : Grew a w) : a.heap.size ≤ w.heap.size := Below.size h
/-- The world at hand gets a name. -/
theorem wp_at9 {P : Program} {c : Code} {Q : Exit → Act → World → Prop} {a : Act} {w : World} (F : World → Prop) (hF : F w) (h : ∀ W, F W → c.wp P Q a W) : c.wp P Q a w := h w hF
end Go.Proofs.YtcajamgajchheaaDoor
