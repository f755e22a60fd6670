/-
  LAYER 10 (sensor): changes as cells; THE OPERATIONS OF ITS DRAWN REGIONS BY POSTS.
-/
import Derived.Test.YtaehlpdnjfblbaaDoorProg
import Derived.Test.YtaehlpdnjfblbaaDoorSePlain
import Derived.Test.YtaehlpdnjfblbaaDoorRow
import Derived.Test.YtaehlpdnjfblbaaDoorOps
import Derived.LoopTactic
import Derived.Deep.LoopGhost
namespace Go.Proofs.YtaehlpdnjfblbaaDoor
open Go Go.RowKit Go.IntWalk
set_option linter.unusedSimpArgs false
set_option maxRecDepth 8000

abbrev itc (x : It) : List Value := [.int .i64 x.1, .int .i16 x.2]
abbrev itv (x : It) : Value := .agg #[.int .i64 x.1, .int .i16 x.2]
theorem encI : Enc 2 itc := ⟨fun _ => rfl, fun x u hu => by simp at hu; rcases hu with rfl | rfl <;> rfl, by decide⟩
theorem infoC : (Tryd.prog.info? 34).map (fun i => (i.zero, i.size, i.bytes)) = some (some (itv (0, 0)), 2, 16) := by kernel_rfl
theorem infoR : (Tryd.prog.info? 37).map (fun i => (i.zero, i.size, i.bytes)) = some (some (itv (0, 0)), 2, 16) := by kernel_rfl
/-- A row's block is none of another type. -/
theorem OwR.apart {α : Type} {k : Nat} {enc : α → List Value} {w : World} {base : Nat} {e e' : TypeId} {p : Option Addr} {n c : Nat} {xs : List α} (h : OwR w base e k enc (.slice p n c) xs) (he : e ≠ e') {S : Nat} {vs : List Value} (hb : Blk S vs e' w) : ¬ (Value.ownBlock (.slice p n c) = some S) := fun hs => by
  rcases h.2 with ⟨hv, _⟩ | ⟨g, cap, cur, hv, _, hg, _⟩
  · simp only [Value.slice.injEq] at hv
    rw [ownBlock_sl, hv.1] at hs
    cases hs
  · simp only [Value.slice.injEq] at hv
    rw [ownBlock_sl, hv.1] at hs
    obtain rfl : g = S := Option.some.inj hs
    have h2 : w.heap[g]? = _ := hb
    rw [h2] at hg
    simp at hg
    exact he hg.2.symm
section
variable {dst : Option Tmp} {ty : TypeId} {pos : String} {after : Array Edge} {g : Option (Nat × Bool)} {a : Act} {w : World} {T : Value → World → Prop}
theorem runs_bsC {y : Nat} {x : It} (hx : a.eval (.tmp y) = itv x) (h : T (.slice (some ⟨w.heap.size, 0, none⟩) 1 1) (w.alloc (.cells (itc x).toArray 34))) :
    Runs Tryd.prog ⟨dst, .buildSlice 22 1 #[(0, .tmp y)], ty, pos, after, g⟩ a w T := by
  rw [slot_eval, ← slot_get] at hx
  refine Runs.value (v := .slice (some ⟨w.heap.size, 0, none⟩) 1 1) (w' := w.alloc (.cells (itc x).toArray 34)) ?_ h
  simp only [execOp]
  go_simp
theorem runs_bsR {y : Nat} {x : It} (hx : a.eval (.tmp y) = itv x) (h : T (.slice (some ⟨w.heap.size, 0, none⟩) 1 1) (w.alloc (.cells (itc x).toArray 37))) :
    Runs Tryd.prog ⟨dst, .buildSlice 28 1 #[(0, .tmp y)], ty, pos, after, g⟩ a w T := by
  rw [slot_eval, ← slot_get] at hx
  refine Runs.value (v := .slice (some ⟨w.heap.size, 0, none⟩) 1 1) (w' := w.alloc (.cells (itc x).toArray 37)) ?_ h
  simp only [execOp]
  go_simp
end
section
variable {dst : Option Tmp} {ty : TypeId} {pos : String} {after : Array Edge} {g : Option (Nat × Bool)} {a : Act} {w : World} {T : Value → World → Prop}
theorem rn_nil {x : Operand} {q : Addr} (hx : a.eval x = .pointer (some q)) (h : T (.pointer (some q)) w) : Runs Tryd.prog ⟨dst, .nilCheck x, ty, pos, after, g⟩ a w T := by
  refine Runs.value (v := .pointer (some q)) (w' := w) ?_ h
  simp only [execOp, hx]
  go_simp
theorem rn_fld_60_0 {x : Operand} {S o : Nat} (hx : a.eval x = .pointer (some ⟨S, o, none⟩)) (h : T (.pointer (some ⟨S, o, none⟩)) w) : Runs Tryd.prog ⟨dst, .fieldAddr 60 x 0, ty, pos, after, g⟩ a w T := by
  refine Runs.value (v := .pointer (some ⟨S, o, none⟩)) (w' := w) ?_ h
  simp only [execOp, hx]
  go_simp
theorem rn_ld_22 {x : Operand} {q : Addr} {v : Value} (hx : a.eval x = .pointer (some q)) (hc : w.cell? q = some v) (h : T v w) : Runs Tryd.prog ⟨dst, .load 22 x, ty, pos, after, g⟩ a w T := by
  refine Runs.value (v := v) (w' := w) ?_ h
  simp only [execOp, hx]
  go_simp
theorem rn_ld_34 {x : Operand} {S o : Nat} {v0 v1 : Value} (hx : a.eval x = .pointer (some ⟨S, o, none⟩)) (h0 : w.cell? ⟨S, o, none⟩ = some v0) (h1 : w.cell? ⟨S, o + 1, none⟩ = some v1) (h : T (.agg #[v0, v1]) w) : Runs Tryd.prog ⟨dst, .load 34 x, ty, pos, after, g⟩ a w T := by
  refine Runs.value (v := .agg #[v0, v1]) (w' := w) ?_ h
  simp only [execOp, hx]
  go_simp
theorem rn_st_22 {x y : Operand} {q : Addr} {p : Option Addr} {m c : Nat} {v' : Value} (hx : a.eval x = .pointer (some q)) (hy : a.eval y = (.slice p m c)) (hc : w.cell? q = some v') (hf : w.frozen? q = false) (h : T undef (w.setCell q (.slice p m c))) : Runs Tryd.prog ⟨dst, .store 22 x y, ty, pos, after, g⟩ a w T := by
  refine Runs.skip (w' := w.setCell q (.slice p m c)) ?_ h
  simp only [execOp, hx, hy]
  go_simp
theorem rn_ret_c34_t {fn : Func} {p0 p1 : Tmp} (h : fn.results = #[.cell p0 34, .tmp p1]) {tmps : Array Value} {w : World} {S0 : Nat} {v0_0 v0_1 : Value} {v1 : Value} {R : Ending → World → Prop} (hp0 : tmps.getD p0 undef = .pointer (some ⟨S0, 0, none⟩)) (h0_0 : w.cell? ⟨S0, 0, none⟩ = some v0_0) (h0_1 : w.cell? ⟨S0, 1, none⟩ = some v0_1) (hp1 : tmps.getD p1 undef = v1) (hR : R (.returned (.tuple #[.agg #[v0_0, v0_1], v1])) w) : bodyPost Tryd.prog fn R .ret { tmps := tmps, defers := [] } w := by
  refine bodyPost_ret (v := .tuple #[.agg #[v0_0, v0_1], v1]) ?_ rfl hR
  rw [Array.getD_eq_getD_getElem?] at hp0 hp1
  simp [results, h, hp0, h0_0, h0_1, hp1, go_sem]
end
end Go.Proofs.YtaehlpdnjfblbaaDoor
