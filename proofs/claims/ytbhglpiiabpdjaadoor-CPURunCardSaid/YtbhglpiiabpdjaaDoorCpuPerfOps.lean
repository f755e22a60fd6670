/-
  LAYER 12 (cpu): the operations of the drawn regions of perform.
-/
import Derived.Test.YtbhglpiiabpdjaaDoorCpuPf
namespace Go.Proofs.YtbhglpiiabpdjaaDoor
open Go Go.RowKit Go.IntWalk Go.WideShapes
set_option linter.unusedSimpArgs false
set_option linter.unusedVariables false
set_option maxRecDepth 8000
section
variable {dst : Option Tmp} {ty : TypeId} {pos : String} {after : Array Edge} {g : Option (Nat × Bool)} {a : Act} {w : World} {T : Value → World → Prop}
theorem rn_mkm {nm : String} {x : Nat} {v : Value} (hx : a.eval (.tmp x) = v) (h : T (.func (.method nm) #[v] #[]) w) : Runs Tryd.prog ⟨dst, .makeFunc (.method nm) #[.tmp x] #[], ty, pos, after, g⟩ a w T := by
  refine Runs.value (v := .func (.method nm) #[v] #[]) (w' := w) ?_ h
  simp [execOp, Instr.makeFunc, hx]
theorem rn_nilm {nm : String} {x : Operand} {t : TypeId} {v : Value} (hx : a.eval x = .func (.method nm) #[.iface t v] #[]) (hn : ∀ w, (nilAhead (153 + Made.depth) t v nm).run Tryd.prog w = .ok (some false) w) (h : T (.func (.method nm) #[.iface t v] #[]) w) : Runs Tryd.prog ⟨dst, .nilCheck x, ty, pos, after, g⟩ a w T := by
  refine Runs.value (v := .func (.method nm) #[.iface t v] #[]) (w' := w) ?_ h
  simp [execOp, hx, Sem.run_bind, hn]
theorem rn_nili {x : Operand} {t : TypeId} {v : Value} (hx : a.eval x = .iface t v) (h : T (.iface t v) w) : Runs Tryd.prog ⟨dst, .nilCheck x, ty, pos, after, g⟩ a w T := by
  refine Runs.value (v := .iface t v) (w' := w) ?_ h
  simp only [execOp, hx]
  go_simp
theorem rn_inv {f : FuncId} {x : Operand} {nm : String} {xs : Array Operand} {ts : Array TypeId} {t : TypeId} {v r : Value} {vs : Array Value} (hf : Enters Tryd.prog f) (hm : ∀ w, (method (153 + Made.depth) t v nm).run Tryd.prog w = .ok (f, r) w) (hx : a.eval x = .iface t v) (hxs : xs.map a.eval = vs)
    (h : Calls Tryd.prog f (#[r] ++ vs) w fun e w'' => ∃ v, e = .returned v ∧ T v w'') : Runs Tryd.prog ⟨dst, .call { callee := .invoke x nm, args := xs, argTypes := ts }, ty, pos, after, g⟩ a w T := by
  refine Runs.call (f := f) (args := #[r] ++ vs) (w' := w) ?_ h
  have e : execOp a.eval ⟨dst, .call { callee := .invoke x nm, args := xs, argTypes := ts }, ty, pos, after, g⟩ = (do let d ← resolve a.eval { callee := .invoke x nm, args := xs, argTypes := ts } ty; invoke d.target d.args) := rfl
  rw [e]
  have e2 : resolve a.eval { callee := .invoke x nm, args := xs, argTypes := ts } ty = pure { target := .fn (.method nm) #[], args := #[a.eval x] ++ xs.map a.eval } := rfl
  rw [e2, hx, hxs]
  have e3 : (#[Value.iface t v] ++ vs).extract 1 (#[Value.iface t v] ++ vs).size = vs := by simp
  have h1 := hf (#[r] ++ vs) w
  have e4 : (#[Value.iface t v] ++ vs)[0]? = some (.iface t v) := by rw [Array.getElem?_append_left (by simp)]; rfl
  simp only [Sem.run_bind, Sem.run_pure, Result.andThen_ok]
  unfold invoke callMethod
  simp only [e4, e3]
  simp [Sem.run_bind, hm, h1]
theorem rn_fld_72_1 {x : Operand} {S o : Nat} (hx : a.eval x = .pointer (some ⟨S, o, none⟩)) (h : T (.pointer (some ⟨S, o + 1, none⟩)) w) : Runs Tryd.prog ⟨dst, .fieldAddr 72 x 1, ty, pos, after, g⟩ a w T := by
  refine Runs.value (v := .pointer (some ⟨S, o + 1, none⟩)) (w' := w) ?_ h
  simp only [execOp, hx]
  go_simp
theorem rn_fld_43_1 {x : Operand} {S o : Nat} (hx : a.eval x = .pointer (some ⟨S, o, none⟩)) (h : T (.pointer (some ⟨S, o + 1, none⟩)) w) : Runs Tryd.prog ⟨dst, .fieldAddr 43 x 1, ty, pos, after, g⟩ a w T := by
  refine Runs.value (v := .pointer (some ⟨S, o + 1, none⟩)) (w' := w) ?_ h
  simp only [execOp, hx]
  go_simp
theorem rn_idxa_30 {x y : Operand} {b o : Nat} (i : Nat) (hx : a.eval x = .pointer (some ⟨b, o, none⟩)) (hy : a.eval y = .int .i64 (i : Int)) (hi : i < 8) (h : T (.pointer (some ⟨b, o + i, none⟩)) w) : Runs Tryd.prog ⟨dst, .indexAddr 30 x y, ty, pos, after, g⟩ a w T := by
  have hi2 : (i : Int) < 8 := by omega
  refine Runs.value (v := .pointer (some ⟨b, o + i, none⟩)) (w' := w) ?_ h
  simp only [execOp, hx, hy]
  go_simp
theorem rn_st_29 {x y : Operand} {q : Addr} {z : Int} {v' : Value} (hx : a.eval x = .pointer (some q)) (hy : a.eval y = (.int .i16 z)) (hc : w.cell? q = some v') (hf : w.frozen? q = false) (h : T undef (w.setCell q (.int .i16 z))) : Runs Tryd.prog ⟨dst, .store 29 x y, ty, pos, after, g⟩ a w T := by
  refine Runs.skip (w' := w.setCell q (.int .i16 z)) ?_ h
  simp only [execOp, hx, hy]
  go_simp
theorem rn_fld_72_2 {x : Operand} {S o : Nat} (hx : a.eval x = .pointer (some ⟨S, o, none⟩)) (h : T (.pointer (some ⟨S, o + 2, none⟩)) w) : Runs Tryd.prog ⟨dst, .fieldAddr 72 x 2, ty, pos, after, g⟩ a w T := by
  refine Runs.value (v := .pointer (some ⟨S, o + 2, none⟩)) (w' := w) ?_ h
  simp only [execOp, hx]
  go_simp
theorem rn_ld_29 {x : Operand} {q : Addr} {v : Value} (hx : a.eval x = .pointer (some q)) (hc : w.cell? q = some v) (h : T v w) : Runs Tryd.prog ⟨dst, .load 29 x, ty, pos, after, g⟩ a w T := by
  refine Runs.value (v := v) (w' := w) ?_ h
  simp only [execOp, hx]
  go_simp
theorem runs_c3 {f : FuncId} {x y z : Operand} {ts : Array TypeId} {v u t : Value} (hf : Enters Tryd.prog f) (hx : a.eval x = v) (hy : a.eval y = u) (hz : a.eval z = t) (h : Calls Tryd.prog f #[v, u, t] w fun e w'' => ∃ v, e = .returned v ∧ T v w'') : Runs Tryd.prog ⟨dst, .call { callee := .value (.func f), args := #[x, y, z], argTypes := ts }, ty, pos, after, g⟩ a w T :=
  runs_call hf (by simp [hx, hy, hz]) h
theorem rn_inv1 {f : FuncId} {x y : Operand} {nm : String} {ts : Array TypeId} {t : TypeId} {v r u : Value} (hf : Enters Tryd.prog f) (hm : ∀ w, (method (153 + Made.depth) t v nm).run Tryd.prog w = .ok (f, r) w) (hx : a.eval x = .iface t v) (hy : a.eval y = u)
    (h : Calls Tryd.prog f #[r, u] w fun e w'' => ∃ v, e = .returned v ∧ T v w'') : Runs Tryd.prog ⟨dst, .call { callee := .invoke x nm, args := #[y], argTypes := ts }, ty, pos, after, g⟩ a w T := rn_inv hf hm hx (vs := #[u]) (by simp [hy]) h
theorem rn_inv2 {f : FuncId} {x y z : Operand} {nm : String} {ts : Array TypeId} {t : TypeId} {v r u s : Value} (hf : Enters Tryd.prog f) (hm : ∀ w, (method (153 + Made.depth) t v nm).run Tryd.prog w = .ok (f, r) w) (hx : a.eval x = .iface t v) (hy : a.eval y = u) (hz : a.eval z = s)
    (h : Calls Tryd.prog f #[r, u, s] w fun e w'' => ∃ v, e = .returned v ∧ T v w'') : Runs Tryd.prog ⟨dst, .call { callee := .invoke x nm, args := #[y, z], argTypes := ts }, ty, pos, after, g⟩ a w T := rn_inv hf hm hx (vs := #[u, s]) (by simp [hy, hz]) h
theorem rn_fld_72_0 {x : Operand} {S o : Nat} (hx : a.eval x = .pointer (some ⟨S, o, none⟩)) (h : T (.pointer (some ⟨S, o, none⟩)) w) : Runs Tryd.prog ⟨dst, .fieldAddr 72 x 0, ty, pos, after, g⟩ a w T := by
  refine Runs.value (v := .pointer (some ⟨S, o, none⟩)) (w' := w) ?_ h
  simp only [execOp, hx]
  go_simp
theorem rn_idxa_109 {x y : Operand} {b o : Nat} (i : Nat) (hx : a.eval x = .pointer (some ⟨b, o, none⟩)) (hy : a.eval y = .int .i64 (i : Int)) (hi : i < 31) (h : T (.pointer (some ⟨b, o + i * 2, none⟩)) w) : Runs Tryd.prog ⟨dst, .indexAddr 109 x y, ty, pos, after, g⟩ a w T := by
  have hi2 : (i : Int) < 31 := by omega
  refine Runs.value (v := .pointer (some ⟨b, o + i * 2, none⟩)) (w' := w) ?_ h
  simp only [execOp, hx, hy]
  go_simp
theorem rn_fld_108_1 {x : Operand} {S o : Nat} (hx : a.eval x = .pointer (some ⟨S, o, none⟩)) (h : T (.pointer (some ⟨S, o + 1, none⟩)) w) : Runs Tryd.prog ⟨dst, .fieldAddr 108 x 1, ty, pos, after, g⟩ a w T := by
  refine Runs.value (v := .pointer (some ⟨S, o + 1, none⟩)) (w' := w) ?_ h
  simp only [execOp, hx]
  go_simp
theorem rn_ext {x : Operand} {k : Nat} {vs : Array Value} {v : Value} (hx : a.eval x = .tuple vs) (hk : vs[k]? = some v) (h : T v w) : Runs Tryd.prog ⟨dst, .extract x k, ty, pos, after, g⟩ a w T := by
  refine Runs.value (v := v) (w' := w) ?_ h
  simp only [execOp, hx]
  go_simp
theorem rn_fld_72_3 {x : Operand} {S o : Nat} (hx : a.eval x = .pointer (some ⟨S, o, none⟩)) (h : T (.pointer (some ⟨S, o + 3, none⟩)) w) : Runs Tryd.prog ⟨dst, .fieldAddr 72 x 3, ty, pos, after, g⟩ a w T := by
  refine Runs.value (v := .pointer (some ⟨S, o + 3, none⟩)) (w' := w) ?_ h
  simp only [execOp, hx]
  go_simp
theorem rn_fld_43_2 {x : Operand} {S o : Nat} (hx : a.eval x = .pointer (some ⟨S, o, none⟩)) (h : T (.pointer (some ⟨S, o + 9, none⟩)) w) : Runs Tryd.prog ⟨dst, .fieldAddr 43 x 2, ty, pos, after, g⟩ a w T := by
  refine Runs.value (v := .pointer (some ⟨S, o + 9, none⟩)) (w' := w) ?_ h
  simp only [execOp, hx]
  go_simp
theorem rn_idxa_31 {x y : Operand} {b o : Nat} (i : Nat) (hx : a.eval x = .pointer (some ⟨b, o, none⟩)) (hy : a.eval y = .int .i64 (i : Int)) (hi : i < 64) (h : T (.pointer (some ⟨b, o + i, none⟩)) w) : Runs Tryd.prog ⟨dst, .indexAddr 31 x y, ty, pos, after, g⟩ a w T := by
  have hi2 : (i : Int) < 64 := by omega
  refine Runs.value (v := .pointer (some ⟨b, o + i, none⟩)) (w' := w) ?_ h
  simp only [execOp, hx, hy]
  go_simp
end
theorem en_un : Enters Tryd.prog 68 := fun args w => by go_simp
theorem en_bi : Enters Tryd.prog 69 := fun args w => by go_simp
theorem en_st : Enters Tryd.prog 35 := fun args w => by go_simp
theorem en_se : Enters Tryd.prog 38 := fun args w => by go_simp
theorem en_em : Enters Tryd.prog 39 := fun args w => by go_simp
theorem en_ou : Enters Tryd.prog 40 := fun args w => by go_simp
theorem unary_g1 (a : Int) (w : World) : Calls Tryd.prog 68 #[.int .i64 1, .int .i16 a] w fun e w' => e = .returned (.tuple #[.int .i16 (unv 1 a), .int .i64 0]) ∧ Grew w w' := (unary_1 a w).mono fun _ _ h => ⟨h.1, h.2 ▸ Grew.refl _⟩
theorem unary_g2 (a : Int) (w : World) : Calls Tryd.prog 68 #[.int .i64 2, .int .i16 a] w fun e w' => e = .returned (.tuple #[.int .i16 (unv 2 a), .int .i64 0]) ∧ Grew w w' := (unary_2 a w).mono fun _ _ h => ⟨h.1, h.2 ▸ Grew.refl _⟩
theorem binary_g3 (a b : Int) (w : World) : Calls Tryd.prog 69 #[.int .i64 3, .int .i16 a, .int .i16 b] w fun e w' => e = .returned (.tuple #[.int .i16 (binv 3 a b), .int .i64 0]) ∧ Grew w w' := (binary_3 a b w).mono fun _ _ h => ⟨h.1, h.2 ▸ Grew.refl _⟩
theorem binary_g4 (a b : Int) (w : World) : Calls Tryd.prog 69 #[.int .i64 4, .int .i16 a, .int .i16 b] w fun e w' => e = .returned (.tuple #[.int .i16 (binv 4 a b), .int .i64 0]) ∧ Grew w w' := (binary_4 a b w).mono fun _ _ h => ⟨h.1, h.2 ▸ Grew.refl _⟩
theorem binary_g5 (a b : Int) (w : World) : Calls Tryd.prog 69 #[.int .i64 5, .int .i16 a, .int .i16 b] w fun e w' => e = .returned (.tuple #[.int .i16 (binv 5 a b), .int .i64 0]) ∧ Grew w w' := (binary_5 a b w).mono fun _ _ h => ⟨h.1, h.2 ▸ Grew.refl _⟩
theorem binary_g6 (a b : Int) (w : World) : Calls Tryd.prog 69 #[.int .i64 6, .int .i16 a, .int .i16 b] w fun e w' => e = .returned (.tuple #[.int .i16 (binv 6 a b), .int .i64 0]) ∧ Grew w w' := (binary_6 a b w).mono fun _ _ h => ⟨h.1, h.2 ▸ Grew.refl _⟩
theorem binary_g7 (a b : Int) (w : World) : Calls Tryd.prog 69 #[.int .i64 7, .int .i16 a, .int .i16 b] w fun e w' => e = .returned (.tuple #[.int .i16 (binv 7 a b), .int .i64 0]) ∧ Grew w w' := (binary_7 a b w).mono fun _ _ h => ⟨h.1, h.2 ▸ Grew.refl _⟩
theorem binary_g8 (a b : Int) (w : World) : Calls Tryd.prog 69 #[.int .i64 8, .int .i16 a, .int .i16 b] w fun e w' => e = .returned (.tuple #[.int .i16 (binv 8 a b), .int .i64 0]) ∧ Grew w w' := (binary_8 a b w).mono fun _ _ h => ⟨h.1, h.2 ▸ Grew.refl _⟩
theorem binary_g10 (a b : Int) (w : World) : Calls Tryd.prog 69 #[.int .i64 10, .int .i16 a, .int .i16 b] w fun e w' => e = .returned (.tuple #[.int .i16 (binv 10 a b), .int .i64 0]) ∧ Grew w w' := (binary_10 a b w).mono fun _ _ h => ⟨h.1, h.2 ▸ Grew.refl _⟩
theorem binary_g11 (a b : Int) (w : World) : Calls Tryd.prog 69 #[.int .i64 11, .int .i16 a, .int .i16 b] w fun e w' => e = .returned (.tuple #[.int .i16 (binv 11 a b), .int .i64 0]) ∧ Grew w w' := (binary_11 a b w).mono fun _ _ h => ⟨h.1, h.2 ▸ Grew.refl _⟩
end Go.Proofs.YtbhglpiiabpdjaaDoor
