/-
  LAYER 6 (deadlinequeue): for the statement Monotone: slices of items cut and joined, at any order.
-/
import Derived.Test.YtjcoghjkjnhljaaDqLaw6
import Derived.ArgAppend
namespace Go.Proofs.Ytjcoghjkjnhljaa
open Go Go.RowKit Go.IntWalk Go.Sort Go.ChangeShapes Go.WideShapes Go.ChangeAt
set_option maxRecDepth 8000
set_option linter.unusedSimpArgs false

theorem elemI : Try.prog.elem 39 = 32 := by kernel_rfl
theorem underI : Try.prog.underlying 39 = some (.slice (Try.prog.elem 39)) := by rw [elemI]; exact Try.underlying39
theorem sizeI (w : World) : (sizeOf (Try.prog.elem 39)).run Try.prog w = .ok 2 w := by rw [elemI]; kernel_rfl
section
variable {dst : Option Tmp} {ty : TypeId} {pos : String} {after : Array Edge} {g : Option (Nat × Bool)} {a : Act} {w : World} {T : Value → World → Prop}
theorem runs_lit0 (h : ∀ w', Grew w w' → T (.slice (some ⟨w.heap.size, 0, none⟩) 0 0) w') : Runs Try.prog ⟨dst, .buildSlice 39 0 #[], ty, pos, after, g⟩ a w T := by
  refine Runs.value (v := .slice (some ⟨w.heap.size, 0, none⟩) 0 0) (w' := w.alloc (.cells #[] 32)) ?_ (h _ ((Grew.refl w).alloc _))
  simp only [execOp]
  go_simp
theorem cut0_two (p : Option Addr) (c : Nat) : (if c = 0 then p else p.map (·.add (0 * 2))) = p := by
  split
  · rfl
  · cases p
    · rfl
    · rename_i ad
      obtain ⟨b, o, s⟩ := ad
      simp [Addr.add]
theorem runs_top {x y : Nat} {p : Option Addr} {n c k : Nat} (hx : a.eval (.tmp x) = .slice p n c) (hy : a.eval (.tmp y) = .int .i64 (k : Int)) (hk : k ≤ n) (hc : n ≤ c) (h : T (.slice p k c) w) :
    Runs Try.prog ⟨dst, .slice 39 (.tmp x) none (some (.tmp y)) none, ty, pos, after, g⟩ a w T := by
  have hrun : (Instr.sliceAt 39 (.slice p n c) none (some (.int .i64 (k : Int))) none).run Try.prog w = .ok (.slice p k c) w := by
    rw [run_sliceAt_slice w 39 _ _ _ _ underI, run_slice_h w 39 p n c underI .i64 k (by omega) (by omega), sizeI]
    simp only [Result.andThen, Int.toNat_natCast]
    unfold sliced
    rw [cut0_two, Nat.sub_zero, Nat.sub_zero]
  refine Runs.value (v := .slice p k c) (w' := w) ?_ h
  have e : execOp a.eval ⟨dst, .slice 39 (.tmp x) none (some (.tmp y)) none, ty, pos, after, g⟩ = (do let v ← Instr.sliceAt 39 (a.eval (.tmp x)) none (some (a.eval (.tmp y))) none; pure (.value v)) := rfl
  rw [e, hx, hy]
  simp [hrun, Result.andThen]
theorem runs_tl {x y : Nat} {p : Option Addr} {n c k : Nat} (hx : a.eval (.tmp x) = .slice p n c) (hy : a.eval (.tmp y) = .int .i64 (k : Int)) (hk : k ≤ n) (h : T (.slice (if c = k then p else p.map (·.add (k * 2))) (n - k) (c - k)) w) :
    Runs Try.prog ⟨dst, .slice 39 (.tmp x) (some (.tmp y)) none none, ty, pos, after, g⟩ a w T := by
  have hrun : (Instr.sliceAt 39 (.slice p n c) (some (.int .i64 (k : Int))) none none).run Try.prog w = .ok (.slice (if c = k then p else p.map (·.add (k * 2))) (n - k) (c - k)) w := by
    rw [run_sliceAt_slice w 39 _ _ _ _ underI, run_slice_l w 39 p n c underI .i64 k (by omega) (by omega), sizeI]
    simp only [Result.andThen, Int.toNat_natCast]
    rfl
  refine Runs.value (v := .slice (if c = k then p else p.map (·.add (k * 2))) (n - k) (c - k)) (w' := w) ?_ h
  have e : execOp a.eval ⟨dst, .slice 39 (.tmp x) (some (.tmp y)) none none, ty, pos, after, g⟩ = (do let v ← Instr.sliceAt 39 (a.eval (.tmp x)) (some (a.eval (.tmp y))) none none; pure (.value v)) := rfl
  rw [e, hx, hy]
  simp [hrun, Result.andThen]
/-- 'append([]Item{}, ys...)': nothing that was there changes. -/
theorem runs_appE {s y S : Nat} {p2 : Option Addr} {n2 c2 base : Nat} {ys : List It} (hs : a.eval (.tmp s) = .slice (some ⟨S, 0, none⟩) 0 0) (hy : a.eval (.tmp y) = .slice p2 n2 c2) (hR : RdI w p2 c2 ys)
    (hO : OwI w base 32 (.slice (some ⟨S, 0, none⟩) 0 0) []) (hl : ys.length = n2) (hsz : ys.length ≤ 2000000) (hb : base ≤ w.heap.size)
    (h : ∀ p' c' w', OwI w' base 32 (.slice p' n2 c') ys → Grew w w' → T (.slice p' n2 c') w') :
    Runs Try.prog ⟨dst, .call { callee := .builtin .append, args := #[.tmp s, .tmp y], argTypes := #[39, 39] }, ty, pos, after, g⟩ a w T := by
  subst hl
  have key : ∀ v' w', (Builtin.append_ #[39, 39] ty #[.slice (some ⟨S, 0, none⟩) 0 0, .slice p2 ys.length c2]).run Try.prog w = .ok v' w' → OwI w' base 32 v' ys → Grew w w' → Runs Try.prog ⟨dst, .call { callee := .builtin .append, args := #[.tmp s, .tmp y], argTypes := #[39, 39] }, ty, pos, after, g⟩ a w T := fun v' w' hrun h2 hg => by
    obtain ⟨p', c', rfl, _, _⟩ := h2.parts
    refine Runs.value (v := .slice p' ys.length c') (w' := w') ?_ (h p' c' w' h2 hg)
    simp [execOp, resolve, invoke, builtin, hs, hy, hrun, Result.andThen]
  obtain ⟨i, hi, hz0, hz1, hz2⟩ := info_parts infoI
  rcases Nat.eq_zero_or_pos ys.length with h0 | h0
  · obtain rfl : ys = [] := List.eq_nil_of_length_eq_zero h0
    refine key (.slice (some ⟨S, 0, none⟩) 0 0) w ?_ hO (Grew.refl _)
    cases p2 <;> simp [Builtin.append_, run_underlying Try.underlying39, sizeOf, typeInfo, hi, Builtin.lenOf, Builtin.firstCells, loadCells, loadCellsFrom, storeCells]
  · obtain ⟨b, o, rfl, hc⟩ := hR.cells h0
    obtain ⟨v', w', hrun, h2, h3⟩ := run_append_arg_grows (P := Try.prog) (w := w) 39 ty 32 i (itv (0, 0)) 2 16 Try.underlying39 hi hz0 hz1 hz2 rfl (by omega)
      ⟨S, 0, none⟩ 0 0 [] rfl (fun j u h => by simp at h) ⟨b, o, none⟩ ys.length c2 (flat ys) (flat_len ys) (fun j u hj => by
        obtain ⟨x, hx, hu⟩ := flat_at ys j u hj
        obtain ⟨h1, h2⟩ := hc _ x hx
        rw [Go.WideShapes.add_plain]
        rcases hu with ⟨e1, rfl⟩ | ⟨e1, rfl⟩
        · rw [e1]; exact h1
        · rw [e1, ← Nat.add_assoc]; exact h2) (by omega) (by simp only [maxLen]; omega) (by omega)
    rw [Nat.zero_add, List.nil_append] at h2
    exact key v' w' hrun (OwI.down (show OwI w' w.heap.size 32 v' ys from h2) hb) (Below.grown (Below.refl _ _) h3 (Nat.le_refl _) fun k hk => by cases hk)
end
theorem cut_sub (xs : List It) (k : Nat) : (xs.take k ++ xs.drop (k + 1)).Sublist xs := by
  have h : (xs.take k ++ xs.drop (k + 1)).Sublist (xs.take k ++ xs.drop k) := List.Sublist.append (List.Sublist.refl _) (by
    rw [show k + 1 = 1 + k by omega, ← List.drop_drop]
    first | exact List.drop_sublist 1 _ | (rw [List.drop_drop]; exact (by rw [Nat.add_comm, ← List.drop_drop]; exact List.drop_sublist 1 _)))
  rwa [List.take_append_drop] at h
end Go.Proofs.Ytjcoghjkjnhljaa
