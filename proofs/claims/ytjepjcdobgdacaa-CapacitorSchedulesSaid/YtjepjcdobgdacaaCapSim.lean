/-
  LAYER 8 (capacitor): the simulation in memory; what its steps change; operations by posts.
-/
import Derived.Test.YtjepjcdobgdacaaCapOps
import Derived.Test.YtjepjcdobgdacaaCapSched
import Derived.Test.YtjepjcdobgdacaaPostsFr
namespace Go.Proofs.Ytjepjcdobgdacaa
open Go Go.RowKit Go.IntWalk
set_option linter.unusedSimpArgs false
set_option maxRecDepth 8000

/-- Behind it: nothing below N has changed, nor any block whose cells are of another type than t1 and t2. -/
structure Kt (t1 t2 : TypeId) (N : Nat) (w w' : World) : Prop where
  below : Below N w w'
  other : ∀ (k : Nat) (cs : Array Value) (e : TypeId), w.heap[k]? = some (Obj.cells cs e) → e ≠ t1 → e ≠ t2 → w'.heap[k]? = some (Obj.cells cs e)
theorem Kt.refl (t1 t2 : TypeId) (N : Nat) (w : World) : Kt t1 t2 N w w := ⟨Below.refl _ _, fun _ _ _ h _ _ => h⟩
theorem Kt.trans {t1 t2 : TypeId} {N : Nat} {a b c : World} (h : Kt t1 t2 N a b) (h' : Kt t1 t2 N b c) : Kt t1 t2 N a c := ⟨h.below.trans h'.below, fun k cs e hk h1 h2 => h'.other k cs e (h.other k cs e hk h1 h2) h1 h2⟩
theorem Kt.of_grew {t1 t2 : TypeId} {N : Nat} {a b : World} (h : Grew a b) (hN : N ≤ a.heap.size) : Kt t1 t2 N a b := ⟨Below.mono h hN, fun _ _ _ hk _ _ => h.heap hk⟩
theorem Kt.of_chg {t1 t2 : TypeId} {N : Nat} {a b : World} {S : Nat → Prop} (h : Chg a b S) (hN : N ≤ a.heap.size) (hS : ∀ k, S k → N ≤ k ∧ ∀ (cs : Array Value) (e : TypeId), a.heap[k]? = some (Obj.cells cs e) → e = t1 ∨ e = t2) : Kt t1 t2 N a b :=
  ⟨h.below hN fun k hk => (hS k hk).1, fun k cs e hk h1 h2 => (h.block k (lt_of_heap hk) (fun hs => by
    rcases (hS k hs).2 cs e hk with h | h
    · exact h1 h
    · exact h2 h)).trans hk⟩
theorem Kt.size {t1 t2 : TypeId} {N : Nat} {a b : World} (h : Kt t1 t2 N a b) : a.heap.size ≤ b.heap.size := h.below.size
/-- The simulation s at S, what lies in memory of its own above N. -/
structure SimS (N S : Nat) (ld : Int) (s : Sm) (w : World) : Prop where
  ex : ∃ p c, CapB S s.x [.int .i64 ld, .int .i64 s.en, .slice p s.L.length c] 75 w ∧ OwI w N 67 (.slice p s.L.length c) s.L
  far : N ≤ S
theorem OwI.typed {w : World} {base : Nat} {e : TypeId} {p : Option Addr} {n c : Nat} {xs : List It} (h : OwI w base e (.slice p n c) xs) : ∀ a, p = some a → base ≤ a.block ∧ ∃ cs : Array Value, w.heap[a.block]? = some (Obj.cells cs e) := by
  intro a ha
  subst ha
  rcases h.2 with ⟨hv, _⟩ | ⟨g, cap, cur, hv, h1, hg, _⟩
  · simp at hv
  · simp only [Value.slice.injEq, Option.some.injEq] at hv
    obtain ⟨rfl, -⟩ := hv
    exact ⟨h1, _, hg⟩
theorem OwI.chg {w w' : World} {base : Nat} {e : TypeId} {p : Option Addr} {n c : Nat} {xs : List It} (h : OwI w base e (.slice p n c) xs) {S : Nat → Prop} (hc : Chg w w' S) (hs : ∀ a, p = some a → ¬ S a.block) : OwI w' base e (.slice p n c) xs :=
  OwI.keep h fun a ha hl => hc.block a.block hl (hs a ha)
/-- A slice of periods lies elsewhere than a block of another type. -/
theorem OwI.apart {w : World} {base b : Nat} {e e' : TypeId} {cs : Array Value} {p : Option Addr} {n c : Nat} {xs : List It} (h : OwI w base e (.slice p n c) xs) (hb : w.heap[b]? = some (.cells cs e')) (hne : e ≠ e') : ∀ a, p = some a → a.block ≠ b := fun a ha hab => by
  obtain ⟨_, cs', hk⟩ := h.typed a ha
  rw [hab, hb] at hk
  simp only [Option.some.injEq, Obj.cells.injEq] at hk
  exact hne hk.2.1.symm
/-- The second number of one element is stored. -/
theorem OwI.set2 {w : World} {base b n c : Nat} {e : TypeId} {xs : List It} (h : OwI w base e (.slice (some ⟨b, 0, none⟩) n c) xs) (i : Nat) (v : Int) (hi : i < xs.length) :
    OwI (w.setCell ⟨b, i * 2 + 1, none⟩ (.int .i64 v)) base e (.slice (some ⟨b, 0, none⟩) n c) (xs.set i ((xs.getD i (0, 0)).1, v)) := by
  obtain ⟨rfl, _⟩ := h.rd
  have h2 : World.ownsRow w base e 2 (.slice (some ⟨b, 0, none⟩) xs.length c) xs.length (flat xs) := h
  have h4 := (World.ownsRow.stored h2 (i * 2 + 1) (.int .i64 v)).1
  show World.ownsRow _ _ _ _ _ _ _
  rw [List.length_set, flat_set xs i _ hi]
  have e1 : (flat xs).set (i * 2) (.int .i64 (xs.getD i (0, 0)).1) = flat xs := by
    have hx : xs[i]? = some (xs.getD i (0, 0)) := by simp [List.getD, hi]
    have h0 := (flat_get hx).1
    obtain ⟨hl, h0⟩ := List.getElem?_eq_some_iff.1 h0
    rw [← h0]
    exact List.set_getElem_self _
  rw [e1]
  exact h4
/-- A slice of one element, made above N. -/
def One (x : It) (N : Nat) (v : Value) (w : World) : Prop := ∃ B, v = .slice (some ⟨B, 0, none⟩) 1 1 ∧ N ≤ B ∧ RdI w (some ⟨B, 0, none⟩) 1 [x]
theorem One.grew {x : It} {N : Nat} {v : Value} {w w' : World} (h : One x N v w) (hg : Grew w w') : One x N v w' := by
  obtain ⟨B, h1, h2, h3⟩ := h
  exact ⟨B, h1, h2, h3.kept hg⟩
theorem One.made (x : It) {N : Nat} (w : World) (hN : N ≤ w.heap.size) (e : TypeId) : One x N (.slice (some ⟨w.heap.size, 0, none⟩) 1 1) (w.alloc (.cells #[.int .i64 x.1, .int .i64 x.2] e)) :=
  ⟨_, rfl, hN, RdI.made w [x] 1 _ _ _ rfl rfl (by omega)⟩
theorem infoP : (Try.prog.info? 67).map (fun i => (i.zero, i.size, i.bytes)) = some (some (itv (0, 0)), 2, 16) := by kernel_rfl
theorem infoSt : (Try.prog.info? 53).map (fun i => (i.zero, i.size, i.bytes)) = some (some (itv (0, 0)), 2, 16) := by kernel_rfl
theorem Chg.of_grown {a b : World} {row : Option Nat} (h : a.grownBy b row) : Chg a b (fun k => row = some k) := ⟨h.os, h.tape, h.output, h.size, fun k hk hs => h.block k hk (fun e => hs e.symm)⟩
theorem ownBlock_slice2 (p : Option Addr) (n c : Nat) : (Value.slice p n c).ownBlock = p.map (·.block) := by cases p <;> rfl
section
variable {dst : Option Tmp} {ty : TypeId} {pos : String} {after : Array Edge} {g : Option (Nat × Bool)} {a : Act} {w : World} {T : Value → World → Prop}
theorem runs_fldSim0 {o : Operand} {S : Nat} (hx : a.eval o = .pointer (some ⟨S, 0, none⟩)) (h : T (.pointer (some ⟨S, 0, none⟩)) w) : Runs Try.prog ⟨dst, .fieldAddr 75 o 0, ty, pos, after, g⟩ a w T := by
  refine Runs.value (v := .pointer (some ⟨S, 0, none⟩)) (w' := w) ?_ h
  simp only [execOp, hx]
  go_simp
theorem runs_fldSim1 {o : Operand} {S : Nat} (hx : a.eval o = .pointer (some ⟨S, 0, none⟩)) (h : T (.pointer (some ⟨S, 5, none⟩)) w) : Runs Try.prog ⟨dst, .fieldAddr 75 o 1, ty, pos, after, g⟩ a w T := by
  refine Runs.value (v := .pointer (some ⟨S, 5, none⟩)) (w' := w) ?_ h
  simp only [execOp, hx]
  go_simp
theorem runs_fldSim3 {o : Operand} {S : Nat} (hx : a.eval o = .pointer (some ⟨S, 0, none⟩)) (h : T (.pointer (some ⟨S, 7, none⟩)) w) : Runs Try.prog ⟨dst, .fieldAddr 75 o 3, ty, pos, after, g⟩ a w T := by
  refine Runs.value (v := .pointer (some ⟨S, 7, none⟩)) (w' := w) ?_ h
  simp only [execOp, hx]
  go_simp
theorem runs_fldSim2 {o : Operand} {S : Nat} (hx : a.eval o = .pointer (some ⟨S, 0, none⟩)) (h : T (.pointer (some ⟨S, 6, none⟩)) w) : Runs Try.prog ⟨dst, .fieldAddr 75 o 2, ty, pos, after, g⟩ a w T := by
  refine Runs.value (v := .pointer (some ⟨S, 6, none⟩)) (w' := w) ?_ h
  simp only [execOp, hx]
  go_simp
theorem runs_ld54 {o : Operand} {q : Addr} {p : Option Addr} {n c : Nat} (hx : a.eval o = .pointer (some q)) (hc : w.cell? q = some (.slice p n c)) (h : T (.slice p n c) w) : Runs Try.prog ⟨dst, .load 54 o, ty, pos, after, g⟩ a w T := by
  refine Runs.value (v := .slice p n c) (w' := w) ?_ h
  simp only [execOp, hx]
  go_simp
theorem runs_bld67 {x : Nat} {b : Int} (hx : a.eval (.tmp x) = .int .i64 b) (h : T (itv (b, 0)) w) : Runs Try.prog ⟨dst, .build 67 #[(0, .tmp x)], ty, pos, after, g⟩ a w T := by
  rw [slot_eval, ← slot_get] at hx
  refine Runs.value (v := itv (b, 0)) (w' := w) ?_ h
  simp only [execOp]
  go_simp
theorem runs_bsP {y : Nat} {x : It} (hx : a.eval (.tmp y) = itv x) (h : T (.slice (some ⟨w.heap.size, 0, none⟩) 1 1) (w.alloc (.cells #[.int .i64 x.1, .int .i64 x.2] 67))) :
    Runs Try.prog ⟨dst, .buildSlice 54 1 #[(0, .tmp y)], ty, pos, after, g⟩ a w T := by
  rw [slot_eval, ← slot_get] at hx
  refine Runs.value (v := .slice (some ⟨w.heap.size, 0, none⟩) 1 1) (w' := w.alloc (.cells #[.int .i64 x.1, .int .i64 x.2] 67)) ?_ h
  simp only [execOp]
  go_simp
theorem runs_appendP {s y : Nat} {p p2 : Option Addr} {n c n2 c2 base : Nat} {xs ys : List It} (hs : a.eval (.tmp s) = .slice p n c) (hy : a.eval (.tmp y) = .slice p2 n2 c2) (hO : OwI w base 67 (.slice p n c) xs) (hR : RdI w p2 c2 ys)
    (hl : ys.length = n2) (hsz : xs.length + ys.length ≤ 2000000) (hb : base ≤ w.heap.size)
    (h : ∀ p' c' w', OwI w' base 67 (.slice p' (n + n2) c') (xs ++ ys) → w.grownBy w' (Value.ownBlock (.slice p n c)) → (p'.map (·.block) = p.map (·.block) ∨ p'.map (·.block) = some w.heap.size) → T (.slice p' (n + n2) c') w') :
    Runs Try.prog ⟨dst, .call { callee := .builtin .append, args := #[.tmp s, .tmp y], argTypes := #[54, 54] }, ty, pos, after, g⟩ a w T := by
  obtain ⟨v', w', hrun, h2, _, h4, h5⟩ := run_append_its (P := Try.prog) 54 ty base 67 (itv (0, 0)) 16 Try.underlying54 infoP rfl (.slice p n c) xs hO p2 n2 c2 ys hl hR (by omega) (by omega) hb
  obtain ⟨hn, _⟩ := hO.rd
  obtain ⟨p', c', rfl, _, _⟩ := h2.parts
  rw [List.length_append, ← hn, hl] at h2 hrun h5
  rw [ownBlock_slice2, ownBlock_slice2] at h5
  refine Runs.value (v := .slice p' (n + n2) c') (w' := w') ?_ (h p' c' w' h2 h4 h5)
  simp [execOp, resolve, invoke, builtin, hs, hy, hrun, Result.andThen]
theorem runs_stoP {y z q k : Nat} {p : Option Addr} {n c : Nat} {u : Value} (hx : a.eval (.tmp y) = .pointer (some ⟨q, k, none⟩)) (hz : a.eval (.tmp z) = .slice p n c) (hc : w.cell? ⟨q, k, none⟩ = some u) (hf : w.frozen? ⟨q, k, none⟩ = false) (h : T undef (w.setCell ⟨q, k, none⟩ (.slice p n c))) :
    Runs Try.prog ⟨dst, .store 54 (.tmp y) (.tmp z), ty, pos, after, g⟩ a w T := by
  rw [slot_eval, ← slot_get] at hx hz
  refine Runs.skip (w' := w.setCell ⟨q, k, none⟩ (.slice p n c)) ?_ h
  simp only [execOp]
  go_simp
end
section
variable {P : Program} {id : Nat} {ops : Array Oper} {Q : Exit → Act → World → Prop} {a0 : Act} {w0 : World}
theorem wp_grew_free (f x d : Nat) (v : Value) (n : Nat) (sl : List (Option Nat)) (D : List Bool) (ps : List (Value → World → Prop)) (hm : P.follows .mixedOrders = true) (hok : regionOkN ops n sl D = true) (htl : (decide (n ≤ ops.size) && tailOkF ops n [f]) = true) (hD : D.length = a0.tmps.size)
    (hf : (match ops[f]? with | some o => (match o.op with | .move (.tmp y) => decide (y = x) | _ => false) && o.guard.isNone && (o.dst == some d) && o.after.isEmpty | none => false) = true) (hns : Region.noSelect ops = true)
    (hfree : Region.free .any ops (Array.replicate ops.size false) f = true) (hready : (Region.ready .any ops (Array.replicate ops.size false)).contains f = true) (hfn : f < n) (hv : slot a0 x = v) (hQ : ∀ c a w, Q (.panic c) (a.put (some d) v) w → Q (.panic c) a w)
    (hps : Monos ps) (hF0 : postAt ps f v w0.drew)
    (hs : Steps P Grew (postAt ps) sl (mixA D a0) w0.drew 0 (ops.toList.take n)) (hend : ∀ u w, Grew w0.drew w → (∀ i, i < n → postAt ps i (uval sl u i) w) → wpAny P .any ops Q (ops.size - n) (listedN n ops.size) (mixA D a0 u) w) : (Code.region id ops true).wp P Q a0 w0 :=
  wp_region_free f x d v n sl D Grew (postAt ps) hm hok htl hD hf hns hfree hready hfn hv hQ Grew.refl Grew.trans hps.at hF0 hs hend
end
end Go.Proofs.Ytjepjcdobgdacaa
