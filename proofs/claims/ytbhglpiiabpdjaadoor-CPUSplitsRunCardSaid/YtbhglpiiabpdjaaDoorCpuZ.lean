/-
  LAYER 12 (cpu): an image and a case as parameters; what a step that fails leaves.
-/
import Derived.Test.YtbhglpiiabpdjaaDoorCpuSw
namespace Go.Proofs.YtbhglpiiabpdjaaDoor
open Go Go.RowKit Go.IntWalk Go.WideShapes
set_option linter.unusedSimpArgs false
set_option linter.unusedVariables false
set_option maxRecDepth 8000
section
variable {dst : Option Tmp} {ty : TypeId} {pos : String} {after : Array Edge} {g : Option (Nat × Bool)} {a : Act} {w : World} {T : Value → World → Prop}
end
theorem ImRows.up {M N : Nat} {w : World} {I : Im} {gp ap kp : Option Addr} {gc ac kc : Nat} (h : ImRows M w I gp ap kp gc ac kc) (hN : M ≤ N) : ImRows N w I gp ap kp gc ac kc :=
  ⟨h.gs, h.addr, h.code, fun hn a e => Nat.lt_of_lt_of_le (h.gl hn a e) hN, fun hn a e => Nat.lt_of_lt_of_le (h.al hn a e) hN, fun hn a e => Nat.lt_of_lt_of_le (h.kl hn a e) hN⟩
theorem ImRows.grew {M : Nat} {w w' : World} {I : Im} {gp ap kp : Option Addr} {gc ac kc : Nat} (h : ImRows M w I gp ap kp gc ac kc) (hg : Grew w w') : ImRows M w' I gp ap kp gc ac kc := h.chg (Chg.of_grew hg (fun _ => False)) fun _ h => h.elim
section
variable {s : St} {ys : List Value} {K : Nat} {e : TypeId} {w : World}
theorem case_st (hs : s.Ok) (h : Blk K (stv s ++ ys) e w) : w.rangeAt K 0 (stv s) := fun j v hv => by
  rw [Nat.zero_add, h.cell, List.getElem?_append_left (List.getElem?_eq_some_iff.1 hv).1]
  exact hv
theorem case_wd (hs : s.Ok) (h : Blk K (stv s ++ ys) e w) : w.rangeAt K 73 ys := fun j v hv => by
  rw [h.cell, List.getElem?_append_right (by rw [stv_len hs]; omega), stv_len hs, Nat.add_sub_cancel_left]
  exact hv
end
theorem sizeI : (Tryd.prog.info? 28).map (·.size) = some 12 := by kernel_rfl
theorem sizeW : (Tryd.prog.info? 37).map (·.size) = some 4 := by kernel_rfl
theorem zeroW (w : World) : (zeroValue 37).run Tryd.prog w = .ok (.agg #[.slice none 0 0, .slice none 0 0, .int .i64 0, .slice none 0 0]) w := by kernel_rfl
section
variable {ops : Array Oper} {rest : List Oper} {o : Oper} {a : Act} {Q : Exit → Act → World → Prop} {w : World}
theorem alloc_wd (hg : o.guard = none) (ho : o.op = .alloc 37) (h : ∀ w', Blk w.heap.size [.slice none 0 0, .slice none 0 0, .int .i64 0, .slice none 0 0] 37 w' → Grew w w' → wpList Tryd.prog ops Q rest (a.put o.dst (.pointer (some ⟨w.heap.size, 0, none⟩))) w') : wpList Tryd.prog ops Q (o :: rest) a w :=
  wpList_alloc_whole hg 37 ho _ zeroW (h _ (Blk.new w _ _) ((Grew.refl _).alloc _))
theorem store_wd (hg : o.guard = none) (x y : Operand) (ho : o.op = .store 37 x y) (b : Nat) (hx : a.eval x = .pointer (some ⟨b, 0, none⟩)) (v0 v1 v2 v3 : Value) {z0 z1 z2 z3 : Value} (h1 : (v0.oneCell' && (v1.oneCell' && (v2.oneCell' && v3.oneCell'))) = true) (hy : a.eval y = .agg #[v0, v1, v2, v3]) (hb : Blk b [z0, z1, z2, z3] 37 w)
    (h : ∀ w', Blk b [v0, v1, v2, v3] 37 w' → Chg w w' (fun k => k = b) → wpList Tryd.prog ops Q rest (a.put o.dst undef) w') : wpList Tryd.prog ops Q (o :: rest) a w := by
  refine wpList_store_mid hg 37 x y ho b 0 #[v0, v1, v2, v3] hx hy (hb.there rfl) (by rw [sizeW]; rfl) ?_ (h _ ?_ ?_)
  · simp only [Bool.and_eq_true] at h1
    exact all_oneCell_toArray (cs := [v0, v1, v2, v3]) fun v hv => by
      simp only [List.mem_cons, List.not_mem_nil, or_false] at hv
      rcases hv with rfl | rfl | rfl | rfl
      · exact h1.1
      · exact h1.2.1
      · exact h1.2.2.1
      · exact h1.2.2.2
  · exact hb.setAll (us := [v0, v1, v2, v3]) rfl
  · exact setCells_chg b [v0, v1, v2, v3] 0 w
end
/-- With a failure at call 1 or 2, as many calls have been made as the number says just if the step fails. -/
theorem outc_ne (op : Int) : outc op ≠ 4 ∧ outc op ≠ 5 := by
  unfold outc
  split
  · decide
  · split <;> decide
theorem call_okb (W : Wd) (k a b : Int) : (W.call k a b).okb = (((W.cs.length + 1 : Nat) : Int) != W.fl) := by
  unfold Wd.okb Wd.call
  simp
/-- What an instruction calls: nothing, and the power lasts; or one method. -/
theorem perf_calls (x : Cd) (n : Int) (s : St) (W : Wd) : ((perf x n s W).1 = true ∧ (perf x n s W).2.2.cs.length = W.cs.length) ∨ ((perf x n s W).2.2.cs.length = W.cs.length + 1 ∧ (perf x n s W).1 = (((W.cs.length + 1 : Nat) : Int) != W.fl)) := by
  show (fun r : Bool × St × Wd => (r.1 = true ∧ r.2.2.cs.length = W.cs.length) ∨ (r.2.2.cs.length = W.cs.length + 1 ∧ r.1 = (((W.cs.length + 1 : Nat) : Int) != W.fl))) (perf x n s W)
  have hc : ∀ (s' : St) (k a b : Int), (fun r : Bool × St × Wd => (r.1 = true ∧ r.2.2.cs.length = W.cs.length) ∨ (r.2.2.cs.length = W.cs.length + 1 ∧ r.1 = (((W.cs.length + 1 : Nat) : Int) != W.fl))) ((W.call k a b).okb, s', W.call k a b) := fun s' k a b => .inr ⟨W.call_len k a b, call_okb W k a b⟩
  have hst : ∀ (s' : St) n v, (fun r : Bool × St × Wd => (r.1 = true ∧ r.2.2.cs.length = W.cs.length) ∨ (r.2.2.cs.length = W.cs.length + 1 ∧ r.1 = (((W.cs.length + 1 : Nat) : Int) != W.fl))) ((W.store n v).1, s', (W.store n v).2) := fun s' n v => by
    have h1 := call_okb W 2 n v
    refine .inr ?_
    unfold Wd.store
    split
    · rename_i ho
      refine ⟨?_, by rw [← h1, ho]⟩
      show ((W.call 2 n v).put n v).cs.length = _
      unfold Wd.put
      split <;> exact W.call_len 2 n v
    · rename_i ho
      exact ⟨W.call_len 2 n v, by rw [← h1]; simpa using ho⟩
  unfold perf
  refine ite_both (fun r : Bool × St × Wd => (r.1 = true ∧ r.2.2.cs.length = W.cs.length) ∨ (r.2.2.cs.length = W.cs.length + 1 ∧ r.1 = (((W.cs.length + 1 : Nat) : Int) != W.fl))) (.inl ⟨rfl, rfl⟩) ?_
  refine ite_both (fun r : Bool × St × Wd => (r.1 = true ∧ r.2.2.cs.length = W.cs.length) ∨ (r.2.2.cs.length = W.cs.length + 1 ∧ r.1 = (((W.cs.length + 1 : Nat) : Int) != W.fl))) (.inl ⟨rfl, rfl⟩) ?_
  refine ite_both (fun r : Bool × St × Wd => (r.1 = true ∧ r.2.2.cs.length = W.cs.length) ∨ (r.2.2.cs.length = W.cs.length + 1 ∧ r.1 = (((W.cs.length + 1 : Nat) : Int) != W.fl))) (.inl ⟨rfl, rfl⟩) ?_
  refine ite_both (fun r : Bool × St × Wd => (r.1 = true ∧ r.2.2.cs.length = W.cs.length) ∨ (r.2.2.cs.length = W.cs.length + 1 ∧ r.1 = (((W.cs.length + 1 : Nat) : Int) != W.fl))) (.inl ⟨rfl, rfl⟩) ?_
  refine ite_both (fun r : Bool × St × Wd => (r.1 = true ∧ r.2.2.cs.length = W.cs.length) ∨ (r.2.2.cs.length = W.cs.length + 1 ∧ r.1 = (((W.cs.length + 1 : Nat) : Int) != W.fl))) (.inl ⟨rfl, rfl⟩) ?_
  refine ite_both (fun r : Bool × St × Wd => (r.1 = true ∧ r.2.2.cs.length = W.cs.length) ∨ (r.2.2.cs.length = W.cs.length + 1 ∧ r.1 = (((W.cs.length + 1 : Nat) : Int) != W.fl))) (.inr ⟨W.call_len _ _ _, call_okb W _ _ _⟩) ?_
  refine ite_both (fun r : Bool × St × Wd => (r.1 = true ∧ r.2.2.cs.length = W.cs.length) ∨ (r.2.2.cs.length = W.cs.length + 1 ∧ r.1 = (((W.cs.length + 1 : Nat) : Int) != W.fl))) (hst _ _ _) ?_
  refine ite_both (fun r : Bool × St × Wd => (r.1 = true ∧ r.2.2.cs.length = W.cs.length) ∨ (r.2.2.cs.length = W.cs.length + 1 ∧ r.1 = (((W.cs.length + 1 : Nat) : Int) != W.fl))) (.inl ⟨rfl, rfl⟩) ?_
  refine ite_both (fun r : Bool × St × Wd => (r.1 = true ∧ r.2.2.cs.length = W.cs.length) ∨ (r.2.2.cs.length = W.cs.length + 1 ∧ r.1 = (((W.cs.length + 1 : Nat) : Int) != W.fl))) (.inl ⟨rfl, rfl⟩) ?_
  refine ite_both (fun r : Bool × St × Wd => (r.1 = true ∧ r.2.2.cs.length = W.cs.length) ∨ (r.2.2.cs.length = W.cs.length + 1 ∧ r.1 = (((W.cs.length + 1 : Nat) : Int) != W.fl))) (.inl ⟨rfl, rfl⟩) ?_
  refine ite_both (fun r : Bool × St × Wd => (r.1 = true ∧ r.2.2.cs.length = W.cs.length) ∨ (r.2.2.cs.length = W.cs.length + 1 ∧ r.1 = (((W.cs.length + 1 : Nat) : Int) != W.fl))) (.inl ⟨rfl, rfl⟩) ?_
  refine ite_both (fun r : Bool × St × Wd => (r.1 = true ∧ r.2.2.cs.length = W.cs.length) ∨ (r.2.2.cs.length = W.cs.length + 1 ∧ r.1 = (((W.cs.length + 1 : Nat) : Int) != W.fl))) (.inr ⟨W.call_len 3 n 0, call_okb W 3 n 0⟩) ?_
  refine ite_both (fun r : Bool × St × Wd => (r.1 = true ∧ r.2.2.cs.length = W.cs.length) ∨ (r.2.2.cs.length = W.cs.length + 1 ∧ r.1 = (((W.cs.length + 1 : Nat) : Int) != W.fl))) (hc _ _ _ _) ?_
  refine ite_both (fun r : Bool × St × Wd => (r.1 = true ∧ r.2.2.cs.length = W.cs.length) ∨ (r.2.2.cs.length = W.cs.length + 1 ∧ r.1 = (((W.cs.length + 1 : Nat) : Int) != W.fl))) (hc _ _ _ _) ?_
  refine ite_both (fun r : Bool × St × Wd => (r.1 = true ∧ r.2.2.cs.length = W.cs.length) ∨ (r.2.2.cs.length = W.cs.length + 1 ∧ r.1 = (((W.cs.length + 1 : Nat) : Int) != W.fl))) (hc _ _ _ _) ?_
  refine ite_both (fun r : Bool × St × Wd => (r.1 = true ∧ r.2.2.cs.length = W.cs.length) ∨ (r.2.2.cs.length = W.cs.length + 1 ∧ r.1 = (((W.cs.length + 1 : Nat) : Int) != W.fl))) (hc _ _ _ _) ?_
  exact .inl ⟨rfl, rfl⟩
theorem step_back (I : Im) (s : St) (W : Wd) (h : (step I s W).2.1 = 4 ∨ (step I s W).2.1 = 5) : (step I s W).1 = s := by
  unfold step at h ⊢
  split
  · rfl
  · rename_i x hx
    rw [hx] at h
    dsimp only at h
    split
    · rename_i hv
      rw [if_pos hv] at h
      rw [go1_exe] at h ⊢
      split
      · rename_i he
        rw [if_pos he] at h
        have := outc_ne x.op
        rcases h with h | h
        · exact absurd h this.1
        · exact absurd h this.2
      · rfl
    · rfl
theorem step_fail (I : Im) (s : St) (W : Wd) (hc : W.cs.length = 0) (hf : W.fl = 1 ∨ W.fl = 2) :
    (step I s W).2.2.cs.length ≤ 2 ∧ ((((step I s W).2.2.cs.length : Int) == W.fl) = ((step I s W).2.1 == 4)) := by
  unfold step
  split
  · dsimp only
    rw [hc]
    rcases hf with h | h <;> rw [h] <;> decide
  · split
    · rename_i x _ _
      have hsp : (spend W x.op).cs.length = 1 := by unfold spend; rw [Wd.call_len, hc]
      have hso : (spend W x.op).okb = ((1 : Int) != W.fl) := by unfold spend; rw [call_okb, hc]; rfl
      have ho := outc_ne x.op
      have ho4 : (outc x.op == 4) = false := by simpa using ho.1
      unfold go1
      rw [hso]
      rcases hf with h | h
      · rw [h, if_neg (by decide)]
        dsimp only
        rw [hsp]
        decide
      · rw [h, if_pos (by decide)]
        dsimp only
        have hfl : (spend W x.op).fl = 2 := h
        rcases perf_calls x (opnd x s I).1 s (spend W x.op) with ⟨h1, h2⟩ | ⟨h1, h2⟩
        · rw [if_pos h1]
          dsimp only
          rw [h2, hsp, ho4]
          decide
        · rw [hsp, hfl] at h2
          rw [if_neg (by rw [h2]; decide)]
          dsimp only
          rw [h1, hsp]
          decide
    · dsimp only
      rw [hc]
      rcases hf with h | h <;> rw [h] <;> decide
theorem en_sml : Enters Tryd.prog 11 := fun args w => by go_simp
theorem en_cpy : Enters Tryd.prog 12 := fun args w => by go_simp
theorem en_awz : Enters Tryd.prog 10 := fun args w => by go_simp
theorem en_ownz : Enters Tryd.prog 13 := fun args w => by go_simp
theorem en_samez : Enters Tryd.prog 16 := fun args w => by go_simp
theorem en_swz : Enters Tryd.prog 17 := fun args w => by go_simp
end Go.Proofs.YtbhglpiiabpdjaaDoor
