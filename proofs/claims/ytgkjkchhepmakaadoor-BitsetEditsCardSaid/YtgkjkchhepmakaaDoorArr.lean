/-
  ARRAYS OF THE CALL'S OWN WHOSE EVERY CELL IS KNOWN (one-cell elements, the spare ones zero): append; what lies in other blocks stays.
-/
import Derived.Test.YtgkjkchhepmakaaDoorVals
import Derived.Deep.AppendSrc
import Derived.Deep.Heap
namespace Go.Proofs.YtgkjkchhepmakaaDoor
open Go Go.RowKit Go.ChangeShapes Go.WideShapes Go.ChangeAt

/-- Of the old blocks only S may have changed. -/
structure Hit (S : Nat) (w w' : World) : Prop where
  os : w'.os = w.os
  tape : w'.tape = w.tape
  output : w'.output = w.output
  size : w.heap.size ≤ w'.heap.size
  block : ∀ k, k < w.heap.size → k ≠ S → w'.heap[k]? = w.heap[k]?
theorem Hit.of_below {S : Nat} {a b : World} (h : Below a.heap.size a b) : Hit S a b := ⟨h.os, h.tape, h.output, h.size, fun k hk _ => h.block k hk⟩
theorem Hit.below {M S : Nat} {a b : World} (h : Hit S a b) (hS : M ≤ S) (hM : M ≤ a.heap.size) : Below M a b := ⟨h.os, h.tape, h.output, h.size, fun k hk => h.block k (by omega) (by omega)⟩
theorem Hit.set (S j : Nat) (w : World) (v : Value) : Hit S w (w.setCell ⟨S, j, none⟩ v) :=
  ⟨rfl, rfl, rfl, by simp [World.setCell], fun k _ hne => Go.Deep.blk_setCell_other w ⟨S, j, none⟩ v k hne⟩

/-- A slice header as a value. -/
def isSl : Value → Bool
  | .slice _ _ _ => true
  | _ => false
/-- Every cell of the block is a slice. -/
def AllSl (w : World) (g : Nat) : Prop := ∃ cs e, w.heap[g]? = some (.cells cs e (0, 0)) ∧ ∀ v ∈ cs, isSl v = true
theorem AllSl.free {w : World} {g : Nat} (h : AllSl w g) (j : Nat) : w.frozen? ⟨g, j, none⟩ = false := by
  obtain ⟨cs, e, h, _⟩ := h
  simp [World.frozen?, h]
theorem AllSl.lt {w : World} {g : Nat} (h : AllSl w g) : g < w.heap.size := by
  obtain ⟨cs, e, h, _⟩ := h
  exact (Array.getElem?_eq_some_iff.1 h).1
theorem AllSl.keep {w w' : World} {g : Nat} (h : AllSl w g) (hb : w'.heap[g]? = w.heap[g]?) : AllSl w' g := by
  obtain ⟨cs, e, h, h2⟩ := h
  exact ⟨cs, e, hb.trans h, h2⟩
theorem AllSl.no {w : World} {g b o : Nat} {v : Value} (h : AllSl w g) (hc : w.cell? ⟨b, o, none⟩ = some v) (hv : isSl v = false) : b ≠ g := by
  rintro rfl
  obtain ⟨cs, e, h, h2⟩ := h
  simp only [World.cell?, h] at hc
  have := h2 v (Array.mem_of_getElem? (by simpa using hc))
  rw [hv] at this
  cases this
/-- A slice of something else stays when such a block changes. -/
theorem Rd.hit {α : Type} {enc : α → Value} {w w' : World} {p : Option Addr} {c : Nat} {xs : List α} (h : Rd enc w p c xs) (he : ∀ u, isSl (enc u) = false) {S : Nat} (hb : Hit S w w') (hS : AllSl w S) : Rd enc w' p c xs :=
  ⟨h.cap, h.max, h.bare, fun hn => by
    obtain ⟨b, o, rfl, hc⟩ := h.cells hn
    refine ⟨b, o, rfl, fun i u hu => ?_⟩
    have h0 := hc i u hu
    exact (World.cell?_of_block (w := w) (w' := w') (a := ⟨b, o + i, none⟩) (hb.block b (World.block_lt_of_cell? _ _ h0) (hS.no h0 (he u)))).trans h0⟩

/-- The slice value v holds vs, in a row of the call's own; the spare cells are z. -/
def Arr (w : World) (e : TypeId) (z : Value) (v : Value) (vs : List Value) : Prop :=
  (v = .slice none 0 0 ∧ vs = []) ∨ ∃ g cap, v = .slice (some ⟨g, 0, none⟩) vs.length cap ∧ w.heap[g]? = some (.cells (vs ++ List.replicate (cap - vs.length) z).toArray e (0, 0)) ∧ vs.length ≤ cap ∧ cap ≤ maxLen
/-- Its block is not g. -/
def Off (v : Value) (g : Nat) : Prop := ∀ a n c, v = .slice (some a) n c → a.block ≠ g
theorem Arr.nil (w : World) (e : TypeId) (z : Value) : Arr w e z (.slice none 0 0) [] := .inl ⟨rfl, rfl⟩
theorem Arr.keep {w w' : World} {e : TypeId} {z v : Value} {vs : List Value} (h : Arr w e z v vs) (hb : ∀ g n c, v = .slice (some ⟨g, 0, none⟩) n c → g < w.heap.size → w'.heap[g]? = w.heap[g]?) : Arr w' e z v vs := by
  rcases h with h | ⟨g, cap, h1, h2, h3, h4⟩
  · exact .inl h
  · exact .inr ⟨g, cap, h1, (hb g _ _ h1 (Array.getElem?_eq_some_iff.1 h2).1).trans h2, h3, h4⟩
theorem Arr.kept {w w' : World} {e : TypeId} {z v : Value} {vs : List Value} (h : Arr w e z v vs) (hb : Below w.heap.size w w') : Arr w' e z v vs := h.keep fun g _ _ _ hl => hb.block g hl
theorem Arr.hit {w w' : World} {e : TypeId} {z v : Value} {vs : List Value} (h : Arr w e z v vs) {S : Nat} (hb : Hit S w w') (ho : Off v S) : Arr w' e z v vs := h.keep fun g _ _ hv hl => hb.block g hl (ho _ _ _ hv)
theorem Arr.shape {w : World} {e : TypeId} {z v : Value} {vs : List Value} (h : Arr w e z v vs) : ∃ p c, v = .slice p vs.length c := by
  rcases h with ⟨rfl, rfl⟩ | ⟨g, cap, rfl, _⟩
  · exact ⟨none, 0, rfl⟩
  · exact ⟨_, _, rfl⟩
theorem Arr.sl {w : World} {e : TypeId} {z : Value} {g n c : Nat} {vs : List Value} (h : Arr w e z (.slice (some ⟨g, 0, none⟩) n c) vs) (hz : isSl z = true) (hv : ∀ u ∈ vs, isSl u = true) : AllSl w g := by
  rcases h with ⟨h, _⟩ | ⟨g', cap, h1, h2, _⟩
  · simp at h
  · simp only [Value.slice.injEq, Option.some.injEq, Addr.mk.injEq, and_true] at h1
    obtain ⟨rfl, rfl, rfl⟩ := h1
    refine ⟨_, _, h2, fun u hu => ?_⟩
    simp only [List.mem_toArray, List.mem_append, List.mem_replicate] at hu
    rcases hu with hu | ⟨_, rfl⟩
    · exact hv u hu
    · exact hz
theorem Arr.cell {w : World} {e : TypeId} {z : Value} {g n c : Nat} {vs : List Value} (h : Arr w e z (.slice (some ⟨g, 0, none⟩) n c) vs) (i : Nat) (u : Value) (hi : vs[i]? = some u) : w.cell? ⟨g, i, none⟩ = some u := by
  rcases h with ⟨h, _⟩ | ⟨g', cap, h1, h2, _⟩
  · simp at h
  · simp only [Value.slice.injEq, Option.some.injEq, Addr.mk.injEq, and_true] at h1
    obtain ⟨rfl, rfl, rfl⟩ := h1
    have hl := (List.getElem?_eq_some_iff.1 hi).1
    simp [World.cell?, h2, List.getElem?_append_left hl, hi]

section
variable {P : Program} {w : World}
theorem run_append_arr (t ty e : TypeId) (z0 z : Value) (by' : Nat) (ht : P.underlying t = some (.slice e)) (hi : (P.info? e).map (fun i => (i.zero, i.size, i.bytes)) = some (some z0, 1, by')) (hzs : z0.cells = #[z])
    (v : Value) (vs : List Value) (h : Arr w e z v vs) (q : Addr) (c : Nat) (u : Value) (hq : w.cell? q = some u) (hu : u.oneCell' = true) (hby : (vs.length + 1) * by' ≤ 140737488355328) (h63 : vs.length + 1 ≤ maxLen) :
    ∃ g cap w', (Builtin.append_ #[t, t] ty #[v, .slice (some q) 1 c]).run P w = .ok (.slice (some ⟨g, 0, none⟩) (vs.length + 1) cap) w' ∧ Arr w' e z (.slice (some ⟨g, 0, none⟩) (vs.length + 1) cap) (vs ++ [u]) ∧
      ((Below w.heap.size w w' ∧ w.heap.size ≤ g) ∨ ((∃ c0, v = .slice (some ⟨g, 0, none⟩) vs.length c0) ∧ Hit g w w')) := by
  obtain ⟨i, hj, hz0, hz1, hz2⟩ := info_parts hi
  clear hi
  subst hz2
  have hq0 : q.add 0 = q := by simp [Addr.add]
  have src : Src P i.size t (.slice (some q) 1 c) 1 [u] w := Src.ofSlice w ht q 1 c [u] (by simp [hz1]) (fun j x hj => by
    cases j with
    | zero => simp at hj; subst hj; rw [hq0]; exact hq
    | succ j => simp at hj) (fun x hx => by simp at hx; subst hx; exact hu)
  have hml : maxLen = 9223372036854775807 := rfl
  have zc := zeroCells_one z
  have grow : ∀ (base : Option Addr) (sCap : Nat), sCap < vs.length + 1 → (Builtin.firstCells i.size vs.length (.slice base vs.length sCap)).run P w.drew = .ok vs.toArray w.drew →
      ∃ g cap w', (Builtin.append_ #[t, t] ty #[.slice base vs.length sCap, .slice (some q) 1 c]).run P w = .ok (.slice (some ⟨g, 0, none⟩) (vs.length + 1) cap) w' ∧ Arr w' e z (.slice (some ⟨g, 0, none⟩) (vs.length + 1) cap) (vs ++ [u]) ∧
        (Below w.heap.size w w' ∧ w.heap.size ≤ g) := by
    intro base sCap hlt hold
    have hrun := run_append_grow_src (P := P) w t t ty e i z0 ht hj hz0 base vs.length sCap vs hold (.slice (some q) 1 c) 1 [u] src hlt (by omega) (growslice_fits hlt hby)
    have hge := grownCap_ge w (vs.length + 1) sCap e
    have hcm : grownCap w (vs.length + 1) sCap e ≤ maxLen := grownCap_le_maxLen w (vs.length + 1) sCap e h63
    refine ⟨_, _, _, hrun, .inr ⟨w.heap.size, _, by simp, ?_, by simpa using hge, hcm⟩, (Below.refl _ w).drew.alloc (by simp) _, Nat.le_refl _⟩
    have := heap_alloc_new w.drew (.cells ((vs ++ [u]).toArray ++ Builtin.zeroCells z0.cells (grownCap w (vs.length + 1) sCap e - (vs.length + 1))) e)
    rw [hzs, zc] at this
    have hsz : w.drew.heap.size = w.heap.size := by simp
    rw [hsz] at this
    rw [hzs, zc, this]
    simp
  rcases h with ⟨rfl, rfl⟩ | ⟨g, cap, rfl, hg, hnc, hcm⟩
  · obtain ⟨g, cap, w', h1, h2, h3⟩ := grow none 0 (by simp) (run_firstCells_none w.drew i.size 0 0 0)
    exact ⟨g, cap, w', h1, h2, .inl h3⟩
  · have holds : ∀ j x, vs[j]? = some x → w.cell? ((⟨g, 0, none⟩ : Addr).add j) = some x := fun j x hj => by
      rw [Go.WideShapes.add_plain, Nat.zero_add]
      exact Arr.cell (.inr ⟨g, cap, rfl, hg, hnc, hcm⟩) j x hj
    by_cases hroom : vs.length + 1 ≤ cap
    · have hcell : w.cell? ⟨g, vs.length, none⟩ = some z := by
        simp only [World.cell?, hg]
        simp
        rw [List.getElem?_append_right (Nat.le_refl _), Nat.sub_self, List.getElem?_replicate, if_pos (by omega)]
      have hfree : w.frozen? ⟨g, vs.length, none⟩ = false := by simp [World.frozen?, hg]
      have hrun := run_append_room_src (P := P) w t t ty e i ht hj g 0 vs.length cap (.slice (some q) 1 c) 1 [u] src hroom
        (fun j hj => by obtain rfl : j = 0 := by simpa using hj
                        rw [hz1]; simp [hcell]) (fun j hj => by obtain rfl : j = 0 := by simpa using hj
                                                                rw [hz1]; simpa using hfree)
      rw [hz1, Nat.mul_one, Nat.zero_add] at hrun
      have hset : w.setCells g vs.length [u] = w.setCell ⟨g, vs.length, none⟩ u := by simp [World.setCells]
      rw [hset] at hrun
      refine ⟨g, cap, _, hrun, .inr ⟨g, cap, by simp, ?_, by simpa using hroom, hcm⟩, .inr ⟨⟨cap, rfl⟩, Hit.set g _ w u⟩⟩
      have hb : (w.setCell ⟨g, vs.length, none⟩ u).heap[g]? = some (.cells ((vs ++ List.replicate (cap - vs.length) z).toArray.setIfInBounds vs.length u) e (0, 0)) := by
        have hlt := (Array.getElem?_eq_some_iff.1 hg).1
        have he := (Array.getElem?_eq_some_iff.1 hg).2
        simp [World.setCell, hlt, Array.getElem_modify, he]
      rw [hb]
      congr 2
      rw [List.setIfInBounds_toArray]
      congr 1
      obtain ⟨m, hm⟩ : ∃ m, cap - vs.length = m + 1 := ⟨cap - vs.length - 1, by omega⟩
      have hm' : cap - (vs ++ [u]).length = m := by simp; omega
      rw [hm', hm, List.replicate_succ, List.set_append_right _ _ (Nat.le_refl _)]
      simp
    · obtain ⟨g', cap', w', h1, h2, h3⟩ := grow (some ⟨g, 0, none⟩) cap (by omega)
        (run_firstCells_some (P := P) w.drew i.size vs.length ⟨g, 0, none⟩ vs.length cap vs (by simp [hz1]) (fun j x hx => by rw [Go.World.cell?_drew]; exact holds j x hx))
      exact ⟨g', cap', w', h1, h2, .inl h3⟩
/-- 'append(out, x)'. -/
theorem wpList_append_arr {ops : Array Oper} {rest : List Oper} {o : Oper} {a : Act} {Q : Exit → Act → World → Prop} (hgd : o.guard = none) (s x : Operand) (t : TypeId)
    (ho : o.op = .call { callee := .builtin .append, args := #[s, x], argTypes := #[t, t] }) (e : TypeId) (z0 z : Value) (by' : Nat) (ht : P.underlying t = some (.slice e)) (hi : (P.info? e).map (fun i => (i.zero, i.size, i.bytes)) = some (some z0, 1, by')) (hzs : z0.cells = #[z])
    (v : Value) (vs : List Value) (hs : a.eval s = v) (h : Arr w e z v vs) (q : Addr) (c : Nat) (u : Value) (hx : a.eval x = .slice (some q) 1 c) (hq : w.cell? q = some u) (hu : u.oneCell' = true) (hby : (vs.length + 1) * by' ≤ 140737488355328) (h63 : vs.length + 1 ≤ maxLen)
    (hk : ∀ g cap w', Arr w' e z (.slice (some ⟨g, 0, none⟩) (vs.length + 1) cap) (vs ++ [u]) → ((Below w.heap.size w w' ∧ w.heap.size ≤ g) ∨ ((∃ c0, v = .slice (some ⟨g, 0, none⟩) vs.length c0) ∧ Hit g w w')) →
      wpList P ops Q rest (a.put o.dst (.slice (some ⟨g, 0, none⟩) (vs.length + 1) cap)) w') : wpList P ops Q (o :: rest) a w := by
  obtain ⟨g, cap, w', hrun, h1, h2⟩ := run_append_arr (P := P) (w := w) t o.type e z0 z by' ht hi hzs v vs h q c u hq hu hby h63
  refine wpList_plain hgd fun K hK => ?_
  unfold Oper.wp
  simp [execOp, ho, resolve, invoke, builtin, hs, hx, hrun, Result.andThen]
  exact hK _ _ (hk g cap w' h1 h2)
end
end Go.Proofs.YtgkjkchhepmakaaDoor
