/-
  LAYER 8 (capacitor): append to a slice of structs of two integers that the call itself has made: blocks of another type stay.
-/
import Derived.Test.YtjepjcdobgdacaaCapSim
namespace Go.Proofs.Ytjepjcdobgdacaa
open Go Go.RowKit Go.IntWalk
set_option linter.unusedSimpArgs false

theorem made1 (w : World) (S : Nat) (x : It) (e : TypeId) (cs : Array Value) (fr : Nat × Nat) (hS : w.heap.size = S) (hc : cs = (flat [x]).toArray) : RdI (w.alloc (.cells cs e fr)) (some ⟨S, 0, none⟩) 1 [x] := by
  subst hS
  exact RdI.made w [x] 1 e cs fr hc rfl (by omega)
/-- Blocks of another type than e stay. -/
def Oth (e : TypeId) (w w' : World) : Prop := ∀ (k : Nat) (cs : Array Value) (e' : TypeId), w.heap[k]? = some (Obj.cells cs e') → e' ≠ e → w'.heap[k]? = some (Obj.cells cs e')
theorem Oth.of_grown {w w' : World} {base : Nat} {e : TypeId} {p : Option Addr} {n c : Nat} {xs : List It} (h : OwI w base e (.slice p n c) xs) (hg : w.grownBy w' (Value.ownBlock (.slice p n c))) : Oth e w w' := fun k cs e' hk hne => by
  have hc := Chg.of_grown hg
  refine (hc.block k (lt_of_heap hk) fun hs => ?_).trans hk
  rw [ownBlock_slice2] at hs
  cases p with
  | none => cases hs
  | some a => exact h.apart hk (fun e => hne e.symm) a rfl (Option.some.inj hs)
theorem wpList_append_oth {w : World} {ops : Array Oper} {rest : List Oper} {o : Oper} {a : Act} {Q : Exit → Act → World → Prop} (hgd : o.guard = none) (s x : Operand) (t : TypeId)
    (ho : o.op = .call { callee := .builtin .append, args := #[s, x], argTypes := #[t, t] })
    (base : Nat) (e : TypeId) (z : Value) (by' : Nat) (ht : Try.prog.underlying t = some (.slice e)) (hi : (Try.prog.info? e).map (fun i => (i.zero, i.size, i.bytes)) = some (some z, 2, by')) (hzs : z.cells.size = 2)
    (p0 : Option Addr) (n0 c0 : Nat) (xs : List It) (hs : a.eval s = .slice p0 n0 c0) (hown : OwI w base e (.slice p0 n0 c0) xs)
    (p : Option Addr) (n c : Nat) (ys : List It) (hx : a.eval x = .slice p n c) (hl : ys.length = n) (hin : RdI w p c ys)
    (hbytes : (xs.length + ys.length) * by' ≤ 140737488355328) (h63 : xs.length + ys.length ≤ 9223372036854775807) (hbase : base ≤ w.heap.size)
    (h : ∀ p' c' zs w', Hid (zs = xs ++ ys) → OwI w' base e (.slice p' zs.length c') zs → Below base w w' → Oth e w w' → wpList Try.prog ops Q rest (a.put o.dst (.slice p' zs.length c')) w') : wpList Try.prog ops Q (o :: rest) a w := by
  obtain ⟨v', w', hrun, h2, h3, h4, _⟩ := run_append_its (P := Try.prog) t o.type base e z by' ht hi hzs (.slice p0 n0 c0) xs hown p n c ys hl hin hbytes h63 hbase
  obtain ⟨p', c', rfl, _, _⟩ := h2.parts
  refine wpList_plain hgd fun K hK => ?_
  unfold Oper.wp
  simp [execOp, ho, resolve, invoke, builtin, hs, hx, hrun, Result.andThen]
  have := h p' c' _ w' rfl h2 h3 (Oth.of_grown hown h4)
  rw [List.length_append] at this
  exact hK _ _ this
theorem wpList_appendSt {w : World} {ops : Array Oper} {rest : List Oper} {o : Oper} {a : Act} {Q : Exit → Act → World → Prop} (hgd : o.guard = none) (s x : Operand)
    (ho : o.op = .call { callee := .builtin .append, args := #[s, x], argTypes := #[52, 52] })
    (base : Nat) (p0 : Option Addr) (n0 c0 : Nat) (xs : List It) (hs : a.eval s = .slice p0 n0 c0) (hown : OwI w base 53 (.slice p0 n0 c0) xs)
    (p : Option Addr) (n c : Nat) (ys : List It) (hx : a.eval x = .slice p n c) (hl : ys.length = n) (hin : RdI w p c ys) (hsz : xs.length + ys.length ≤ 3000000) (hbase : base ≤ w.heap.size)
    (h : ∀ p' c' zs w', Hid (zs = xs ++ ys) → OwI w' base 53 (.slice p' zs.length c') zs → Below base w w' → Oth 53 w w' → wpList Try.prog ops Q rest (a.put o.dst (.slice p' zs.length c')) w') : wpList Try.prog ops Q (o :: rest) a w :=
  wpList_append_oth hgd s x 52 ho base 53 (itv (0, 0)) 16 Try.underlying52 infoSt rfl p0 n0 c0 xs hs hown p n c ys hx hl hin (by omega) (by omega) hbase h
theorem wpList_appendPe {w : World} {ops : Array Oper} {rest : List Oper} {o : Oper} {a : Act} {Q : Exit → Act → World → Prop} (hgd : o.guard = none) (s x : Operand)
    (ho : o.op = .call { callee := .builtin .append, args := #[s, x], argTypes := #[54, 54] })
    (base : Nat) (p0 : Option Addr) (n0 c0 : Nat) (xs : List It) (hs : a.eval s = .slice p0 n0 c0) (hown : OwI w base 67 (.slice p0 n0 c0) xs)
    (p : Option Addr) (n c : Nat) (ys : List It) (hx : a.eval x = .slice p n c) (hl : ys.length = n) (hin : RdI w p c ys) (hsz : xs.length + ys.length ≤ 3000000) (hbase : base ≤ w.heap.size)
    (h : ∀ p' c' zs w', Hid (zs = xs ++ ys) → OwI w' base 67 (.slice p' zs.length c') zs → Below base w w' → Oth 67 w w' → wpList Try.prog ops Q rest (a.put o.dst (.slice p' zs.length c')) w') : wpList Try.prog ops Q (o :: rest) a w :=
  wpList_append_oth hgd s x 54 ho base 67 (itv (0, 0)) 16 Try.underlying54 infoP rfl p0 n0 c0 xs hs hown p n c ys hx hl hin (by omega) (by omega) hbase h
/-- The box of a step stays. -/
theorem Oth.box2 {e e' : TypeId} {w w' : World} {T : Nat} {y1 y2 : Int} (h : Oth e w w') (hb : w.heap[T]? = some (Obj.cells #[.int .i64 y1, .int .i64 y2] e')) (hne : e' ≠ e) : w'.cell? ⟨T, 0, none⟩ = some (.int .i64 y1) ∧ w'.cell? ⟨T, 1, none⟩ = some (.int .i64 y2) ∧ T < w'.heap.size := by
  have hb' := h T _ _ hb hne
  refine ⟨?_, ?_, lt_of_heap hb'⟩ <;> rw [cells_of_heap hb'] <;> rfl
end Go.Proofs.Ytjepjcdobgdacaa
