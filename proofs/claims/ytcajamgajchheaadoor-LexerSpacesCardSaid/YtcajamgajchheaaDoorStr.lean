/-
  SLICES OF BYTES AND STRINGS (any program): append of a string, string(b) in a region that draws, blocks of another type than a row of bytes. Nothing of the program stands here.
-/
import Derived.Test.YtcajamgajchheaaDoorBytes
import Derived.Test.YtcajamgajchheaaDoorOps
import Derived.Test.YtcajamgajchheaaDoorRow
import Derived.Lib.AppendStr
import Derived.Lib.OthersKept
namespace Go.Proofs.YtcajamgajchheaaDoor
open Go Go.RowKit Go.ChangeShapes Go.WideShapes Go.ChangeAt

/-- A row's block is none of another type. -/
theorem Own.apart {w : World} {base : Nat} {e e' : TypeId} {p : Option Addr} {n c : Nat} {xs : List UInt8} (h : Own w base e (.slice p n c) xs) (he : e ≠ e') {S : Nat} {vs : List Value} (hb : Blk S vs e' w) : ¬ (Value.ownBlock (.slice p n c) = some S) := fun hs => by
  rcases h.2 with ⟨hv, _⟩ | ⟨g, cap, cur, hv, _, hg, _⟩
  · simp only [Value.slice.injEq] at hv
    rw [ownBlock_sl, hv.1] at hs
    cases hs
  · simp only [Value.slice.injEq] at hv
    rw [ownBlock_sl, hv.1] at hs
    obtain rfl : g = S := Option.some.inj hs
    have h2 : w.heap[g]? = _ := hb
    rw [h2] at hg
    simp at hg
    exact he hg.2.symm
theorem Own.gr {w w' : World} {base : Nat} {e : TypeId} {v : Value} {xs : List UInt8} (h : Own w base e v xs) (hg : Grew w w') : Own w' base e v xs := h.below hg
theorem Own.empty (w : World) (base : Nat) (e : TypeId) : Own w base e (.slice none 0 0) [] := World.ownsRow_nil w base e 1
theorem Blk.others {S : Nat} {vs : List Value} {e e' : TypeId} {w w' : World} (h : Blk S vs e w) (hok : Lib.OthersKept e' none w w') (hne : e ≠ e') : Blk S vs e w' :=
  hok S _ h (fun hh => by cases hh) (fun c fz hh => by cases hh; exact hne rfl)
section
variable {P : Program} {w : World} {ops : Array Oper} {rest : List Oper} {o : Oper} {a : Act} {Q : Exit → Act → World → Prop}
/-- 'append(out, s...)': out made by the call, s a string. -/
theorem wpList_append_str (hgd : o.guard = none) (s x : Operand) (t u : TypeId)
    (ho : o.op = .call { callee := .builtin .append, args := #[s, x], argTypes := #[t, u] })
    (base : Nat) (e : TypeId) (ht : P.underlying t = some (.slice e)) (hu : P.underlying u = some .string) (hi : (P.info? e).map (fun i => (i.zero, i.size, i.bytes)) = some (some (.int .u8 0), 1, 1))
    (v : Value) (xs : List UInt8) (hs : a.eval s = v) (hown : Own w base e v xs) (l : List UInt8) (hx : a.eval x = .string ⟨l.toArray⟩)
    (hbytes : xs.length + l.length ≤ 140737488355328) (hbase : base ≤ w.heap.size)
    (h : ∀ p' c' zs w', Hid (zs = xs ++ l) → Own w' base e (.slice p' zs.length c') zs → Below base w w' → Chg w w' (fun j => v.ownBlock = some j) → wpList P ops Q rest (a.put o.dst (.slice p' zs.length c')) w') : wpList P ops Q (o :: rest) a w := by
  obtain ⟨i, hi, hz0, hz1, hz2⟩ := info_parts hi
  have hsz : (⟨l.toArray⟩ : ByteArray).size = l.length := rfl
  refine Lib.wpList_append_own_string w hgd s x t u ho base e i ht hu hi hz0 hz1 hz2 v xs.length (bvs xs) hs hown ⟨l.toArray⟩ hx (by rw [hsz]; simp only [maxLen]; omega) (by rw [hsz]; omega) hbase fun v' w' h2 h3 _ => ?_
  have h4 : Own w' base e v' (xs ++ l) := by
    show World.ownsRow _ _ _ _ _ _ _
    rw [List.length_append, bvs_append]
    exact h2
  obtain ⟨p', c', rfl, _, _⟩ := h4.shape
  exact h p' c' _ w' rfl h4 (hown.grown_below h3 (Nat.le_refl _) hbase) (Chg.of_grownBy h3)
end
section
variable {P : Program} {dst : Option Tmp} {ty : TypeId} {pos : String} {after : Array Edge} {g : Option (Nat × Bool)} {a : Act} {w : World} {T : Value → World → Prop}
/-- 'string(b)' as an operation of a region that draws. -/
theorem runs_cvs {x : Operand} {p : Option Addr} {n c : Nat} {xs : List UInt8} {src to e : TypeId} (hs : P.underlying src = some (.slice e)) (he : P.underlying e = some (.int .u8)) (hd : P.underlying to = some .string) (hx : a.eval x = .slice p n c) (hb : Bin w p c xs) (hn : xs.length = n) (h : T (.string ⟨xs.toArray⟩) w) :
    Runs P ⟨dst, .convert src to x, ty, pos, after, g⟩ a w T := by
  refine Runs.value (v := .string ⟨xs.toArray⟩) (w' := w) ?_ h
  simp only [execOp, hx]
  have := hb.convert n hn src to e hs he hd
  simp only [Sem.run_bind, this, Result.andThen_ok]
  rfl
end
end Go.Proofs.YtcajamgajchheaaDoor
