/-
  LAYER 10 (sensor): what the library's variables give; decimal texts that the program appends; THE OPERATIONS OF THE DRAWN REGION OF parseChange BY POSTS.
-/
import Derived.Test.YtaehlpdnjfblbaaDoorSeRef
import Derived.Test.YtaehlpdnjfblbaaDoorStr
import Derived.Test.YtaehlpdnjfblbaaDoorShelf
namespace Go.Proofs.YtaehlpdnjfblbaaDoor
open Go Go.RowKit Go.IntWalk
set_option linter.unusedSimpArgs false
set_option maxRecDepth 8000

theorem var?_keep {P : Program} {w w' : World} {n : String} {cs : Array Value} (hb : Below w.heap.size w w') (h : w.var? P n = some cs) : w'.var? P n = some cs := by
  unfold World.var? at h ⊢
  cases hg : P.globalNamed n with
  | none => simp [hg] at h
  | some g =>
    simp only [hg, Option.bind_some] at h ⊢
    have hlt : g < w.heap.size := by
      rcases Nat.lt_or_ge g w.heap.size with h' | h'
      · exact h'
      · simp [Array.getElem?_eq_none h'] at h
    rw [hb.block g hlt]
    exact h
/-- The library's table and its two errors, as the program's initialisers lay them; and a variable that holds some number. -/
structure Env (w : World) : Prop where
  pow : Lib.TabIs Tryd.prog w "internal/strconv.uint64pow10" .u64 Lib.pow10Tab
  syn : ∃ tp p, w.var? Tryd.prog "strconv.ErrSyntax" = some #[.iface tp p]
  ran : ∃ tp p, w.var? Tryd.prog "strconv.ErrRange" = some #[.iface tp p]
  most : ∃ m : Int, w.cell? ⟨0, 0, none⟩ = some (.int .i64 m)
theorem Env.grew {w w' : World} (h : Env w) (hb : Grew w w') : Env w' := by
  obtain ⟨h1, ⟨a, b, h2⟩, ⟨c, d, h3⟩, ⟨m, h4⟩⟩ := h
  exact ⟨var?_keep hb h1, ⟨a, b, var?_keep hb h2⟩, ⟨c, d, var?_keep hb h3⟩, ⟨m, (Below.cell hb (p := ⟨0, 0, none⟩) (World.block_lt_of_cell? _ _ h4)).trans h4⟩⟩
/-- The table lies below a base. -/
abbrev Tab (base : Nat) (w : World) : Prop := Lib.TabBelow Tryd.prog base w "internal/strconv.uint64pow10" .u64 Lib.pow10Tab
theorem Env.tab {w : World} (h : Env w) : Tab w.heap.size w := Lib.tabBelow_of_tabIs h.pow
theorem info_u8 : (Tryd.prog.info? 5).map (fun i => (i.zero, i.size, i.bytes)) = some (some (.int .u8 0), 1, 1) := by kernel_rfl
theorem appInt_any (base : Nat) (z : Int) (h0 : -9223372036854775808 ≤ z) (h1 : z ≤ 9223372036854775807) (v : Value) (xs : List UInt8) (w : World) (hown : Own w base 5 v xs) (hb : base ≤ w.heap.size) (hl : xs.length ≤ 4294967296) (htab : Tab base w) :
    Calls Tryd.prog 36 #[v, .int .i64 z, .int .i64 10] w fun e w' => ∃ r j, e = .returned (.slice r (xs.length + (Lib.itoa z).length) j) ∧ Own w' base 5 (.slice r (xs.length + (Lib.itoa z).length) j) (xs ++ Lib.itoa z) ∧ Below base w w' ∧ Lib.OthersKept 5 none w w' := by
  refine (Tryd.strconv_AppendInt_10 base xs.length z h0 h1 v (bvs xs) w hown hb (by omega) htab).mono ?_
  rintro e w' ⟨v', rfl, h1, h2, h3⟩
  have h4 : Own w' base 5 v' (xs ++ Lib.itoa z) := by
    show World.ownsRow _ _ _ _ _ _ _
    rw [List.length_append, bvs_append]
    exact h1
  obtain ⟨r, j, rfl, _, _⟩ := h4.shape
  rw [List.length_append] at h4 ⊢
  exact ⟨r, j, rfl, h4, h2, h3⟩
section
variable {dst : Option Tmp} {ty : TypeId} {pos : String} {after : Array Edge} {g : Option (Nat × Bool)} {a : Act} {w : World} {T : Value → World → Prop}
theorem rn_eql_9 {o1 o2 : Operand} {b c : List UInt8} (hx : a.eval o1 = .string ⟨b.toArray⟩) (hy : a.eval o2 = .string ⟨c.toArray⟩) (h : T (.bool (b == c)) w) : Runs Tryd.prog ⟨dst, .binOp .eql 9 o1 o2 9, ty, pos, after, g⟩ a w T := by
  refine Runs.value (v := .bool (b == c)) (w' := w) ?_ h
  simp only [execOp, hx, hy]
  go_simp
theorem rn_st_34 {x y : Operand} {S o : Nat} {v0 : Int} {v1 : Int} {u0 u1 : Value} (hx : a.eval x = .pointer (some ⟨S, o, none⟩)) (hy : a.eval y = .agg #[.int .i64 v0, .int .i16 v1]) (h0 : w.cell? ⟨S, o, none⟩ = some u0) (h1 : w.cell? ⟨S, o + 1, none⟩ = some u1) (hf : ∀ i, w.frozen? ⟨S, i, none⟩ = false) (h : T undef ((w.setCell ⟨S, o, none⟩ (.int .i64 v0)).setCell ⟨S, o + 1, none⟩ (.int .i16 v1))) : Runs Tryd.prog ⟨dst, .store 34 x y, ty, pos, after, g⟩ a w T := by
  have hf0 := hf o
  have hf1 := hf (o + 1)
  refine Runs.skip (w' := ((w.setCell ⟨S, o, none⟩ (.int .i64 v0)).setCell ⟨S, o + 1, none⟩ (.int .i16 v1))) ?_ h
  simp only [execOp, hx, hy]
  go_simp
end
end Go.Proofs.YtaehlpdnjfblbaaDoor
