/-
  LAYER 12 (cpu): what the listed variables give the walks; how the arguments come in; the frame with both the laid variables and the world's shape.
-/
import Derived.Test.YtbhglpiiabpdjaaDoorCpuVal
import Derived.Test.YtbhglpiiabpdjaaDoorLaidRows
import Derived.Test.YtbhglpiiabpdjaaDoorOpen
import Derived.ShutString
import Derived.HandedShaped
import Derived.Lib.LaidTab
import Derived.Stop.LaidErr
import Derived.Stop.Joined
namespace Go.Proofs.YtbhglpiiabpdjaaDoor
open Go.ChangeShapes Go.WideShapes Go.ChangeAt Go.RowKit
set_option maxRecDepth 20000
theorem own : ownKnob Tryd.prog.godebug = none := by kernel_rfl
theorem laidOut : laidOutB Tryd.prog = true := by kernel_rfl
theorem bounds_i64 {x : Int} (h : (Lit.int .i64 x).wf = true) : -9223372036854775808 ≤ x ∧ x ≤ 9223372036854775807 := by
  simpa [Lit.wf, IntKind.min, IntKind.max, IntKind.bits, IntKind.signed] using h
theorem bounds_i16 {x : Int} (h : (Lit.int .i16 x).wf = true) : -32768 ≤ x ∧ x ≤ 32767 := by
  simpa [Lit.wf, IntKind.min, IntKind.max, IntKind.bits, IntKind.signed] using h
theorem bounds_u8 {x : Int} (h : (Lit.int .u8 x).wf = true) : 0 ≤ x ∧ x ≤ 255 := by
  simpa [Lit.wf, IntKind.min, IntKind.max, IntKind.bits, IntKind.signed] using h
/-- The row's frame: the condition on the laid variables, and the world's shape at the call. -/
theorem handed_laid {H : Type} {enc : TypeId × Value → H} {C : Checked} {os : Os} {f : FuncId} {fn : Func} {s : ChangeSpec} {X : World → Prop}
    (hX : ∀ (w w' : World), w.heap = w'.heap → X w → X w') (ow : ownKnob C.prog.godebug = none) (started : os.Started) (noInit : C.prog.inits.idxOf? f = none) (hfn : C.prog.funcs[f]? = some fn)
    (witness : ∃ (w : World) (tape : Tape) (i : Input), w.os = os ∧ (w.forCall tape i).Shaped C.prog ∧ i.vars = [] ∧ Input.okWide C.prog (w.forCall tape i) .any w.heap.size f i ∧
      ((s.pre enc C.prog fn [] false (w.forCall tape i).memory i.args ∧ X (w.forCall tape i).memory) ∧ sizedMet enc C.prog fn (OpenSpec.ofChange s) false (w.forCall tape i).memory i.args) ∧ Assume.holds {} C.prog (lone (Frame.enter C.prog f i.args .normal) [] (w.forCall tape i)))
    (walk : ∀ (W : World) (base : Nat) (args : Array Value) (ds gs : List (DataW H)) (before : List MemPlace), W.ShapedOpen C.prog → X W →
      (∀ (j : Nat) t v, fn.params[j]? = some t → args[j]? = some v → Value.okWide C.prog W .any base t v) →
      DataW.Whole enc C.prog fn.params.toList s.vars false W args.toList ds gs before →
      (DataW.weightsEach C.prog (fn.params.toList ++ s.plain.varTypes C.prog) (ds ++ gs)).all (· ≤ reachBytes) = true →
      Calls C.prog f args W fun e W' => ∃ v, e = .returned v ∧ s.post enc C.prog fn false true false false W args v W') :
    ReturnsInHanded {} C os f .any (fun w args => (s.pre enc C.prog fn [] false w args ∧ X w) ∧ sizedMet enc C.prog fn (OpenSpec.ofChange s) false w args) (s.post enc C.prog fn false true false false) :=
  returnsInHanded_of_calls ow started noInit witness fun w tape i _ shaped _ wide given _ => by
    obtain ⟨⟨⟨ds, gs, before, whole, _⟩, hx⟩, sized⟩ := given
    obtain ⟨_, _, _, g, hg, _, _, _, _, each⟩ := wide
    obtain rfl : g = fn := Option.some.inj (hg.symm.trans hfn)
    refine (walk (w.forCall tape i) w.heap.size i.args ds gs before shaped (hX _ _ (by rfl) hx) each (DataW.Whole.of_heap (w' := w.forCall tape i) (by rfl) whole) (sized.weights whole)).mono ?_
    rintro e W' ⟨v, rfl, hp⟩
    exact ChangeSpec.post_blind hp
theorem lt_of_var {P : Program} {w : World} {n : String} {cs : Array Value} {g : Nat} (hg : P.globalNamed n = some g) (h : w.var? P n = some cs) : g < w.heap.size := by
  unfold World.var? at h
  simp only [hg, Option.bind_some] at h
  rcases Nat.lt_or_ge g w.heap.size with h' | h'
  · exact h'
  · simp [Array.getElem?_eq_none h'] at h
theorem env_of_laid {W : World} (_ : W.ShapedOpen Tryd.prog) (h : laidMetH Tryd.prog Rows.cPUSavesRow.laid W) : EnvN W.heap.size W := by
  have h1 : laidMet Tryd.prog Rows.cPUSavesRow.laid W := by
    rw [MakeChecks.laidMetH_plain _ _ _ (by kernel_rfl)] at h
    exact h
  have h2 := h1.tail
  have h3 := h2.tail
  have e1 : W.var? Tryd.prog "trickle/isa.operations" = some opsCells.toArray := (rows_of_head (g := 1) (T := 117) (e := 101) (m := 31) (k := 6) (by kernel_rfl) (by kernel_rfl) Tryd.underlying117 Tryd.underlying101 (by kernel_rfl) (by kernel_rfl) (by kernel_rfl) (by kernel_rfl) h1).trans (congrArg (fun l : List Value => some l.toArray) (by kernel_rfl))
  have e2 : W.var? Tryd.prog "trickle/isa.costs" = some cstCells.toArray := (rows_of_head (g := 2) (T := 125) (e := 119) (m := 31) (k := 3) (by kernel_rfl) (by kernel_rfl) Tryd.underlying125 Tryd.underlying119 (by kernel_rfl) (by kernel_rfl) (by kernel_rfl) (by kernel_rfl) h2).trans (congrArg (fun l : List Value => some l.toArray) (by kernel_rfl))
  have e3 : W.var? Tryd.prog "trickle/cpu.instructions" = some insCells.toArray := (rows_of_head (g := 0) (T := 109) (e := 108) (m := 31) (k := 2) (by kernel_rfl) (by kernel_rfl) Tryd.underlying109 Tryd.underlying108 (by kernel_rfl) (by kernel_rfl) (by kernel_rfl) (by kernel_rfl) h3).trans (congrArg (fun l : List Value => some l.toArray) (by kernel_rfl))
  exact ⟨⟨e1⟩, ⟨e2⟩, ⟨e3⟩, lt_of_var (by kernel_rfl) e1, lt_of_var (by kernel_rfl) e2, lt_of_var (by kernel_rfl) e3⟩
/-- The heap that the program's own initialisers leave meets the condition. -/
theorem door_met (os : Os) (args : Array Value) : laidMetH Tryd.prog Rows.cPUSavesRow.laid ((World.doorLaid Tryd.prog 114 os).forCall (fun _ _ => 0) ⟨#[], args, []⟩).memory :=
  laidMetH_of_parts3 (fuel := 8) (laidMet_of_run' 8 (by kernel_rfl) (by kernel_rfl)) (by kernel_rfl) (by kernel_rfl)
section
variable {H : Type} {enc : TypeId × Value → H} {w : World} {base : Nat} {sp : Nat → Bool} {held : Bool}
theorem reads_state {cs : List Value} (h : Reads enc Tryd.prog w base sp held STT cs) : ∃ s : St, cs = stv s ∧ s.Ok := by
  have hl := h.len Tryd.underlying33
  rw [show Tryd.prog.cellsOf STT = 73 by kernel_rfl] at hl
  obtain ⟨p, e0, hp⟩ := (h.fld Tryd.underlying33 0 0 1 3 (by kernel_rfl) (by kernel_rfl)).int Tryd.underlying3
  obtain ⟨xs, e1, hx, fx⟩ := (h.fld Tryd.underlying33 1 1 8 30 (by kernel_rfl) (by kernel_rfl)).ints Tryd.underlying30 Tryd.underlying29 (by kernel_rfl) (by kernel_rfl)
  obtain ⟨ys, e2, hy, fy⟩ := (h.fld Tryd.underlying33 2 9 64 31 (by kernel_rfl) (by kernel_rfl)).ints Tryd.underlying31 Tryd.underlying29 (by kernel_rfl) (by kernel_rfl)
  refine ⟨⟨p, xs ++ ys⟩, ?_, ⟨by simp [hx, hy], fun v hv => ?_⟩⟩
  · have a1 : cs = cs.take 1 ++ ((cs.drop 1).take 8 ++ (cs.drop 9).take 64) := by
      have b1 : (cs.drop 9).take 64 = cs.drop 9 := List.take_of_length_le (by simp; omega)
      rw [b1, show cs.drop 9 = (cs.drop 1).drop 8 by rw [List.drop_drop], List.take_append_drop, List.take_append_drop]
    rw [List.drop_zero] at e0
    rw [a1, e0, e1, e2]
    simp [stv]
  · rcases List.mem_append.1 hv with h1 | h1
    · exact bounds_i16 (fx v h1)
    · exact bounds_i16 (fy v h1)
end
section
variable {H : Type} {enc : TypeId × Value → H} {W : World}
theorem rdl_ints {t : TypeId} (ht : Tryd.prog.underlying t = some (.slice 3)) {p : Option Addr} {n c : Nat} {d : DataW H} {q : List MemPlace} (h : DataW.Trod enc Tryd.prog W 0 (fun _ => true) true t (.slice p n c) d q) :
    ∃ xs : List Int, xs.length = n ∧ RdL 1 iv W p c xs ∧ ∀ z ∈ xs, -9223372036854775808 ≤ z ∧ z ≤ 9223372036854775807 :=
  RdL.opened 1 iv (fun z : Int => -9223372036854775808 ≤ z ∧ z ≤ 9223372036854775807) [.int .i64] ht (by kernel_rfl) (by kernel_rfl) rfl (fun cs hr => by
    cases hr with
    | cons h0 t =>
      cases t
      obtain ⟨z, rfl, hz⟩ := h0
      exact ⟨z, rfl, bounds_i64 hz⟩) h (by decide)
theorem rdl_h16 {t : TypeId} (ht : Tryd.prog.underlying t = some (.slice 29)) {p : Option Addr} {n c : Nat} {d : DataW H} {q : List MemPlace} (h : DataW.Trod enc Tryd.prog W 0 (fun _ => true) true t (.slice p n c) d q) :
    ∃ xs : List Int, xs.length = n ∧ RdL 1 h16 W p c xs ∧ All16 xs :=
  RdL.opened 1 h16 I16 [.int .i16] ht (by kernel_rfl) (by kernel_rfl) rfl (fun cs hr => by
    cases hr with
    | cons h0 t =>
      cases t
      obtain ⟨z, rfl, hz⟩ := h0
      exact ⟨z, rfl, bounds_i16 hz⟩) h (by decide)
end
end Go.Proofs.YtbhglpiiabpdjaaDoor
