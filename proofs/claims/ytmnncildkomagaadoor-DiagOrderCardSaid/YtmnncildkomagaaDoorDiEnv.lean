/-
  What the listed variables of the library give the walks of layer 14 (diag); how a slice of diagnostics that came in opens; the frame with both the laid variables and the world's shape.
-/
import Derived.Test.YtmnncildkomagaaDoorDiFmt
import Derived.Test.YtmnncildkomagaaDoorRows
import Derived.Deep.SlicePairs
import Derived.ProofKit
import Derived.LaidMore
import Derived.OpenShut
import Derived.ShutString
import Derived.ChangeOld
import Derived.ChangeSame
import Derived.HandedShaped
import Derived.SizedLaws
import Derived.Lib.LaidTab
import Derived.Stop.LaidErr
import Derived.Stop.Joined
namespace Go.Proofs.YtmnncildkomagaaDoor
open Go.ChangeShapes Go.WideShapes Go.ChangeAt Go.RowKit

theorem own : ownKnob Tryd.prog.godebug = none := by kernel_rfl
theorem laidOut : laidOutB Tryd.prog = true := by kernel_rfl
theorem bounds_i64 {x : Int} (h : (Lit.int .i64 x).wf = true) : -9223372036854775808 ≤ x ∧ x ≤ 9223372036854775807 := by
  simpa [Lit.wf, IntKind.min, IntKind.max, IntKind.bits, IntKind.signed] using h

theorem env_of_laid {W : World} (_hs : W.ShapedOpen Tryd.prog) (h : laidMetH Tryd.prog Rows.diagPositionRow.laid W) : Env W := by
  have hL : laidMet Tryd.prog Rows.diagPositionRow.laid W := by
    rw [MakeChecks.laidMetH_plain _ _ _ (by kernel_rfl)] at h
    exact h
  have h3 := hL.tail.tail
  exact ⟨Lib.tabIs_of_head (n := 20) (t := 111) (e := 97) (show Tryd.prog.globalNamed "internal/strconv.uint64pow10" = some 1 by kernel_rfl) (by kernel_rfl) Tryd.underlying111 Tryd.underlying97 (by kernel_rfl) (by kernel_rfl) h3⟩

/-- The heap that the program's own initialisers leave meets the condition. -/
theorem door_met (os : Os) (args : Array Value) : laidMetH Tryd.prog Rows.diagPositionRow.laid ((World.doorLaid Tryd.prog 24 os).forCall (fun _ _ => 0) ⟨#[], args, []⟩).memory :=
  laidMetH_of_parts3 (fuel := 8) (laidMet_of_run' 8 (by kernel_rfl) (by kernel_rfl)) (by kernel_rfl) (by kernel_rfl)

/-- The row's frame: the condition on the laid variables, and the world's shape at the call. -/
theorem handed_laid {H : Type} {enc : TypeId × Value → H} {C : Checked} {os : Os} {f : FuncId} {fn : Func} {s : ChangeSpec} {X : World → Prop}
    (hX : ∀ (w w' : World), w.heap = w'.heap → X w → X w') (ow : ownKnob C.prog.godebug = none) (started : os.Started) (noInit : C.prog.inits.idxOf? f = none) (hfn : C.prog.funcs[f]? = some fn)
    (witness : ∃ (w : World) (tape : Tape) (i : Input), w.os = os ∧ (w.forCall tape i).Shaped C.prog ∧ i.vars = [] ∧ Input.okWide C.prog (w.forCall tape i) .any w.heap.size f i ∧
      ((s.pre enc C.prog fn [] false (w.forCall tape i).memory i.args ∧ X (w.forCall tape i).memory) ∧ sizedMet enc C.prog fn (OpenSpec.ofChange s) false (w.forCall tape i).memory i.args) ∧ Assume.holds {} C.prog (lone (Frame.enter C.prog f i.args .normal) [] (w.forCall tape i)))
    (walk : ∀ (W : World) (base : Nat) (args : Array Value) (ds gs : List (DataW H)) (before : List MemPlace), W.ShapedOpen C.prog → X W →
      (∀ (j : Nat) t v, fn.params[j]? = some t → args[j]? = some v → Value.okWide C.prog W .any base t v) →
      DataW.Whole enc C.prog fn.params.toList s.vars false W args.toList ds gs before →
      (DataW.weightsEach C.prog (fn.params.toList ++ s.plain.varTypes C.prog) (ds ++ gs)).all (· ≤ reachBytes) = true →
      Calls C.prog f args W fun e W' => ∃ v, e = .returned v ∧ s.post enc C.prog fn false true false false W args v W') :
    ReturnsInHanded {} C os f .any (fun w args => (s.pre enc C.prog fn [] false w args ∧ X w) ∧ sizedMet enc C.prog fn (OpenSpec.ofChange s) false w args) (s.post enc C.prog fn false true false false) :=
  returnsInHanded_of_calls ow started noInit witness fun w tape i _ shaped _ wide given _ => by
    obtain ⟨⟨⟨ds, gs, before, whole, _⟩, hx⟩, sized⟩ := given
    obtain ⟨_, _, _, g, hg, _, _, _, _, each⟩ := wide
    obtain rfl : g = fn := Option.some.inj (hg.symm.trans hfn)
    refine (walk (w.forCall tape i) w.heap.size i.args ds gs before shaped (hX _ _ (by rfl) hx) each (DataW.Whole.of_heap (w' := w.forCall tape i) (by rfl) whole) (sized.weights whole)).mono ?_
    rintro e W' ⟨v, rfl, hp⟩
    exact ChangeSpec.post_blind hp

open Go.Deep in
/-- A slice of diagnostics that came in. -/
theorem open_diag {H : Type} {enc : TypeId × Value → H} {W : World} {ts : List TypeId} {ds : List (DataW H)} {a0 : Option Addr} {len cap : Nat} {d0 : DataW H} {p : List MemPlace} (hsz : (DataW.weightsEach Tryd.prog ts ds).all (· ≤ reachBytes) = true) {j : Nat} (htj : ts[j]? = some 31) (hdj : ds[j]? = some d0)
    (h : DataW.Trod enc Tryd.prog W 0 (fun _ => true) true 31 (.slice a0 len cap) d0 p) :
    ∃ l : List It, l.length = len ∧ Rw 2 itc W a0 cap l ∧ ∀ x ∈ l, (-9223372036854775808 ≤ x.1 ∧ x.1 ≤ 9223372036854775807) ∧ x.2.length ≤ 140737488355328 := by
  have hb := bare_opened Tryd.underlying31 h
  obtain ⟨fuel, hf⟩ := h
  rcases open_slice_pairs Tryd.underlying31 Tryd.underlying37 (by kernel_rfl) rfl rfl (by kernel_rfl) (by kernel_rfl) hf with ⟨hcs, _⟩ | ⟨a, len', cap', m, n, V0, V1, D0, D1, P0, P1, hcs, _, hl, hm', hmm, hx, hall⟩
  · simp [Value.cells] at hcs
    obtain ⟨rfl, rfl, rfl⟩ := hcs
    exact ⟨[], rfl, ⟨RdL.nil _ _ _ _ _ (by omega), hb⟩, fun x h => by cases h⟩
  · simp [Value.cells] at hcs
    obtain ⟨rfl, rfl, rfl⟩ := hcs
    simp only [if_true] at hmm
    subst hmm
    have hx1 := (Prod.mk.inj hx).1
    rw [hx1] at hdj
    have hbig : ∀ i, i < len → ∀ bs, D1 i = .lit (.string bs) → bs.length ≤ reachBytes := fun i hi bs hbs => by
      have hw := List.all_eq_true.1 hsz _ (DataW.weights_mem_each htj hdj bs.length (by
        simp only [DataW.weights, Tryd.underlying31]
        refine List.mem_cons_of_mem _ (List.mem_append_left _ ?_)
        have key : ∀ (l : List (DataW H)) (d : DataW H), d ∈ l → ∀ n ∈ d.weights Tryd.prog 37, n ∈ DataW.weightsAll Tryd.prog 37 l := by
          intro l
          induction l with
          | nil => intro d hd; cases hd
          | cons z l ih =>
            intro d hd n hn
            simp only [DataW.weightsAll, List.mem_append]
            rcases List.mem_cons.1 hd with rfl | hd
            · exact .inl hn
            · exact .inr (ih d hd n hn)
        refine key _ (.agg [D0 i, D1 i]) (List.mem_map.2 ⟨i, List.mem_range.2 hi, rfl⟩) _ ?_
        simp only [DataW.weights, Tryd.underlying37, hbs]
        simp [DataW.weightsEach, DataW.weights]))
      simpa using hw
    have each : ∀ i, i < m → ∃ q : It, (-9223372036854775808 ≤ q.1 ∧ q.1 ≤ 9223372036854775807) ∧ (i < len → q.2.length ≤ 140737488355328) ∧ W.cell? (a.add (i * 2)) = some (.int .i64 q.1) ∧ W.cell? (a.add (i * 2 + 1)) = some (.string ⟨q.2.toArray⟩) := fun i hi => by
      obtain ⟨g0, g1, t0, t1⟩ := hall i hi
      obtain ⟨z, hz, _, hw⟩ := DataW.trod_int Tryd.underlying3 t0
      obtain ⟨s, hs, hd, _⟩ := DataW.trod_string Tryd.underlying9 t1
      have e0 : V0 i = .int .i64 z := by simpa using hz
      have e1 : V1 i = .string s := by simpa using hs
      refine ⟨(z, s.data.toList), bounds_i64 hw, fun hil => ?_, by rw [g0, e0], by rw [g1, e1]⟩
      have := hbig i hil s.data.toList (Prod.mk.inj hd).1
      have h47 := reachBytes_lt
      show s.data.toList.length ≤ _
      omega
    let q : Nat → It := fun i => if h : i < m then (each i h).choose else default
    have hq : ∀ i, i < m → (-9223372036854775808 ≤ (q i).1 ∧ (q i).1 ≤ 9223372036854775807) ∧ (i < len → (q i).2.length ≤ 140737488355328) ∧ W.cell? (a.add (i * 2)) = some (.int .i64 (q i).1) ∧ W.cell? (a.add (i * 2 + 1)) = some (.string ⟨(q i).2.toArray⟩) := fun i hi => by
      have := (each i hi).choose_spec
      simpa only [q, hi, dif_pos] using this
    refine ⟨(List.range len).map q, by simp, ⟨⟨by simpa using hl, by simpa [maxLen] using hm', fun h => ?_⟩, hb⟩, fun x hx => ?_⟩
    · simp at h
      obtain ⟨b, o, s⟩ := a
      have h0 := (hq 0 (by omega)).2.2.1
      obtain rfl : s = none := by simpa [Addr.add] using World.cell?_spot h0
      refine ⟨b, o, rfl, fun i e hi j v hv => ?_⟩
      have hil := (List.getElem?_eq_some_iff.1 hi).1
      simp at hil
      have he : e = q i := by simpa [hil] using hi.symm
      subst he
      obtain ⟨_, _, h1, h2⟩ := hq i (by omega)
      match j, hv with
      | 0, hv =>
        obtain rfl := Option.some.inj hv
        rw [add_plain] at h1
        exact h1
      | 1, hv =>
        obtain rfl := Option.some.inj hv
        rw [add_plain] at h2
        exact h2
    · obtain ⟨i, hi, rfl⟩ := List.mem_map.1 hx
      have hi' := List.mem_range.1 hi
      have h1 := hq i (by omega)
      exact ⟨h1.1, h1.2.1 hi'⟩
end Go.Proofs.YtmnncildkomagaaDoor
