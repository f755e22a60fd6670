/-
  What the listed variables give the walks of layer 15 (lexer); how a slice of tokens that came in opens; the frame with both the laid variables and the world's shape.
-/
import Derived.Test.YtcajamgajchheaaDoorLxBase
import Derived.Test.YtcajamgajchheaaDoorLxPlain2
import Derived.Test.YtcajamgajchheaaDoorLaidRows
import Derived.Test.YtcajamgajchheaaDoorRows
import Derived.Test.YtcajamgajchheaaDoorRdL
import Derived.Deep.SlicePairs
import Derived.ProofKit
import Derived.LaidMore
import Derived.OpenShut
import Derived.ShutString
import Derived.ChangeOld
import Derived.ChangeSame
import Derived.HandedShaped
import Derived.SizedLaws
import Derived.Lib.LaidTab
import Derived.Stop.LaidErr
import Derived.Stop.Joined
import Derived.Lay
namespace Go.Proofs.YtcajamgajchheaaDoor
open Go.ChangeShapes Go.WideShapes Go.ChangeAt Go.RowKit

theorem own : ownKnob Tryd.prog.godebug = none := by kernel_rfl
theorem laidOut : laidOutB Tryd.prog = true := by kernel_rfl
theorem star : "*" ++ "errors.errorString" = "*errors.errorString" := by decide
theorem bounds_i64 {x : Int} (h : (Lit.int .i64 x).wf = true) : -9223372036854775808 ≤ x ∧ x ≤ 9223372036854775807 := by
  simpa [Lit.wf, IntKind.min, IntKind.max, IntKind.bits, IntKind.signed] using h
theorem bounds_i16 {x : Int} (h : (Lit.int .i16 x).wf = true) : -32768 ≤ x ∧ x ≤ 32767 := by
  simpa [Lit.wf, IntKind.min, IntKind.max, IntKind.bits, IntKind.signed] using h
theorem bounds_u8 {x : Int} (h : (Lit.int .u8 x).wf = true) : 0 ≤ x ∧ x ≤ 255 := by
  simpa [Lit.wf, IntKind.min, IntKind.max, IntKind.bits, IntKind.signed] using h
def arr1V {H : Type} : DataW H → List Value
  | .agg ds => ds.map litV
  | _ => []
section
variable {H : Type} {enc : TypeId × Value → H} {P : Program} {w : World} {base : Nat} {sp : Nat → Bool} {held : Bool} {fuel : Nat} {cs : List Value}
/-- The cells of an array whose elements take one cell each. -/
theorem arr1_vals {T e : TypeId} {m : Nat} {x : DataW H × List MemPlace} (hT : P.underlying T = some (.array m e)) (hf1 : flat1 P e = true) (hce : P.cellsOf e = 1) (hcT : P.cellsOf T = m)
    (h : DataW.trod enc P w base sp held fuel T cs = some x) : cs = arr1V x.1 := by
  obtain ⟨xs, n, _, rfl, hl, hxs, hf⟩ := DataW.trod_array hT h
  show cs = (xs.map (·.1)).map litV
  rw [hcT] at hl
  apply List.ext_getElem?
  intro i
  by_cases hi : i < m
  · have hx : i < xs.length := by omega
    have h5 := hf i (by omega)
    rw [List.getElem?_eq_getElem hx, hce, Nat.mul_one] at h5
    have h6 := lit_vals hf1 h5
    have h7 : cs[i]? = some (litV xs[i].1) := by
      have := congrArg (·[0]?) h6
      simpa [List.getElem?_take, List.getElem?_drop] using this
    rw [h7]
    simp [List.getElem?_eq_getElem hx]
  · rw [List.getElem?_eq_none (by omega), List.getElem?_eq_none (by simp; omega)]
end
/-- From the row's condition: a table of strings stands first on the list. -/
theorem strs_of_head {P : Program} {W : World} {name : String} {d : DataW Unit} {rest : List (String × DataW Unit)} {g : Nat} {T e : TypeId} {m : Nat}
    (hg : P.globalNamed name = some g) (hty : (P.globals[g]?).map (·.type) = some T) (hT : P.underlying T = some (.array m e)) (hf1 : flat1 P e = true) (hce : P.cellsOf e = 1) (hcT : P.cellsOf T = m)
    (h : laidMet P ((name, d) :: rest) W) : W.var? P name = some (arr1V d).toArray := by
  obtain ⟨ps, ⟨g', t', cs, fuel, p, q, hg', ht', hvar, hd, _, _⟩, _⟩ := h
  obtain rfl := Option.some.inj (hg.symm.trans hg')
  obtain rfl := Option.some.inj (hty.symm.trans ht')
  have := arr1_vals hT hf1 hce hcT hd
  rw [hvar, ← this]
theorem rowErr (u : TypeId) (h : Tryd.prog.typeName? 3 u = some "*errors.errorString") : u = 117 :=
  typeName_ptr_named (nm := "errors.errorString") (by rw [star]; kernel_rfl) (by kernel_rfl) (by decide) u (by rw [star]; exact h)
theorem kw_parts {W : World} {r : List (String × DataW Unit)} (h : laidMet Tryd.prog (("trickle/lexer.keywords", Rows.laid_trickle_lexer_keywords) :: r) W) : W.var? Tryd.prog "trickle/lexer.keywords" = some (kwl.map (fun l => Value.string ⟨l.toArray⟩)).toArray :=
  strs_of_head (g := 0) (T := 63) (e := 9) (m := 22) (by kernel_rfl) (by kernel_rfl) Tryd.underlying63 (by kernel_rfl) (by kernel_rfl) (by kernel_rfl) h
theorem mk_parts {W : World} {r : List (String × DataW Unit)} (h : laidMet Tryd.prog (("trickle/lexer.marks", Rows.laid_trickle_lexer_marks) :: r) W) : W.var? Tryd.prog "trickle/lexer.marks" = some (mks.map (fun l => Value.string ⟨l.toArray⟩)).toArray :=
  strs_of_head (g := 1) (T := 64) (e := 9) (m := 23) (by kernel_rfl) (by kernel_rfl) Tryd.underlying64 (by kernel_rfl) (by kernel_rfl) (by kernel_rfl) h
theorem env_of_laid {W : World} (_hs : W.ShapedOpen Tryd.prog) (h : laidMetH Tryd.prog Rows.lexerScanRow.laid W) : Env W := by
  have hL : laidMet Tryd.prog Rows.lexerScanRow.laid W := by
    rw [MakeChecks.laidMetH_plain _ _ _ (by kernel_rfl)] at h
    exact h
  have h3 := hL.tail.tail
  have h5 := h3.tail.tail
  have h7 := h5.tail.tail
  refine ⟨kw_parts h7, mk_parts h7.tail, Lib.tabIs_of_head (n := 20) (t := 112) (e := 87) (show Tryd.prog.globalNamed "internal/strconv.uint64pow10" = some 7 by kernel_rfl) (by kernel_rfl) Tryd.underlying112 Tryd.underlying87 (by kernel_rfl) (by kernel_rfl) h3, ?_⟩
  obtain ⟨a, s, hv, _⟩ := laid_sentinel h5 (show Tryd.prog.globalNamed "strconv.ErrRange" = some 6 by kernel_rfl) (show _ = some 58 by kernel_rfl) Tryd.underlying58 rowErr Tryd.underlying117 Tryd.underlying119 rfl rfl Tryd.underlying9 (by kernel_rfl) (by kernel_rfl)
  exact ⟨_, _, hv⟩

/-- A world in which the listed variables hold what the row says. -/
theorem door_met (os : Os) (args : Array Value) : laidMetH Tryd.prog Rows.lexerScanRow.laid ((World.laidAll Tryd.prog os Rows.lexerScanRow.laid).forCall (fun _ _ => 0) ⟨#[], args, []⟩).memory := by
  rw [MakeChecks.laidMetH_plain _ _ _ (by kernel_rfl)]
  exact laidMet_laidAll _ (by kernel_rfl) (by kernel_rfl)

/-- The row's frame: the condition on the laid variables, and the world's shape at the call. -/
theorem handed_laid {H : Type} {enc : TypeId × Value → H} {C : Checked} {os : Os} {f : FuncId} {fn : Func} {s : ChangeSpec} {X : World → Prop}
    (hX : ∀ (w w' : World), w.heap = w'.heap → X w → X w') (ow : ownKnob C.prog.godebug = none) (started : os.Started) (noInit : C.prog.inits.idxOf? f = none) (hfn : C.prog.funcs[f]? = some fn)
    (witness : ∃ (w : World) (tape : Tape) (i : Input), w.os = os ∧ (w.forCall tape i).Shaped C.prog ∧ i.vars = [] ∧ Input.okWide C.prog (w.forCall tape i) .any w.heap.size f i ∧
      ((s.pre enc C.prog fn [] false (w.forCall tape i).memory i.args ∧ X (w.forCall tape i).memory) ∧ sizedMet enc C.prog fn (OpenSpec.ofChange s) false (w.forCall tape i).memory i.args) ∧ Assume.holds {} C.prog (lone (Frame.enter C.prog f i.args .normal) [] (w.forCall tape i)))
    (walk : ∀ (W : World) (base : Nat) (args : Array Value) (ds gs : List (DataW H)) (before : List MemPlace), W.ShapedOpen C.prog → X W →
      (∀ (j : Nat) t v, fn.params[j]? = some t → args[j]? = some v → Value.okWide C.prog W .any base t v) →
      DataW.Whole enc C.prog fn.params.toList s.vars false W args.toList ds gs before →
      (DataW.weightsEach C.prog (fn.params.toList ++ s.plain.varTypes C.prog) (ds ++ gs)).all (· ≤ reachBytes) = true →
      Calls C.prog f args W fun e W' => ∃ v, e = .returned v ∧ s.post enc C.prog fn false true false false W args v W') :
    ReturnsInHanded {} C os f .any (fun w args => (s.pre enc C.prog fn [] false w args ∧ X w) ∧ sizedMet enc C.prog fn (OpenSpec.ofChange s) false w args) (s.post enc C.prog fn false true false false) :=
  returnsInHanded_of_calls ow started noInit witness fun w tape i _ shaped _ wide given _ => by
    obtain ⟨⟨⟨ds, gs, before, whole, _⟩, hx⟩, sized⟩ := given
    obtain ⟨_, _, _, g, hg, _, _, _, _, each⟩ := wide
    obtain rfl : g = fn := Option.some.inj (hg.symm.trans hfn)
    refine (walk (w.forCall tape i) w.heap.size i.args ds gs before shaped (hX _ _ (by rfl) hx) each (DataW.Whole.of_heap (w' := w.forCall tape i) (by rfl) whole) (sized.weights whole)).mono ?_
    rintro e W' ⟨v, rfl, hp⟩
    exact ChangeSpec.post_blind hp


theorem rows_tk (cs : List Value) (h : Rowed [.int .i64, .str, .int .i16, .int .i64] cs) : ∃ q : Tk, cs = tkc q ∧ True := by
  cases h with
  | cons h0 t => cases t with
    | cons h1 t => cases t with
      | cons h2 t => cases t with
        | cons h3 t =>
          cases t
          obtain ⟨a, rfl, _⟩ := h0
          obtain ⟨b, rfl, _⟩ := h1
          obtain ⟨c, rfl, _⟩ := h2
          obtain ⟨d, rfl, _⟩ := h3
          exact ⟨⟨a, b, c, d⟩, rfl, trivial⟩
instance : Inhabited Tk := ⟨⟨0, ⟨#[]⟩, 0, 0⟩⟩
/-- A slice of tokens that came in. -/
theorem open_tks {H : Type} {enc : TypeId × Value → H} {W : World} {t e : TypeId} (ht : Tryd.prog.underlying t = some (.slice e)) (hk : Tryd.prog.cellsOf e = 4) (hks : leafK Tryd.prog 9 e = some [.int .i64, .str, .int .i16, .int .i64]) {a0 : Option Addr} {len cap : Nat} {d0 : DataW H} {p : List MemPlace} (h : DataW.Trod enc Tryd.prog W 0 (fun _ => true) true t (.slice a0 len cap) d0 p) :
    ∃ l : List Tk, l.length = len ∧ Rw 4 tkc W a0 cap l ∧ ∀ x ∈ l, True := by
  have hb := bare_opened ht h
  obtain ⟨l, h1, h2, h3⟩ := RdL.opened 4 tkc (fun _ => True) [.int .i64, .str, .int .i16, .int .i64] ht hk hks rfl rows_tk h (by decide)
  exact ⟨l, h1, ⟨h2, hb⟩, h3⟩
end Go.Proofs.YtcajamgajchheaaDoor
