/-
  CONTRACTS OF LAYER 14 (diag): the list's map; Add, Err.
-/
import Derived.Test.YtmnncildkomagaaDoorDiFmt
import Derived.Test.YtmnncildkomagaaDoorSetM
import Derived.DeepKeys4
import Derived.Carry
namespace Go.Proofs.YtmnncildkomagaaDoor
open Go Go.RowKit Go.IntWalk
open Go.Maps (Keyed)
set_option linter.unusedSimpArgs false
set_option linter.unusedVariables false
set_option maxRecDepth 8000

/-- A diagnostic that a program can hold. -/
def OkI (x : It) : Prop := (-9223372036854775808 ≤ x.1 ∧ x.1 ≤ 9223372036854775807) ∧ x.2.length ≤ 140737488355328
theorem itv_inj (x y : It) (h : itv x = itv y) : x = y := by
  have h1 : (#[.int .i64 x.1, .string ⟨x.2.toArray⟩] : Array Value) = #[.int .i64 y.1, .string ⟨y.2.toArray⟩] := Value.agg.inj h
  have h2 := congrArg Array.toList h1
  simp at h2
  exact Prod.ext h2.1 h2.2
/-- A key of two cells, a number and a text. -/
theorem key_mk {P : Program} {k : TypeId} {f0 f1 : Field} (hu : P.underlying k = some (.struct #[f0, f1])) (hk : P.keyType k = true) (hp : 0 < P.types.size) (c2 : P.cellsOf k = 2) (h0 : P.underlying f0.type = some (.int .i64)) (h1 : P.underlying f1.type = some .string)
    (o0 : f0.offset = 0) (o1 : f1.offset = 1) (c0 : P.cellsOf f0.type = 1) (c1 : P.cellsOf f1.type = 1) (n0 : f0.name ≠ "_") (n1 : f1.name ≠ "_") {z : Int} {s : ByteArray} (hw : (Lit.int .i64 z).wf = true) (hz : s.size ≤ maxLen) :
    ∃ l, keyOf P k (.agg #[.int .i64 z, .string s]) = some l := by
  obtain ⟨m, hm⟩ : ∃ m, P.types.size = m + 1 := ⟨P.types.size - 1, by omega⟩
  refine ⟨.string (keyBytes [.int .i64 z, .string s.data.toList]), ?_⟩
  simp [keyOf, hu, hk, Value.formed, c2, hm, Program.keyLits, h0, h1, o0, o1, n0, n1, Value.cells, c0, c1, hw, hz]
theorem laidD : laidOutB Tryd.prog = true := by kernel_rfl
theorem lawD : WideMaps.KeyLaw Tryd.prog 37 := deep_law_laid laidD (m := 3) (by omega) (of_decide_eq_true (by kernel_rfl)) (by kernel_rfl) (by rw [Tryd.underlying37])
theorem keyedD : Keyed Tryd.prog 37 := Keyed.of_law lawD
theorem key_of (x : It) (h : OkI x) : ∃ l, keyOf Tryd.prog 37 (itv x) = some l :=
  key_mk Tryd.underlying37 (by kernel_rfl) (of_decide_eq_true (by kernel_rfl)) (by kernel_rfl) Tryd.underlying3 Tryd.underlying9 rfl rfl (by kernel_rfl) (by kernel_rfl) (by decide) (by decide) (WalkArith.wf_i64 h.1) (by
    show x.2.length ≤ _
    have := h.2
    unfold maxLen
    omega)
/-- A list of diagnostics at q: its map holds the diagnostics L, each once. -/
def Ls (q : Nat) (mo : Option Nat) (L : List It) (w : World) : Prop :=
  Blk q [.map mo] 35 w ∧ (mo = none → L = []) ∧ ∀ b, mo = some b → SetM Tryd.prog 37 itv w b L
theorem Ls.lt {q : Nat} {mo : Option Nat} {L : List It} {w : World} (h : Ls q mo L w) : q < w.heap.size := h.1.lt
theorem Ls.chg {q : Nat} {mo : Option Nat} {L : List It} {w w' : World} {S : Nat → Prop} (h : Ls q mo L w) (hc : Chg w w' S) (hq : ¬ S q) (hb : ∀ b, mo = some b → ¬ S b) : Ls q mo L w' :=
  ⟨h.1.chg hc hq, h.2.1, fun b e => (h.2.2 b e).chg hc (hb b e)⟩
theorem Ls.grew {q : Nat} {mo : Option Nat} {L : List It} {w w' : World} (h : Ls q mo L w) (hg : Grew w w') : Ls q mo L w' := ⟨h.1.grew hg, h.2.1, fun b e => (h.2.2 b e).grew hg⟩
theorem Ls.new (w : World) : Ls w.heap.size none [] (w.alloc (.cells #[.map none] 35)) := ⟨Blk.new w [.map none] _, fun _ => rfl, fun b e => by cases e⟩
theorem Ls.nodup {q : Nat} {mo : Option Nat} {L : List It} {w : World} (h : Ls q mo L w) : L.Nodup := by
  cases mo with
  | none => rw [h.2.1 rfl]; exact List.nodup_nil
  | some b =>
    obtain ⟨es, c, _, hM⟩ := h.2.2 b rfl
    exact hM.nodup
theorem Ls.ne {q b : Nat} {L : List It} {w : World} (h : Ls q (some b) L w) : q ≠ b := fun e => by
  obtain ⟨es, c, hb, _⟩ := h.2.2 b rfl
  have h1 : w.heap[q]? = _ := h.1
  rw [e, hb] at h1
  simp at h1
abbrev MapT : TypeId := 33
theorem run_equalIn_map {P : Program} (w : World) (d : Nat) {t k e : TypeId} (h : P.underlying t = some (.map k e)) (a : Option Nat) : (Op.equalIn (d + 1) t (.map a) (.map none)).run P w = .ok a.isNone w := by
  cases a <;> simp [Op.equalIn, run_underlying h]
theorem eq_nil (W : World) : (binOp .eql MapT (.map none) (.map none)).run Tryd.prog W = .ok (.bool true) W := by
  simp only [binOp]
  simp [Op.equal, Op.maxDepth, run_equalIn_map W 9999 Tryd.underlying33 none]
theorem eq_some (W : World) (b : Nat) : (binOp .eql MapT (.map (some b)) (.map none)).run Tryd.prog W = .ok (.bool false) W := by
  simp only [binOp]
  simp [Op.equal, Op.maxDepth, run_equalIn_map W 9999 Tryd.underlying33 (some b)]
/-- What Add does. -/
def Added (q : Nat) (mo : Option Nat) (L : List It) (x : It) (w w' : World) : Prop :=
  ∃ b L', Ls q (some b) L' w' ∧ (∀ z, z ∈ L' ↔ z = x ∨ z ∈ L) ∧ (mo = some b ∨ (mo = none ∧ w.heap.size ≤ b)) ∧ Chg w w' (fun k => k = q ∨ mo = some k)
set_option maxHeartbeats 1000000 in
theorem add_any (q : Nat) (mo : Option Nat) (L : List It) (x : It) (w : World) (h : Ls q mo L w) (hx : OkI x) :
    Calls Tryd.prog 19 #[PtrTo q, .int .i64 x.1, .string ⟨x.2.toArray⟩] w fun e w' => e = .returned (.tuple #[]) ∧ Added q mo L x w w' := by
  have hk := key_of x hx
  obtain ⟨hB, hn, hs⟩ := h
  have c0 : w.cell? ⟨q, 0, none⟩ = some (.map mo) := hB.cell 0
  have f0 := hB.free 0
  have hq := hB.lt
  cases mo with
  | none =>
    obtain rfl := hn rfl
    have he := eq_nil
    have hmm := @run_makeMap Tryd.prog
    have hsz : (w.setCell ⟨q, 0, none⟩ (.map (some w.heap.size))).heap.size = w.heap.size := by simp
    have hG : Grew (w.setCell ⟨q, 0, none⟩ (.map (some w.heap.size))) ((w.setCell ⟨q, 0, none⟩ (.map (some w.heap.size))).alloc (.map #[] 0)) := (Grew.refl _).alloc _
    have hB2 : Blk q [.map (some w.heap.size)] 35 ((w.setCell ⟨q, 0, none⟩ (.map (some w.heap.size))).alloc (.map #[] 0)) := (hB.set 0 _).grew hG
    have hS := SetM.made (P := Tryd.prog) (k := 37) (kv := itv) (w.setCell ⟨q, 0, none⟩ (.map (some w.heap.size)))
    rw [hsz] at hS
    obtain ⟨w', hrun, hS', hC⟩ := hS.put keyedD Tryd.underlying33 itv_inj x hk
    have HF : Hid (Added q none [] x w w') := Lib.hid ⟨w.heap.size, putL x [], ⟨hB2.chg hC (fun e => absurd (show q = w.heap.size from e) (by omega)), (fun e => by cases e), fun b e => by obtain rfl := Option.some.inj e; exact hS'⟩, mem_putL x [], .inr ⟨rfl, Nat.le_refl _⟩, by
      refine ⟨hC.os, hC.tape, hC.output, ?_, fun k hk' hne => ?_⟩
      · have := hC.size
        simp at this
        omega
      · have h1 := hC.block k (by simp; omega) (fun e => by omega)
        rw [h1, Below.block hG k (by simp; omega)]
        exact (Chg.set w ⟨q, 0, none⟩ (.map (some w.heap.size))).block k hk' (fun e => hne (.inl e))⟩
    clear hsz
    clear hS hS' hC hB2 hG hB hs hn
    go_enter Tryd.func19, Tryd.ntmps19
    go_wp2
    go_end0
    exact ⟨rfl, HF.out⟩
  | some b =>
    have he := eq_some
    have hS := hs b rfl
    obtain ⟨w', hrun, hS', hC⟩ := hS.put keyedD Tryd.underlying33 itv_inj x hk
    have hne : q ≠ b := Ls.ne ⟨hB, hn, hs⟩
    have HF : Hid (Added q (some b) L x w w') := Lib.hid ⟨b, putL x L, ⟨hB.chg hC hne, (fun e => by cases e), fun b' e => by obtain rfl := Option.some.inj e; exact hS'⟩, mem_putL x L, .inl rfl, hC.mono fun k e => .inr (by rw [e])⟩
    clear hS hS' hC hB hs hn
    go_enter Tryd.func19, Tryd.ntmps19
    go_wp2
    go_end0
    exact ⟨rfl, HF.out⟩
theorem err_any (q : Nat) (mo : Option Nat) (L : List It) (w : World) (h : Ls q mo L w) :
    Calls Tryd.prog 21 #[PtrTo q] w fun e w' => e = .returned (.bool (decide (0 < L.length))) ∧ w = w' := by
  have c0 : w.cell? ⟨q, 0, none⟩ = some (.map mo) := h.1.cell 0
  cases mo with
  | none =>
    obtain rfl := h.2.1 rfl
    have hl := Maps.len_nil (P := Tryd.prog) (w := w) Tryd.underlying33 3
    go_enter Tryd.func21, Tryd.ntmps21
    go_wp2
    go_ret
    exact ⟨rfl, rfl⟩
  | some b =>
    have hl := (h.2.2 b rfl).len Tryd.underlying33 3
    by_cases h0 : 0 < L.length
    · have HD := Lib.hid (show decide (0 < L.length) = true from decide_eq_true h0)
      go_enter Tryd.func21, Tryd.ntmps21
      go_wp2
      go_ret
      exact ⟨ret_bool (by first | rfl | exact HD.out.symm), rfl⟩
    · have HD := Lib.hid (show decide (0 < L.length) = false from decide_eq_false h0)
      have h1 : ¬ (0 : Int) < (L.length : Int) := by omega
      go_enter Tryd.func21, Tryd.ntmps21
      go_wp2
      go_ret
      exact ⟨ret_bool (by first | rfl | exact HD.out.symm), rfl⟩
end Go.Proofs.YtmnncildkomagaaDoor
