/-
  LAYER 6 (deadlinequeue): the queue's methods New, Len, Peek, Pop, Remove, Push.
-/
import Derived.Test.YtjcoghjkjnhljaaDqHeap2
namespace Go.Proofs.Ytjcoghjkjnhljaa
open Go Go.RowKit Go.IntWalk Go.Sort
set_option maxRecDepth 8000
set_option linter.unusedSimpArgs false

/-- The queue at q has the items of the ordered list L. -/
def QRep (w : World) (q : Nat) (L : List It) : Prop := ∃ d, Que w q d ∧ Rep d L
theorem QRep.grew {w w' : World} {q : Nat} {L : List It} (h : QRep w q L) (hg : Grew w w') : QRep w' q L := let ⟨d, h1, h2⟩ := h; ⟨d, h1.grew hg, h2⟩
theorem QRep.lt {w : World} {q : Nat} {L : List It} (h : QRep w q L) : q < w.heap.size := let ⟨_, h1, _⟩ := h; h1.lt
theorem ret_itb {fn : Func} {p q : Tmp} (h : fn.results = #[.cell p 32, .tmp q]) {tmps : Array Value} {w : World} {S : Nat} {x : It} {b : Bool} {R : Ending → World → Prop} (hp : tmps.getD p undef = .pointer (some ⟨S, 0, none⟩)) (hq : tmps.getD q undef = .bool b)
    (hb : Bx S 0 x w) (hR : R (.returned (.tuple #[itv x, .bool b])) w) : bodyPost Try.prog fn R .ret { tmps := tmps, defers := [] } w := by
  obtain ⟨h0, h1⟩ := hb
  refine bodyPost_ret (v := .tuple #[itv x, .bool b]) ?_ rfl hR
  rw [Array.getD_eq_getD_getElem?] at hp hq
  simp [results, h, hp, hq, h0, h1, go_sem]
theorem Grew.setN {a w : World} (h : Grew a w) {S : Nat} (hS : a.heap.size ≤ S) (k : Nat) (v : Value) : Grew a (w.setCell ⟨S, k, none⟩ v) := Below.setCell h (p := ⟨S, k, none⟩) hS _

theorem new_any (w : World) : Calls Try.prog 10 #[] w fun e w' => e = .returned (.pointer (some ⟨w.heap.size, 0, none⟩)) ∧ QRep w' w.heap.size [] ∧ Grew w w' := by
  go_enter Try.func10, Try.ntmps10
  go_wp2
  go_ret
  refine ⟨rfl, ⟨#[], ⟨none, 0, none, heap_alloc_new w _, OwI.nil _ _ _, .inl ⟨rfl, rfl⟩, List.Pairwise.nil, fun k hk => by simp at hk⟩, rep_nil⟩, (Grew.refl w).alloc _⟩
theorem len_any (q : Nat) (L : List It) (w : World) (h : QRep w q L) : Calls Try.prog 14 #[.pointer (some ⟨q, 0, none⟩)] w fun e w' => e = .returned (.int .i64 (L.length : Int)) ∧ w = w' := by
  obtain ⟨d, h1, h2⟩ := h
  have hl := lenQ q d w h1
  rw [h2.size] at hl
  have HL := Lib.hid hl
  clear hl h1 h2
  go_enter Try.func14, Try.ntmps14
  go_wp2_with (go_at_call 29; (with_reducible refine HL.out.mono ?_); rintro e _ ⟨rfl, rfl⟩)
  go_ret
  exact ⟨rfl, rfl⟩
/-- What Peek and Pop return. -/
def first (L : List It) : It := L.headD (0, 0)
theorem peek_any (q : Nat) (L : List It) (w : World) (h : QRep w q L) : Calls Try.prog 13 #[.pointer (some ⟨q, 0, none⟩)] w fun e w' => e = .returned (.tuple #[itv (first L), .bool (!L.isEmpty)]) ∧ Grew w w' := by
  have hlen := len_any q L
  have hq := h.lt
  cases L with
  | nil =>
    have HL : Hid (∀ W, Grew w W → Calls Try.prog 14 #[.pointer (some ⟨q, 0, none⟩)] W fun e w' => e = .returned (.int .i64 0) ∧ W = w') := Lib.hid fun W hg => hlen W (h.grew hg)
    clear hlen h
    go_enter Try.func13, Try.ntmps13
    go_wp2_with (go_at_call 14; (with_reducible refine (HL.out _ ((Grew.refl w).alloc _)).mono ?_); rintro e _ ⟨rfl, rfl⟩)
    refine ret_itb Try.results13 rfl rfl (S := w.heap.size) (x := (0, 0)) (b := false) ⟨by go_simp, by go_simp⟩ ⟨rfl, ?_⟩
    repeat (first | with_reducible exact Grew.refl _ | with_reducible refine Grew.alloc ?_ _ | with_reducible refine Grew.setN ?_ (Nat.le_refl _) _ _)
  | cons x L =>
    have HL : Hid (∀ W, Grew w W → Calls Try.prog 14 #[.pointer (some ⟨q, 0, none⟩)] W fun e w' => e = .returned (.int .i64 ((L.length : Int) + 1)) ∧ W = w') := Lib.hid fun W hg => hlen W (h.grew hg)
    obtain ⟨d, h1, h2⟩ := h
    have hx := h2.head
    have hs := h2.size
    rw [List.length_cons] at hs
    obtain ⟨p, c, m, h1⟩ := h1
    obtain ⟨g, b, rfl, rfl, _, hg, _⟩ := h1.full (by omega)
    obtain ⟨hb0, hb1⟩ := Rd_bx h1.own 0 (by omega)
    rw [hx] at hb0 hb1
    have hS := h1.record.cells.1
    obtain ⟨n, hn⟩ : ∃ n, d.size = n + 1 := ⟨L.length, hs⟩
    rw [hn] at hS
    simp only [Nat.zero_mul, Nat.add_zero, Nat.zero_add] at hb0 hb1
    have t1 : ((L.length : Int) + 1 == 0) = false := beq_eq_false_iff_ne.2 (by omega)
    clear hlen h1 h2 hx hs
    go_enter Try.func13, Try.ntmps13
    go_wp2_with (go_at_call 14; (with_reducible refine (HL.out _ ((Grew.refl w).alloc _)).mono ?_); rintro e _ ⟨rfl, rfl⟩)
    refine ret_itb Try.results13 rfl rfl (S := w.heap.size) (x := x) (b := true) ⟨by go_simp, by go_simp⟩ ⟨rfl, ?_⟩
    repeat (first | with_reducible exact Grew.refl _ | with_reducible refine Grew.alloc ?_ _ | with_reducible refine Grew.setN ?_ (Nat.le_refl _) _ _)
end Go.Proofs.Ytjcoghjkjnhljaa
