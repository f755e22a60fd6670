/-
  LAYER 7 (nvm): every operation; the operations that come in; small.
-/
import Derived.Test.YtmfahmbebpojpaaNvDo4
import Derived.Deep.LoopGhost
import Derived.Deep.SlicePairs
import Derived.Deep.Strs
import Derived.Lib.SmallJoins
namespace Go.Proofs.Ytmfahmbebpojpaa
open Go Go.RowKit Go.IntWalk
set_option linter.unusedSimpArgs false
set_option maxRecDepth 8000

theorem do_any (g q : Nat) (s : NV) (x : RM) (p : Option Addr) (c : Nat) (L : Int) (kd ad nn : Int) (bp : Option Addr) (nb bc : Nat) (ys : List UInt8) (w0 : World) (hI : DoIn g q s x p c L w0) (hL : -9223372036854775807 ≤ L ∧ L ≤ 0) (hk : 0 ≤ kd) (hn : -9223372036854775808 ≤ nn ∧ nn ≤ 9223372036854775807)
    (hy : ys.length = nb) (hb : Bin w0 bp bc ys) (ha : 0 < ys.length → Away (Nvb g q s.mt) bp) :
    Calls Try.prog 13 #[.pointer (some ⟨q, 0, none⟩), rmv x p c, opv kd ad nn bp nb bc] w0 (DoPost g q s p L x.B.length w0) := by
  have h0 := Int.tmod_nonneg 9 hk
  have h1 := Int.tmod_lt_of_pos kd (show (0 : Int) < 9 by decide)
  have hc : kd.tmod 9 = 0 ∨ kd.tmod 9 = 1 ∨ kd.tmod 9 = 2 ∨ kd.tmod 9 = 3 ∨ kd.tmod 9 = 4 ∨ kd.tmod 9 = 5 ∨ kd.tmod 9 = 6 ∨ kd.tmod 9 = 7 ∨ kd.tmod 9 = 8 := by omega
  rcases hc with hc | hc | hc | hc | hc | hc | hc | hc | hc
  · exact do_write g q s x p c L kd ad nn bp nb bc w0 hI hL hc
  · exact do_word g q s x p c L kd ad nn bp nb bc w0 hI hL hc
  · exact do_bytes g q s x p c L kd ad nn bp nb bc w0 hI hL hc ys hy hb ha
  · exact do_arm g q s x p c L kd ad nn bp nb bc w0 hI hL hn hc
  · exact do_meter g q s x p c L kd ad nn bp nb bc w0 hI hL hc
  · exact do_nometer g q s x p c L kd ad nn bp nb bc w0 hI hL hn hc
  · exact do_poff g q s x p c L kd ad nn bp nb bc w0 hI hL hn hc
  · exact do_pon g q s x p c L kd ad nn bp nb bc w0 hI hL hn hc
  · exact do_load g q s x p c L kd ad nn bp nb bc w0 hI hL hc ys hy hb ha
/-- An operation that comes in: its numbers, where its bytes lie, what they are. -/
structure OpM where
  kd : Int
  ad : Int
  nn : Int
  bp : Option Addr
  bc : Nat
  ys : List UInt8
instance : Inhabited OpM := ⟨⟨0, 0, 0, none, 0, []⟩⟩
def OpM.ok (o : OpM) : Prop := 0 ≤ o.kd ∧ (-9223372036854775808 ≤ o.ad ∧ o.ad ≤ 9223372036854775807) ∧ (-9223372036854775808 ≤ o.nn ∧ o.nn ≤ 9223372036854775807)
/-- The slice of operations reads as xs. -/
structure RdM (w : World) (p : Option Addr) (c : Nat) (xs : List OpM) : Prop where
  cap : xs.length ≤ c
  max : c ≤ 9223372036854775807
  cells : 0 < xs.length → ∃ b o, p = some ⟨b, o, none⟩ ∧ ∀ i x, xs[i]? = some x → w.cell? ⟨b, o + i * 4, none⟩ = some (.int .u8 x.kd) ∧ w.cell? ⟨b, o + i * 4 + 1, none⟩ = some (.int .i64 x.ad) ∧ w.cell? ⟨b, o + i * 4 + 2, none⟩ = some (.int .i64 x.nn) ∧ w.cell? ⟨b, o + i * 4 + 3, none⟩ = some (.slice x.bp x.ys.length x.bc)
  bytes : ∀ x ∈ xs, Bin w x.bp x.bc x.ys
  good : ∀ x ∈ xs, x.ok
theorem RdM.kept {w w' : World} {p : Option Addr} {c : Nat} {xs : List OpM} (h : RdM w p c xs) (hb : Grew w w') : RdM w' p c xs :=
  ⟨h.cap, h.max, fun hn => by
    obtain ⟨b, o, rfl, hc⟩ := h.cells hn
    refine ⟨b, o, rfl, fun i e hi => ?_⟩
    obtain ⟨h1, h2, h3, h4⟩ := hc i e hi
    have k : ∀ {a : Addr} {v : Value}, w.cell? a = some v → w'.cell? a = some v := fun {a} {v} hv => (Below.cell hb (p := a) (World.block_lt_of_cell? _ _ hv)).trans hv
    exact ⟨k h1, k h2, k h3, k h4⟩, fun x hx => (h.bytes x hx).gr hb, h.good⟩
section
variable {H : Type} {enc : TypeId × Value → H} {P : Program} {W : World}
theorem slice_form' {t e : TypeId} {fuel : Nat} {v : Value} {y : DataW H × List MemPlace} (ht : P.underlying t = some (.slice e)) (h : DataW.trod enc P W 0 (fun _ => true) true fuel t [v] = some y) : ∃ p n c, v = .slice p n c := by
  rcases Go.Deep.open_slice ht h with ⟨hc, _⟩ | ⟨a, len, cap, _, _, _, _, hc, _⟩
  · simp only [List.cons.injEq, and_true] at hc
    exact ⟨_, _, _, hc⟩
  · simp only [List.cons.injEq, and_true] at hc
    exact ⟨_, _, _, hc⟩
end
def SmP (w0 : World) (e : Ending) (w' : World) : Prop := ∃ b : Bool, e = .returned (.bool b) ∧ Grew w0 w'
/-- small says what it will: it makes memory alone. -/
theorem small_any (z : Int) (p : Option Addr) (n c : Nat) (xs : List OpM) (w0 : World) (hl : xs.length = n) (hx : RdM w0 p c xs) :
    Calls Try.prog 10 #[.int .i64 z, .slice p n c] w0 (SmP w0) := by
  subst hl
  have HX := Lib.hid hx
  have hcap := hx.cap
  have hmax := hx.max
  clear hx
  go_enter Try.func10, Try.ntmps10
  go_wp2
  go_loopg [5, 10] xs.length (fun gg nv iv wr => ∃ (k : Nat) (y : Int), nv = .int .i64 y ∧ iv = .int .i64 (k : Int) ∧ k ≤ xs.length ∧ gg = xs.length - k ∧ Hid (Grew w0 wr))
  case atStart => exact ⟨0, 0, rfl, rfl, Nat.zero_le _, rfl, Lib.hid (Grew.refl _)⟩
  case round =>
    obtain ⟨k, y, rfl, rfl, hk, rfl, hG⟩ := hrel
    by_cases hlt : k < xs.length
    · obtain ⟨b, o, rfl, hc⟩ := (HX.out.kept hG.out).cells (by omega)
      obtain ⟨c0, c1, c2, c3⟩ := hc k xs[k] (by simp [hlt])
      have hlb : b < wr.heap.size := World.block_lt_of_cell? _ _ c0
      have HLT := Lib.hid (Nat.succ_le_of_lt hlt)
      generalize xs[k] = e at c0 c1 c2 c3
      clear hc
      go_wp2
      · go_ret
        exact ⟨_, rfl, hG.out.al _⟩
      · go_roundg (xs.length - (k + 1))
        case measure => have := HLT.out; omega
        case rel => exact ⟨k + 1, _, rfl, by go_num, HLT.out, rfl, Lib.hid (hG.out.al _)⟩
    · obtain rfl : k = xs.length := by omega
      go_wp2
      all_goals (go_ret; exact ⟨_, rfl, hG.out⟩)
end Go.Proofs.Ytmfahmbebpojpaa
