/-
  CONTRACTS OF LAYER 13 (powertrace): the statement Meter.
-/
import Derived.Test.YtapgpdgbdmnkgaaDoorPtLaws1
import Derived.Test.YtapgpdgbdmnkgaaDoorPtRMeter
import Derived.RangeFuncCalls
import Derived.RangeFuncBound
import Derived.Shelf.Abstract
import Derived.Shelf.AbstractIn
import Derived.OwnWalkIn
import Derived.TacticsInMore
import Derived.LoopIn
namespace Go.Proofs.YtapgpdgbdmnkgaaDoor
open Go Go.RowKit Go.IntWalk Go.Shelf
open Go.Lib (itoa)
set_option linter.unusedSimpArgs false
set_option linter.unusedVariables false
set_option maxRecDepth 8000

section
variable {dst : Option Tmp} {ty : TypeId} {pos : String} {after : Array Edge} {g : Option (Nat × Bool)} {a : Act} {w : World} {T : Value → World → Prop}
theorem rn_fld_37_3 {x : Operand} {S o : Nat} (hx : a.eval x = .pointer (some ⟨S, o, none⟩)) (h : T (.pointer (some ⟨S, o + 3, none⟩)) w) : Runs Tryd.prog ⟨dst, .fieldAddr 37 x 3, ty, pos, after, g⟩ a w T := by
  refine Runs.value (v := .pointer (some ⟨S, o + 3, none⟩)) (w' := w) ?_ h
  simp only [execOp, hx]
  go_simp
theorem rn_ld_4 {x : Operand} {q : Addr} {v : Value} (hx : a.eval x = .pointer (some q)) (hc : w.cell? q = some v) (h : T v w) : Runs Tryd.prog ⟨dst, .load 4 x, ty, pos, after, g⟩ a w T := by
  refine Runs.value (v := v) (w' := w) ?_ h
  simp only [execOp, hx]
  go_simp
theorem rn_neq_4 {o1 o2 : Operand} {b c : Bool} (hx : a.eval o1 = .bool b) (hy : a.eval o2 = .bool c) (h : T (.bool (b != c)) w) : Runs Tryd.prog ⟨dst, .binOp .neq 4 o1 o2 4, ty, pos, after, g⟩ a w T := by
  refine Runs.value (v := .bool (b != c)) (w' := w) ?_ h
  simp only [execOp, hx, hy]
  go_simp
  all_goals (cases b <;> cases c <;> rfl)
theorem rn_fld_37_2 {x : Operand} {S o : Nat} (hx : a.eval x = .pointer (some ⟨S, o, none⟩)) (h : T (.pointer (some ⟨S, o + 2, none⟩)) w) : Runs Tryd.prog ⟨dst, .fieldAddr 37 x 2, ty, pos, after, g⟩ a w T := by
  refine Runs.value (v := .pointer (some ⟨S, o + 2, none⟩)) (w' := w) ?_ h
  simp only [execOp, hx]
  go_simp
theorem rn_neq_3 {o1 o2 : Operand} {b c : Int} (hx : a.eval o1 = .int .i64 b) (hy : a.eval o2 = .int .i64 c) (h : T (.bool (b != c)) w) : Runs Tryd.prog ⟨dst, .binOp .neq 3 o1 o2 3, ty, pos, after, g⟩ a w T := by
  refine Runs.value (v := .bool (b != c)) (w' := w) ?_ h
  simp only [execOp, hx, hy]
  go_simp
theorem rn_fld_37_4 {x : Operand} {S o : Nat} (hx : a.eval x = .pointer (some ⟨S, o, none⟩)) (h : T (.pointer (some ⟨S, o + 4, none⟩)) w) : Runs Tryd.prog ⟨dst, .fieldAddr 37 x 4, ty, pos, after, g⟩ a w T := by
  refine Runs.value (v := .pointer (some ⟨S, o + 4, none⟩)) (w' := w) ?_ h
  simp only [execOp, hx]
  go_simp
end
theorem copied_row (p : Option Addr) (n c : Nat) (xs : List It) (w : World) (h : Rw 2 itc w p c xs) (hn : xs.length = n) (hl : n ≤ 100000) :
    Calls Tryd.prog 13 #[.slice p n c] w fun e w' => ∃ p' c', e = .returned (.slice p' n c') ∧ Row w' p' c' xs ∧ Grew w w' :=
  (copied_any p n c xs w h hn hl).mono fun _ _ ⟨p', c', h1, h2, h3⟩ => ⟨p', c', h1, Row.of_own h2, h3⟩
theorem start_at (w0 : World) (p : Option Addr) (n c : Nat) (xs : List It) (w : World) (hg : Grew w0 w) (h : Row w p c xs) (hn : xs.length = n) (hl : n ≤ 100000) (hok : okL xs = true) :
    Calls Tryd.prog 20 #[.slice p n c] w fun e w' => ∃ q, e = .returned (.tuple #[.pointer (some ⟨q, 0, none⟩), .int .i64 0]) ∧ MtA q (Mt.start xs) w' ∧ w0.heap.size ≤ q ∧ Grew w w' :=
  (start_ok p n c xs w h hn hl hok).mono fun _ _ ⟨q, h1, h2, h3, h4⟩ => ⟨q, h1, h2, Nat.le_trans hg.sz h3, h4⟩
theorem stored5 {w1 : World} {S : Nat} {e : TypeId} {u0 u1 u2 u3 u4 : Value} (h : Blk S [u0, u1, u2, u3, u4] e w1) (v0 v1 v2 v3 v4 : Value) (o : Obj) : Chg w1 ((((((w1.setCell ⟨S, 0, none⟩ v0).setCell ⟨S, 1, none⟩ v1).setCell ⟨S, 2, none⟩ v2).setCell ⟨S, 3, none⟩ v3).setCell ⟨S, 4, none⟩ v4).alloc o) (fun k => k = S) ∧ Blk S [v0, v1, v2, v3, v4] e ((((((w1.setCell ⟨S, 0, none⟩ v0).setCell ⟨S, 1, none⟩ v1).setCell ⟨S, 2, none⟩ v2).setCell ⟨S, 3, none⟩ v3).setCell ⟨S, 4, none⟩ v4).alloc o) :=
  ⟨((((((Chg.refl w1 (fun k => k = S)).then_set ⟨S, 0, none⟩ v0 rfl).then_set ⟨S, 1, none⟩ v1 rfl).then_set ⟨S, 2, none⟩ v2 rfl).then_set ⟨S, 3, none⟩ v3 rfl).then_set ⟨S, 4, none⟩ v4 rfl).trans (Chg.of_grew ((Grew.refl _).alloc o) _), (((((h.set 0 v0).set 1 v1).set 2 v2).set 3 v3).set 4 v4).grew ((Grew.refl _).alloc o)⟩
theorem start_shown (xs : List It) : (Mt.start xs).shown = shownOf xs := by cases xs <;> rfl
theorem failed_g (q : Nat) (m : Mt) (w : World) (h : MtA q m w) : Calls Tryd.prog 26 #[.pointer (some ⟨q, 0, none⟩)] w fun e w' => e = .returned (.bool m.dark) ∧ Grew w w' := (failed_any q m w h).mono fun _ _ ⟨h1, h2⟩ => ⟨h1, h2 ▸ Grew.refl _⟩
theorem left_g (q : Nat) (m : Mt) (w : World) (h : MtA q m w) : Calls Tryd.prog 27 #[.pointer (some ⟨q, 0, none⟩)] w fun e w' => e = .returned (.int .i64 m.shown) ∧ Grew w w' := (left_any q m w h).mono fun _ _ ⟨h1, h2⟩ => ⟨h1, h2 ▸ Grew.refl _⟩
theorem periods_g (q : Nat) (m : Mt) (w : World) (h : MtA q m w) : Calls Tryd.prog 28 #[.pointer (some ⟨q, 0, none⟩)] w fun e w' => e = .returned (.int .i64 (m.count : Int)) ∧ Grew w w' := (periods_any q m w h).mono fun _ _ ⟨h1, h2⟩ => ⟨h1, h2 ▸ Grew.refl _⟩
theorem rspend_is (p : Option Addr) (n c k : Nat) (m : Mt) (z : Int) (m1 : Mt) (ok : Bool) (sh : Int) (dk : Bool) (ct : Nat) (hv : (m.spend z = m1 ∧ m.spent z = ok) ∧ m1.shown = sh ∧ m1.dark = dk ∧ m1.count = ct) (w : World) (hg : m.good) (hz : -9223372036854775808 ≤ z ∧ z ≤ 9223372036854775807) (hc : m.count ≤ 1000000) :
    Calls Tryd.prog 22 #[rmv p n c k m.shown m.dark m.count, .int .i64 z] w fun e w' => e = .returned (.tuple #[rmv p n c k sh dk ct, .bool ok]) ∧ Grew w w' := by
  obtain ⟨⟨rfl, rfl⟩, rfl, rfl, rfl⟩ := hv
  exact rspend_any p n c k m z w hg hz hc
theorem spend_is (q : Nat) (m : Mt) (z : Int) (m1 : Mt) (ok : Bool) (sh : Int) (dk : Bool) (ct : Nat) (hv : (m.spend z = m1 ∧ m.spent z = ok) ∧ m1.shown = sh ∧ m1.dark = dk ∧ m1.count = ct) (w : World) (h : MtA q m w) (hg : m.good) (hn : -9223372036854775808 ≤ z ∧ z ≤ 9223372036854775807) (hc : m.count ≤ 1000000) :
    Calls Tryd.prog 23 #[.pointer (some ⟨q, 0, none⟩), .int .i64 z] w fun e w' => e = .returned (.bool ok) ∧ Did q m1 w w' := by
  obtain ⟨⟨rfl, rfl⟩, rfl, rfl, rfl⟩ := hv
  exact spend_any q m z w h hg hn hc
theorem rnext_is (p : Option Addr) (n c k : Nat) (m : Mt) (j1 : Nat) (m1 : Mt) (off : Int) (is : Bool) (sh : Int) (dk : Bool) (ct : Nat) (hv : ((if m.dark = true then k + 1 else k) = j1 ∧ m.next = m1 ∧ m.off = off ∧ m.dark = is) ∧ m1.shown = sh ∧ m1.dark = dk ∧ m1.count = ct) (xs : List It) (w : World) (h : Rw 2 itc w p c xs) (hn : xs.length = n) (hk : xs.drop k = m.rest) (hkn : k ≤ n) (hl : n ≤ 100000) (hg : m.good) :
    Calls Tryd.prog 24 #[rmv p n c k m.shown m.dark m.count] w fun e w' => e = .returned (.tuple #[rmv p n c j1 sh dk ct, .int .i64 off, .bool is]) ∧ Grew w w' := by
  obtain ⟨⟨rfl, rfl, rfl, rfl⟩, rfl, rfl, rfl⟩ := hv
  exact rnext_any p n c k m xs w h hn hk hkn hl hg
theorem next_is (q : Nat) (m : Mt) (j1 k : Nat) (m1 : Mt) (off : Int) (is : Bool) (sh : Int) (dk : Bool) (ct : Nat) (hv : ((if m.dark = true then k + 1 else k) = j1 ∧ m.next = m1 ∧ m.off = off ∧ m.dark = is) ∧ m1.shown = sh ∧ m1.dark = dk ∧ m1.count = ct) (w : World) (h : MtA q m w) (hg : m.good) :
    Calls Tryd.prog 25 #[.pointer (some ⟨q, 0, none⟩)] w fun e w' => e = .returned (.tuple #[.int .i64 off, .bool is]) ∧ Did q m1 w w' := by
  obtain ⟨⟨rfl, rfl, rfl, rfl⟩, rfl, rfl, rfl⟩ := hv
  exact next_any q m w h hg
theorem enters_fail : Enters Tryd.prog 26 := fun args w => by go_simp
theorem enters_left : Enters Tryd.prog 27 := fun args w => by go_simp
theorem enters_peri : Enters Tryd.prog 28 := fun args w => by go_simp
theorem meter_spent {m : Mt} {xs : List It} {j k : Nat} (z : Int) (h : m.good ∧ m.count ≤ k ∧ xs.drop j = m.rest ∧ j ≤ xs.length) : (m.spend z).good ∧ (m.spend z).count ≤ k + 1 ∧ xs.drop j = (m.spend z).rest ∧ j ≤ xs.length := by
  obtain ⟨h1, h2, h3, h4⟩ := h
  refine ⟨Mt.spend_good h1 z, ?_, ?_, h4⟩
  · unfold Mt.spend
    repeat (first | split | dsimp only | omega)
  · rw [h3]
    unfold Mt.spend
    split
    · rfl
    · cases hr : m.rest with
      | nil => simp [hr]
      | cons x r => dsimp only; split <;> rfl
theorem meter_nexted {m : Mt} {xs : List It} {j k : Nat} (h : m.good ∧ m.count ≤ k ∧ xs.drop j = m.rest ∧ j ≤ xs.length) : m.next.good ∧ m.next.count ≤ k + 1 ∧ xs.drop (if m.dark = true then j + 1 else j) = m.next.rest ∧ (if m.dark = true then j + 1 else j) ≤ xs.length := by
  obtain ⟨h1, h2, h3, h4⟩ := h
  refine ⟨Mt.next_good h1, ?_, ?_, ?_⟩
  · unfold Mt.next
    split
    · show m.count ≤ k + 1
      omega
    · omega
  · unfold Mt.next
    split
    · rw [← List.drop_drop, h3]; simp
    · exact h3
  · split
    · rename_i hd
      have := h1.2.1 hd
      rw [← h3] at this
      have hl : j < xs.length := by
        rcases Nat.lt_or_ge j xs.length with h | h
        · exact h
        · exact absurd (List.drop_eq_nil_of_le h) this
      omega
    · exact h4
set_option maxHeartbeats 8000000 in
theorem meter_law (p : Option Addr) (n c : Nat) (xs : List It) (pa : Option Addr) (na ca : Nat) (ys : List It) (w : World) (hn : xs.length = n) (hna : ys.length = na) (hx : Rw 2 itc w p c xs) (hy : Rw 2 itc w pa ca ys) (hb : ∀ y ∈ ys, (-9223372036854775808 ≤ y.1 ∧ y.1 ≤ 9223372036854775807) ∧ (-9223372036854775808 ≤ y.2 ∧ y.2 ≤ 9223372036854775807)) (he : Env w) :
    Calls Tryd.prog 5 #[.slice p n c, .slice pa na ca] w fun e w' => e = .returned (.bool true) ∧ Grew w w' := by
  subst hn hna
  have HX := Lib.hid hx
  have HA := Lib.hid hy
  have HBD := Lib.hid hb
  have HE := Lib.hid he
  have HX0 := Lib.hid hx
  have HA0 := Lib.hid hy
  have hcap := hy.cap
  have hmax := hy.max
  clear hx he hy hb
  by_cases h60 : xs.length ≤ 60 ∧ ys.length ≤ 200
  · obtain ⟨h60, h200⟩ := h60
    cases hq : okL xs
    · have HQ := Lib.hid hq
      clear hq
      have HB := Lib.hid (Grew.refl w)
      have tk0 := Lib.hid trivial
      have tk1 := Lib.hid trivial
      have tk2 := Lib.hid trivial
      have tk3 := Lib.hid trivial
      go_enter Tryd.func5, Tryd.ntmps5
      go_wp2_with (first
        | (go_at_call 11; clear tk0; (with_reducible refine (examples_any _ HE.out).mono ?_); rintro e w1 ⟨rfl, g1⟩; replace HE := Lib.hid (HE.out.grew g1); replace HX := Lib.hid (HX.out.grew g1); replace HA := Lib.hid (HA.out.grew g1); replace HB := Lib.hid (HB.out.trans g1); clear g1)
        | (go_at_call 13; clear tk1; (with_reducible refine (copied_row _ _ _ xs _ HX.out rfl (by omega)).mono ?_); rintro e w2 ⟨p1, c1, rfl, h1, g1⟩; replace HE := Lib.hid (HE.out.grew g1); replace HX := Lib.hid (HX.out.grew g1); replace HA := Lib.hid (HA.out.grew g1); replace HB := Lib.hid (HB.out.trans g1); clear g1; have H1 := Lib.hid h1; clear h1)
        | (go_at_call 20; clear tk2; (with_reducible refine (start_no _ _ _ xs _ H1.out rfl HQ.out).mono ?_); rintro e w3 ⟨rfl, g1⟩; replace HE := Lib.hid (HE.out.grew g1); replace HX := Lib.hid (HX.out.grew g1); replace HA := Lib.hid (HA.out.grew g1); replace H1 := Lib.hid (H1.out.grew g1); replace HB := Lib.hid (HB.out.trans g1); clear g1)
        | (go_at_call 15; clear tk3; (with_reducible refine (rvalid_is _ _ _ xs false HQ.out _ HX.out rfl).mono ?_); rintro e w4 ⟨rfl, g1⟩; replace HE := Lib.hid (HE.out.grew g1); replace HX := Lib.hid (HX.out.grew g1); replace HA := Lib.hid (HA.out.grew g1); replace H1 := Lib.hid (H1.out.grew g1); replace HB := Lib.hid (HB.out.trans g1); clear g1))
      go_ret
      exact ⟨rfl, HB.out⟩

    · have HQ := Lib.hid hq
      clear hq
      have HB := Lib.hid (Grew.refl w)
      have tk0 := Lib.hid trivial
      have tk1 := Lib.hid trivial
      have tk2 := Lib.hid trivial
      have tk3 := Lib.hid trivial
      have tk4 := Lib.hid trivial
      go_enter Tryd.func5, Tryd.ntmps5
      go_wp2_with (first
        | (go_at_call 11; clear tk0; (with_reducible refine (examples_any _ HE.out).mono ?_); rintro e w1 ⟨rfl, g1⟩; replace HE := Lib.hid (HE.out.grew g1); replace HX := Lib.hid (HX.out.grew g1); replace HA := Lib.hid (HA.out.grew g1); replace HB := Lib.hid (HB.out.trans g1); clear g1)
        | (go_at_call 13; clear tk1; (with_reducible refine (copied_row _ _ _ xs _ HX.out rfl (by omega)).mono ?_); rintro e w2 ⟨p1, c1, rfl, h1, g1⟩; replace HE := Lib.hid (HE.out.grew g1); replace HX := Lib.hid (HX.out.grew g1); replace HA := Lib.hid (HA.out.grew g1); replace HB := Lib.hid (HB.out.trans g1); clear g1; have H1 := Lib.hid h1; clear h1)
        | (go_at_call 20; clear tk2; (with_reducible refine (start_at w _ _ _ xs _ HB.out H1.out rfl (by omega) HQ.out).mono ?_); rintro e w3 ⟨q, rfl, hm, hq, g1⟩; replace HE := Lib.hid (HE.out.grew g1); replace HX := Lib.hid (HX.out.grew g1); replace HA := Lib.hid (HA.out.grew g1); replace H1 := Lib.hid (H1.out.grew g1); replace HB := Lib.hid (HB.out.trans g1); clear g1; have HM := Lib.hid hm; clear hm; have HQG := Lib.hid hq; clear hq)
        | (go_at_call 15; clear tk3; (with_reducible refine (rvalid_is _ _ _ xs true HQ.out _ HX.out rfl).mono ?_); rintro e w4 ⟨rfl, g1⟩; replace HE := Lib.hid (HE.out.grew g1); replace HX := Lib.hid (HX.out.grew g1); replace HA := Lib.hid (HA.out.grew g1); replace H1 := Lib.hid (H1.out.grew g1); replace HM := Lib.hid (HM.out.grew g1); replace HB := Lib.hid (HB.out.trans g1); clear g1)
        | (go_at_call 21; clear tk4; (with_reducible refine (rstart_any _ _ _ xs _ HX.out rfl).mono ?_); rintro e w5 ⟨rfl, g1⟩; replace HE := Lib.hid (HE.out.grew g1); replace HX := Lib.hid (HX.out.grew g1); replace HA := Lib.hid (HA.out.grew g1); replace H1 := Lib.hid (H1.out.grew g1); replace HM := Lib.hid (HM.out.grew g1); replace HB := Lib.hid (HB.out.trans g1); clear g1))

      have HMQ := Lib.hid HM.out.lt
      obtain ⟨S, hS⟩ : ∃ S, S = w5.heap.size := ⟨_, rfl⟩
      have HNQ : Hid (w.heap.size ≤ S ∧ S ≠ q) := Lib.hid ⟨hS ▸ HB.out.sz, fun e => by have := HMQ.out; omega⟩
      have hB0 := Blk.new w5 [.slice p xs.length c, .int .i64 ((0 : Nat) : Int), .int .i64 (shownOf xs), .bool false, .int .i64 ((0 : Nat) : Int)] 37
      rw [← hS] at hB0 ⊢
      have HB1 := Lib.hid hB0
      clear hB0 hS
      go_loopg [55] ys.length (fun gg iv wr => ∃ (k j : Nat) (m : Mt), iv = .int .i64 (k : Int) ∧ k ≤ ys.length ∧ gg = ys.length - k ∧ Hid (MtA q m wr ∧ m.good ∧ m.count ≤ k ∧ xs.drop j = m.rest ∧ j ≤ xs.length) ∧ Blk S [.slice p xs.length c, .int .i64 (j : Int), .int .i64 m.shown, .bool m.dark, .int .i64 (m.count : Int)] 37 wr ∧ Hid (Grew w wr))
      case atStart => exact ⟨0, 0, Mt.start xs, rfl, Nat.zero_le _, rfl, Lib.hid ⟨HM.out.grew ((Grew.refl _).alloc _), Mt.start_good HQ.out, Nat.zero_le _, rfl, Nat.zero_le _⟩, start_shown xs ▸ HB1.out, Lib.hid (HB.out.alloc _)⟩
      clear HM HB HB1 HX HA HE H1
      case round =>
        obtain ⟨k, j, m, rfl, hk, rfl, HM1, hB, HG⟩ := hrel
        by_cases hlt : k < ys.length
        · obtain ⟨b', o', rfl, hcc⟩ := (HA0.out.kept HG.out).rd.cells (by omega)
          have hbd := HBD.out ys[k] (List.getElem_mem _)
          have d0 : wr.cell? ⟨b', o' + k * 2, none⟩ = some (.int .i64 ys[k].1) := by have := hcc k ys[k] (by simp [hlt]) 0 _ rfl; rwa [Nat.add_zero] at this
          have d1 : wr.cell? ⟨b', o' + k * 2 + 1, none⟩ = some (.int .i64 ys[k].2) := hcc k ys[k] (by simp [hlt]) 1 _ rfl
          have hlb : b' < wr.heap.size := World.block_lt_of_cell? _ _ d0
          generalize ys[k] = x at d0 d1 hbd
          have HBX := Lib.hid hbd
          have HK := Lib.hid (And.intro hlt h200)
          have HB0 := Lib.hid hB
          have b0 := hB.cell 0
          have b1 := hB.cell 1
          have b2 := hB.cell 2
          have b3 := hB.cell 3
          have b4 := hB.cell 4
          have bl := hB.lt
          have hSw : S < wr.heap.size := hB.lt
          simp only [List.getElem?_cons_zero, List.getElem?_cons_succ] at b0 b1 b2 b3 b4
          have HNE : Hid (w.heap.size ≤ S ∧ (¬ S = q) ∧ ¬ wr.heap.size = S) := Lib.hid ⟨HNQ.out.1, HNQ.out.2, by omega⟩
          clear hcc hB hbd
          by_cases hkd : x.1 = 0
          · have hm5 := meter_spent x.2 HM1.out.2
            obtain ⟨m1, hm1⟩ : ∃ u, m.spend x.2 = u := ⟨_, rfl⟩
            obtain ⟨ok, hok⟩ : ∃ u, m.spent x.2 = u := ⟨_, rfl⟩
            obtain ⟨sh, hsh⟩ : ∃ u, m1.shown = u := ⟨_, rfl⟩
            obtain ⟨dk, hdk⟩ : ∃ u, m1.dark = u := ⟨_, rfl⟩
            obtain ⟨ct, hct⟩ : ∃ u, m1.count = u := ⟨_, rfl⟩
            have HV := Lib.hid (And.intro (And.intro hm1 hok) (And.intro hsh (And.intro hdk hct)))
            rw [hm1] at hm5
            have HM5 := Lib.hid hm5
            clear hm1 hok hsh hdk hct hm5
            go_wp2_with (first
              | (go_at_call 22; generalize hW : World.alloc _ _ = V; have hA1 : Blk wr.heap.size [.int .i64 0, .int .i64 x.2] 40 V := (by subst hW; exact Blk.new wr _ _); have hv : Grew wr V := (by subst hW; exact (Grew.refl _).alloc _); clear hW; (with_reducible refine (rspend_is p xs.length c j m x.2 m1 ok sh dk ct HV.out V HM1.out.2.1 HBX.out.2 (by have := HM1.out.2.2.1; have := HK.out; omega)).mono ?_); rintro e w1 ⟨rfl, g1⟩; have HG1 := Lib.hid (HG.out.trans (hv.trans g1)); have HA2 := Lib.hid (hA1.grew g1); have HB2 := Lib.hid ((HB0.out.grew hv).grew g1); have HM2 := Lib.hid ((HM1.out.1.grew hv).grew g1); clear hA1 hv g1 b0 b1 b2 b3 b4 bl; have a0 := HA2.out.cell 0; have a1 := HA2.out.cell 1; have af := HA2.out.free; have al := HA2.out.lt; simp only [List.getElem?_cons_zero, List.getElem?_cons_succ] at a0 a1; have b0 := HB2.out.cell 0; have b1 := HB2.out.cell 1; have b2 := HB2.out.cell 2; have b3 := HB2.out.cell 3; have b4 := HB2.out.cell 4; have bf := HB2.out.free; have bl := HB2.out.lt; simp only [List.getElem?_cons_zero, List.getElem?_cons_succ] at b0 b1 b2 b3 b4)
              | (go_at_call 23; clear b0 b1 b2 b3 b4 bf bl a0 a1 af al; generalize hW : World.alloc _ _ = V; have hcb : Chg w1 V (fun k => k = S) ∧ Blk S [.slice p xs.length c, .int .i64 ((j : Nat) : Int), .int .i64 sh, .bool dk, .int .i64 ((ct : Nat) : Int)] 37 V := (by subst hW; exact stored5 HB2.out _ _ _ _ _ _); obtain ⟨hc, hB3⟩ := hcb; clear hW; have hA3 := HA2.out.chg hc (fun e => HNE.out.2.2 e); have hM3 : MtA q m V := HM2.out.chg hc (fun k hk => by subst hk; exact ⟨_, _, HB2.out, by decide, by decide⟩); have hG3 : Grew w V := grew_lift HG1.out hc (fun k hk => hk ▸ HNE.out.1); (with_reducible refine (spend_is q m x.2 m1 ok sh dk ct HV.out V hM3 HM1.out.2.1 HBX.out.2 (by have := HM1.out.2.2.1; have := HK.out; omega)).mono ?_); rintro e w3 ⟨rfl, hd⟩; have HD := Lib.hid hd.1; have HB4 := Lib.hid (hB3.chg hd.2 HNE.out.2.1); have HG4 := Lib.hid (grew_lift hG3 hd.2 (fun k hk => hk ▸ HQG.out)); clear hc hB3 hA3 hM3 hG3 hd HA2 HB2 HM2 HG1))
            have HQ2 : Hid ((∀ W, Grew w3 W → Calls Tryd.prog 26 #[.pointer (some ⟨q, 0, none⟩)] W fun e w' => e = .returned (.bool dk) ∧ Grew W w') ∧ (∀ W, Grew w3 W → Calls Tryd.prog 27 #[.pointer (some ⟨q, 0, none⟩)] W fun e w' => e = .returned (.int .i64 sh) ∧ Grew W w') ∧ (∀ W, Grew w3 W → Calls Tryd.prog 28 #[.pointer (some ⟨q, 0, none⟩)] W fun e w' => e = .returned (.int .i64 (ct : Int)) ∧ Grew W w')) := Lib.hid ⟨fun W hR => HV.out.2.2.1 ▸ failed_g q m1 W (HD.out.grew hR), fun W hR => HV.out.2.1 ▸ left_g q m1 W (HD.out.grew hR), fun W hR => HV.out.2.2.2 ▸ periods_g q m1 W (HD.out.grew hR)⟩
            have c3 : Atv ⟨S, 3, none⟩ (.bool dk) w3.drew := Grew.atv (Grew.refl _).drw (HB4.out.cell 3)
            have c2 : Atv ⟨S, 2, none⟩ (.int .i64 sh) w3.drew := Grew.atv (Grew.refl _).drw (HB4.out.cell 2)
            have c4 : Atv ⟨S, 4, none⟩ (.int .i64 (ct : Int)) w3.drew := Grew.atv (Grew.refl _).drw (HB4.out.cell 4)
            refine wp_posts [some 96, some 97, some 98, some 99, some 100, some 101, some 102, some 103, some 104, some 105, some 106, some 107, some 108, some 109, some 110, some 111, some 112, some 113, some 114] [false, false, false, false, false, false, false, false, false, false, false, false, false, false, false, false, false, false, false, false, false, false, false, false, false, false, false, false, false, false, false, false, false, false, false, false, false, false, false, false, false, false, false, false, false, false, false, false, false, false, false, false, false, false, false, false, false, false, false, false, false, false, false, false, false, false, false, false, false, false, false, false, false, false, false, false, false, false, false, false, false, false, false, false, false, false, false, false, false, false, false, false, false, false, false, false, true, true, true, true, true, true, true, true, true, true, true, true, true, true, true, true, true, true, true, false] [fun v _ => v = .pointer (some ⟨q, 0, none⟩), fun v _ => v = .bool (dk), fun v _ => v = .pointer (some ⟨S, 3, none⟩), fun v _ => v = .bool (dk), fun v _ => v = .bool (false), fun v _ => v = .bool (false), fun v _ => v = .pointer (some ⟨q, 0, none⟩), fun v _ => v = .int .i64 (sh), fun v _ => v = .pointer (some ⟨S, 2, none⟩), fun v _ => v = .int .i64 (sh), fun v _ => v = .bool (false), fun v _ => v = .bool (false), fun v _ => v = .bool (false), fun v _ => v = .pointer (some ⟨q, 0, none⟩), fun v _ => v = .int .i64 (((ct : Nat) : Int)), fun v _ => v = .pointer (some ⟨S, 4, none⟩), fun v _ => v = .int .i64 (((ct : Nat) : Int)), fun v _ => v = .bool (false), fun v _ => v = .bool (false)] (by kernel_rfl) (by kernel_rfl) rfl ?_ ⟨?_, ?_, ?_, ?_, ?_, ?_, ?_, ?_, ?_, ?_, ?_, ?_, ?_, ?_, ?_, ?_, ?_, ?_, ?_, trivial⟩ ?_
            · exact ⟨fun _ _ _ _ h => h, fun _ _ _ _ h => h, fun _ _ _ _ h => h, fun _ _ _ _ h => h, fun _ _ _ _ h => h, fun _ _ _ _ h => h, fun _ _ _ _ h => h, fun _ _ _ _ h => h, fun _ _ _ _ h => h, fun _ _ _ _ h => h, fun _ _ _ _ h => h, fun _ _ _ _ h => h, fun _ _ _ _ h => h, fun _ _ _ _ h => h, fun _ _ _ _ h => h, fun _ _ _ _ h => h, fun _ _ _ _ h => h, fun _ _ _ _ h => h, fun _ _ _ _ h => h, trivial⟩
            · intro u w hR hd; exact runs_mv (ev rfl) ⟨Grew.refl _, rfl⟩
            · intro u w hR hd; exact runs_c1 enters_fail (ev (hd.1 rfl)) (callp (fun _ e => e) ((HQ2.out.1 _ ((Grew.refl _).drw.trans hR))))
            · intro u w hR hd; exact rn_fld_37_3 (ev rfl) ⟨Grew.refl _, rfl⟩
            · intro u w hR hd; exact rn_ld_4 (ev (hd.1 rfl)) (c3.kept hR) ⟨Grew.refl _, rfl⟩
            · intro u w hR hd; exact rn_neq_4 (ev (hd.1 rfl)) (ev (hd.2.1 rfl)) ⟨Grew.refl _, (congrArg Value.bool (by simp))⟩
            · intro u w hR hd; exact runs_mv (ev (hd.1 rfl)) ⟨Grew.refl _, rfl⟩
            · intro u w hR hd; exact ⟨fun _ => runs_mv (ev rfl) ⟨Grew.refl _, rfl⟩, fun hn => absurd (hd.1 rfl) hn⟩
            · intro u w hR hd; exact ⟨fun _ => runs_c1 enters_left (ev (hd.1 rfl)) (callp (fun _ e => e) ((HQ2.out.2.1 _ ((Grew.refl _).drw.trans hR)))), fun hn => absurd (hd.2.1 rfl) hn⟩
            · intro u w hR hd; exact ⟨fun _ => rn_fld_37_2 (ev rfl) ⟨Grew.refl _, rfl⟩, fun hn => absurd (hd.1 rfl) hn⟩
            · intro u w hR hd; exact ⟨fun _ => rn_ld_3 (ev (hd.1 rfl)) (c2.kept hR) ⟨Grew.refl _, rfl⟩, fun hn => absurd (hd.2.1 rfl) hn⟩
            · intro u w hR hd; exact ⟨fun _ => rn_neq_3 (ev (hd.1 rfl)) (ev (hd.2.1 rfl)) ⟨Grew.refl _, (congrArg Value.bool (by simp))⟩, fun hn => absurd (hd.2.2.1 rfl) hn⟩
            · intro u w hR hd; exact runs_or2 (ev (hd.1 rfl)) (fun hb => ev ((hd.2.1 rfl))) ⟨Grew.refl _, rfl⟩
            · intro u w hR hd; exact runs_mv (ev (hd.1 rfl)) ⟨Grew.refl _, rfl⟩
            · intro u w hR hd; exact ⟨fun _ => runs_mv (ev rfl) ⟨Grew.refl _, rfl⟩, fun hn => absurd (hd.1 rfl) hn⟩
            · intro u w hR hd; exact ⟨fun _ => runs_c1 enters_peri (ev (hd.1 rfl)) (callp (fun _ e => e) ((HQ2.out.2.2 _ ((Grew.refl _).drw.trans hR)))), fun hn => absurd (hd.2.1 rfl) hn⟩
            · intro u w hR hd; exact ⟨fun _ => rn_fld_37_4 (ev rfl) ⟨Grew.refl _, rfl⟩, fun hn => absurd (hd.1 rfl) hn⟩
            · intro u w hR hd; exact ⟨fun _ => rn_ld_3 (ev (hd.1 rfl)) (c4.kept hR) ⟨Grew.refl _, rfl⟩, fun hn => absurd (hd.2.1 rfl) hn⟩
            · intro u w hR hd; exact ⟨fun _ => rn_neq_3 (ev (hd.1 rfl)) (ev (hd.2.1 rfl)) ⟨Grew.refl _, (congrArg Value.bool (by simp))⟩, fun hn => absurd (hd.2.2.1 rfl) hn⟩
            · intro u w hR hd; exact runs_or2 (ev (hd.1 rfl)) (fun hb => ev ((hd.2.1 rfl))) ⟨Grew.refl _, rfl⟩
            · intro u w9 hR9 h9
              have he : u 114 = .bool false := h9 18 (by decide)
              simp only [mixA, mixL, cond_true, cond_false]
              rw [he]
              have hR10 := (Grew.refl w3).drw.trans hR9
              have HG9 := Lib.hid (HG4.out.trans hR10)
              have HB9 := HB4.out.grew hR10
              have HD9 := Lib.hid (HD.out.grew hR10)
              clear h9 he c2 c3 c4 HQ2 HB4 HD HG4 hR9 hR10
              rw [← HV.out.2.1, ← HV.out.2.2.1, ← HV.out.2.2.2] at HB9
              go_wp2
              go_roundg (ys.length - (k + 1))
              · exact ⟨k + 1, j, m1, by first | rfl | simp, by omega, rfl, Lib.hid ⟨HD9.out, HM5.out⟩, HB9, HG9⟩
              · omega
          · have hm5 := meter_nexted HM1.out.2
            obtain ⟨m1, hm1⟩ : ∃ u, m.next = u := ⟨_, rfl⟩
            obtain ⟨j1, hj1⟩ : ∃ u, (if m.dark = true then j + 1 else j) = u := ⟨_, rfl⟩
            obtain ⟨off, hof⟩ : ∃ u, m.off = u := ⟨_, rfl⟩
            obtain ⟨is, his⟩ : ∃ u, m.dark = u := ⟨_, rfl⟩
            obtain ⟨sh, hsh⟩ : ∃ u, m1.shown = u := ⟨_, rfl⟩
            obtain ⟨dk, hdk⟩ : ∃ u, m1.dark = u := ⟨_, rfl⟩
            obtain ⟨ct, hct⟩ : ∃ u, m1.count = u := ⟨_, rfl⟩
            have HV := Lib.hid (And.intro (And.intro hj1 (And.intro hm1 (And.intro hof his))) (And.intro hsh (And.intro hdk hct)))
            rw [hm1, hj1] at hm5
            have HM5 := Lib.hid hm5
            clear hm1 hj1 hof his hsh hdk hct hm5
            go_wp2_with (first
              | (go_at_call 24; generalize hW : World.alloc _ _ = V; have hA1 : Blk wr.heap.size [.int .i64 x.1, .int .i64 x.2] 40 V := (by subst hW; exact Blk.new wr _ _); have hv : Grew wr V := (by subst hW; exact (Grew.refl _).alloc _); clear hW; (with_reducible refine (rnext_is p xs.length c j m j1 m1 off is sh dk ct HV.out xs V (HX0.out.kept (HG.out.trans hv)) rfl HM1.out.2.2.2.1 HM1.out.2.2.2.2 (by omega) HM1.out.2.1).mono ?_); rintro e w1 ⟨rfl, g1⟩; have HG1 := Lib.hid (HG.out.trans (hv.trans g1)); have HA2 := Lib.hid (hA1.grew g1); have HB2 := Lib.hid ((HB0.out.grew hv).grew g1); have HM2 := Lib.hid ((HM1.out.1.grew hv).grew g1); clear hA1 hv g1 b0 b1 b2 b3 b4 bl; have a0 := HA2.out.cell 0; have a1 := HA2.out.cell 1; have af := HA2.out.free; have al := HA2.out.lt; simp only [List.getElem?_cons_zero, List.getElem?_cons_succ] at a0 a1; have b0 := HB2.out.cell 0; have b1 := HB2.out.cell 1; have b2 := HB2.out.cell 2; have b3 := HB2.out.cell 3; have b4 := HB2.out.cell 4; have bf := HB2.out.free; have bl := HB2.out.lt; simp only [List.getElem?_cons_zero, List.getElem?_cons_succ] at b0 b1 b2 b3 b4)
              | (go_at_call 25; clear b0 b1 b2 b3 b4 bf bl a0 a1 af al; generalize hW : World.alloc _ _ = V; have hcb : Chg w1 V (fun k => k = S) ∧ Blk S [.slice p xs.length c, .int .i64 ((j1 : Nat) : Int), .int .i64 sh, .bool dk, .int .i64 ((ct : Nat) : Int)] 37 V := (by subst hW; exact stored5 HB2.out _ _ _ _ _ _); obtain ⟨hc, hB3⟩ := hcb; clear hW; have hA3 := HA2.out.chg hc (fun e => HNE.out.2.2 e); have hM3 : MtA q m V := HM2.out.chg hc (fun k hk => by subst hk; exact ⟨_, _, HB2.out, by decide, by decide⟩); have hG3 : Grew w V := grew_lift HG1.out hc (fun k hk => hk ▸ HNE.out.1); (with_reducible refine (next_is q m j1 j m1 off is sh dk ct HV.out V hM3 HM1.out.2.1).mono ?_); rintro e w3 ⟨rfl, hd⟩; have HD := Lib.hid hd.1; have HB4 := Lib.hid (hB3.chg hd.2 HNE.out.2.1); have HG4 := Lib.hid (grew_lift hG3 hd.2 (fun k hk => hk ▸ HQG.out)); clear hc hB3 hA3 hM3 hG3 hd HA2 HB2 HM2 HG1))
            have HQ2 : Hid ((∀ W, Grew w3 W → Calls Tryd.prog 26 #[.pointer (some ⟨q, 0, none⟩)] W fun e w' => e = .returned (.bool dk) ∧ Grew W w') ∧ (∀ W, Grew w3 W → Calls Tryd.prog 27 #[.pointer (some ⟨q, 0, none⟩)] W fun e w' => e = .returned (.int .i64 sh) ∧ Grew W w') ∧ (∀ W, Grew w3 W → Calls Tryd.prog 28 #[.pointer (some ⟨q, 0, none⟩)] W fun e w' => e = .returned (.int .i64 (ct : Int)) ∧ Grew W w')) := Lib.hid ⟨fun W hR => HV.out.2.2.1 ▸ failed_g q m1 W (HD.out.grew hR), fun W hR => HV.out.2.1 ▸ left_g q m1 W (HD.out.grew hR), fun W hR => HV.out.2.2.2 ▸ periods_g q m1 W (HD.out.grew hR)⟩
            have c3 : Atv ⟨S, 3, none⟩ (.bool dk) w3.drew := Grew.atv (Grew.refl _).drw (HB4.out.cell 3)
            have c2 : Atv ⟨S, 2, none⟩ (.int .i64 sh) w3.drew := Grew.atv (Grew.refl _).drw (HB4.out.cell 2)
            have c4 : Atv ⟨S, 4, none⟩ (.int .i64 (ct : Int)) w3.drew := Grew.atv (Grew.refl _).drw (HB4.out.cell 4)
            refine wp_posts [some 96, some 97, some 98, some 99, some 100, some 101, some 102, some 103, some 104, some 105, some 106, some 107, some 108, some 109, some 110, some 111, some 112, some 113, some 114] [false, false, false, false, false, false, false, false, false, false, false, false, false, false, false, false, false, false, false, false, false, false, false, false, false, false, false, false, false, false, false, false, false, false, false, false, false, false, false, false, false, false, false, false, false, false, false, false, false, false, false, false, false, false, false, false, false, false, false, false, false, false, false, false, false, false, false, false, false, false, false, false, false, false, false, false, false, false, false, false, false, false, false, false, false, false, false, false, false, false, false, false, false, false, false, false, true, true, true, true, true, true, true, true, true, true, true, true, true, true, true, true, true, true, true, false] [fun v _ => v = .pointer (some ⟨q, 0, none⟩), fun v _ => v = .bool (dk), fun v _ => v = .pointer (some ⟨S, 3, none⟩), fun v _ => v = .bool (dk), fun v _ => v = .bool (false), fun v _ => v = .bool (false), fun v _ => v = .pointer (some ⟨q, 0, none⟩), fun v _ => v = .int .i64 (sh), fun v _ => v = .pointer (some ⟨S, 2, none⟩), fun v _ => v = .int .i64 (sh), fun v _ => v = .bool (false), fun v _ => v = .bool (false), fun v _ => v = .bool (false), fun v _ => v = .pointer (some ⟨q, 0, none⟩), fun v _ => v = .int .i64 (((ct : Nat) : Int)), fun v _ => v = .pointer (some ⟨S, 4, none⟩), fun v _ => v = .int .i64 (((ct : Nat) : Int)), fun v _ => v = .bool (false), fun v _ => v = .bool (false)] (by kernel_rfl) (by kernel_rfl) rfl ?_ ⟨?_, ?_, ?_, ?_, ?_, ?_, ?_, ?_, ?_, ?_, ?_, ?_, ?_, ?_, ?_, ?_, ?_, ?_, ?_, trivial⟩ ?_
            · exact ⟨fun _ _ _ _ h => h, fun _ _ _ _ h => h, fun _ _ _ _ h => h, fun _ _ _ _ h => h, fun _ _ _ _ h => h, fun _ _ _ _ h => h, fun _ _ _ _ h => h, fun _ _ _ _ h => h, fun _ _ _ _ h => h, fun _ _ _ _ h => h, fun _ _ _ _ h => h, fun _ _ _ _ h => h, fun _ _ _ _ h => h, fun _ _ _ _ h => h, fun _ _ _ _ h => h, fun _ _ _ _ h => h, fun _ _ _ _ h => h, fun _ _ _ _ h => h, fun _ _ _ _ h => h, trivial⟩
            · intro u w hR hd; exact runs_mv (ev rfl) ⟨Grew.refl _, rfl⟩
            · intro u w hR hd; exact runs_c1 enters_fail (ev (hd.1 rfl)) (callp (fun _ e => e) ((HQ2.out.1 _ ((Grew.refl _).drw.trans hR))))
            · intro u w hR hd; exact rn_fld_37_3 (ev rfl) ⟨Grew.refl _, rfl⟩
            · intro u w hR hd; exact rn_ld_4 (ev (hd.1 rfl)) (c3.kept hR) ⟨Grew.refl _, rfl⟩
            · intro u w hR hd; exact rn_neq_4 (ev (hd.1 rfl)) (ev (hd.2.1 rfl)) ⟨Grew.refl _, (congrArg Value.bool (by simp))⟩
            · intro u w hR hd; exact runs_mv (ev (hd.1 rfl)) ⟨Grew.refl _, rfl⟩
            · intro u w hR hd; exact ⟨fun _ => runs_mv (ev rfl) ⟨Grew.refl _, rfl⟩, fun hn => absurd (hd.1 rfl) hn⟩
            · intro u w hR hd; exact ⟨fun _ => runs_c1 enters_left (ev (hd.1 rfl)) (callp (fun _ e => e) ((HQ2.out.2.1 _ ((Grew.refl _).drw.trans hR)))), fun hn => absurd (hd.2.1 rfl) hn⟩
            · intro u w hR hd; exact ⟨fun _ => rn_fld_37_2 (ev rfl) ⟨Grew.refl _, rfl⟩, fun hn => absurd (hd.1 rfl) hn⟩
            · intro u w hR hd; exact ⟨fun _ => rn_ld_3 (ev (hd.1 rfl)) (c2.kept hR) ⟨Grew.refl _, rfl⟩, fun hn => absurd (hd.2.1 rfl) hn⟩
            · intro u w hR hd; exact ⟨fun _ => rn_neq_3 (ev (hd.1 rfl)) (ev (hd.2.1 rfl)) ⟨Grew.refl _, (congrArg Value.bool (by simp))⟩, fun hn => absurd (hd.2.2.1 rfl) hn⟩
            · intro u w hR hd; exact runs_or2 (ev (hd.1 rfl)) (fun hb => ev ((hd.2.1 rfl))) ⟨Grew.refl _, rfl⟩
            · intro u w hR hd; exact runs_mv (ev (hd.1 rfl)) ⟨Grew.refl _, rfl⟩
            · intro u w hR hd; exact ⟨fun _ => runs_mv (ev rfl) ⟨Grew.refl _, rfl⟩, fun hn => absurd (hd.1 rfl) hn⟩
            · intro u w hR hd; exact ⟨fun _ => runs_c1 enters_peri (ev (hd.1 rfl)) (callp (fun _ e => e) ((HQ2.out.2.2 _ ((Grew.refl _).drw.trans hR)))), fun hn => absurd (hd.2.1 rfl) hn⟩
            · intro u w hR hd; exact ⟨fun _ => rn_fld_37_4 (ev rfl) ⟨Grew.refl _, rfl⟩, fun hn => absurd (hd.1 rfl) hn⟩
            · intro u w hR hd; exact ⟨fun _ => rn_ld_3 (ev (hd.1 rfl)) (c4.kept hR) ⟨Grew.refl _, rfl⟩, fun hn => absurd (hd.2.1 rfl) hn⟩
            · intro u w hR hd; exact ⟨fun _ => rn_neq_3 (ev (hd.1 rfl)) (ev (hd.2.1 rfl)) ⟨Grew.refl _, (congrArg Value.bool (by simp))⟩, fun hn => absurd (hd.2.2.1 rfl) hn⟩
            · intro u w hR hd; exact runs_or2 (ev (hd.1 rfl)) (fun hb => ev ((hd.2.1 rfl))) ⟨Grew.refl _, rfl⟩
            · intro u w9 hR9 h9
              have he : u 114 = .bool false := h9 18 (by decide)
              simp only [mixA, mixL, cond_true, cond_false]
              rw [he]
              have hR10 := (Grew.refl w3).drw.trans hR9
              have HG9 := Lib.hid (HG4.out.trans hR10)
              have HB9 := HB4.out.grew hR10
              have HD9 := Lib.hid (HD.out.grew hR10)
              clear h9 he c2 c3 c4 HQ2 HB4 HD HG4 hR9 hR10
              rw [← HV.out.2.1, ← HV.out.2.2.1, ← HV.out.2.2.2] at HB9
              go_wp2
              go_roundg (ys.length - (k + 1))
              · exact ⟨k + 1, j1, m1, by first | rfl | simp, by omega, rfl, Lib.hid ⟨HD9.out, HM5.out⟩, HB9, HG9⟩
              · omega
        · obtain rfl : k = ys.length := by omega
          go_wp2
          go_ret
          exact ⟨rfl, HG.out⟩
  · by_cases hs : xs.length ≤ 60
    · have h1 : ¬ (ys.length : Int) ≤ 200 := by omega
      have HB := Lib.hid (Grew.refl w)
      have tk0 := Lib.hid trivial
      have tk1 := Lib.hid trivial
      go_enter Tryd.func5, Tryd.ntmps5
      go_wp2_with (first
        | (go_at_call 11; clear tk0; (with_reducible refine (examples_any _ HE.out).mono ?_); rintro e w1 ⟨rfl, g1⟩; replace HE := Lib.hid (HE.out.grew g1); replace HX := Lib.hid (HX.out.grew g1); replace HA := Lib.hid (HA.out.grew g1); replace HB := Lib.hid (HB.out.trans g1); clear g1)
        | (go_at_call 11; clear tk1; (with_reducible refine (examples_any _ HE.out).mono ?_); rintro e w2 ⟨rfl, g1⟩; replace HE := Lib.hid (HE.out.grew g1); replace HX := Lib.hid (HX.out.grew g1); replace HA := Lib.hid (HA.out.grew g1); replace HB := Lib.hid (HB.out.trans g1); clear g1))
      go_ret
      exact ⟨rfl, HB.out⟩

    · have h1 : ¬ (xs.length : Int) ≤ 60 := by omega
      have HB := Lib.hid (Grew.refl w)
      have tk0 := Lib.hid trivial
      have tk1 := Lib.hid trivial
      go_enter Tryd.func5, Tryd.ntmps5
      go_wp2_with (first
        | (go_at_call 11; clear tk0; (with_reducible refine (examples_any _ HE.out).mono ?_); rintro e w1 ⟨rfl, g1⟩; replace HE := Lib.hid (HE.out.grew g1); replace HX := Lib.hid (HX.out.grew g1); replace HA := Lib.hid (HA.out.grew g1); replace HB := Lib.hid (HB.out.trans g1); clear g1)
        | (go_at_call 11; clear tk1; (with_reducible refine (examples_any _ HE.out).mono ?_); rintro e w2 ⟨rfl, g1⟩; replace HE := Lib.hid (HE.out.grew g1); replace HX := Lib.hid (HX.out.grew g1); replace HA := Lib.hid (HA.out.grew g1); replace HB := Lib.hid (HB.out.trans g1); clear g1))
      go_ret
      exact ⟨rfl, HB.out⟩

end Go.Proofs.YtapgpdgbdmnkgaaDoor
