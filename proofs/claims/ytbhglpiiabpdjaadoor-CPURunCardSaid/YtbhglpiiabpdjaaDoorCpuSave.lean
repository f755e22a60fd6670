/-
  LAYER 12 (cpu): Save of the program and the reference; Same.
-/
import Derived.Test.YtbhglpiiabpdjaaDoorShort
import Derived.Test.YtbhglpiiabpdjaaDoorCpuVal
import Derived.Deep.LoopGhost
namespace Go.Proofs.YtbhglpiiabpdjaaDoor
open Go Go.RowKit Go.IntWalk Go.WideShapes
set_option linter.unusedSimpArgs false
set_option linter.unusedVariables false
set_option maxRecDepth 8000
section
variable {dst : Option Tmp} {ty : TypeId} {pos : String} {after : Array Edge} {g : Option (Nat × Bool)} {a : Act} {w : World} {T : Value → World → Prop}
theorem rn_idx_34 {x y : Operand} {b o n c : Nat} (i : Nat) (hx : a.eval x = .slice (some ⟨b, o, none⟩) n c) (hy : a.eval y = .int .i64 (i : Int)) (hi : i < n) (h : T (.pointer (some ⟨b, o + i, none⟩)) w) : Runs Tryd.prog ⟨dst, .indexAddr 34 x y, ty, pos, after, g⟩ a w T := by
  have hi2 : (i : Int) < (n : Int) := by omega
  refine Runs.value (v := .pointer (some ⟨b, o + i, none⟩)) (w' := w) ?_ h
  simp only [execOp, hx, hy]
  go_simp
theorem rn_neq_29 {o1 o2 : Operand} {b c : Int} (hx : a.eval o1 = .int .i16 b) (hy : a.eval o2 = .int .i16 c) (h : T (.bool (b != c)) w) : Runs Tryd.prog ⟨dst, .binOp .neq 29 o1 o2 29, ty, pos, after, g⟩ a w T := by
  refine Runs.value (v := .bool (b != c)) (w' := w) ?_ h
  simp only [execOp, hx, hy]
  go_simp
end
theorem Grew.atv {q : Addr} {v : Value} {w w' : World} (hg : Grew w w') (h : Atv q v w) : Atv q v w' := h.grew hg
set_option maxHeartbeats 2000000 in
/-- Same of two slices that hold the same. -/
theorem rsame_self (p q : Option Addr) (c d : Nat) (xs : List Int) (w : World) (h : RdL 1 h16 w p c xs) (h' : RdL 1 h16 w q d xs) :
    Calls Tryd.prog 20 #[.slice p xs.length c, .slice q xs.length d] w fun e w' => e = .returned (.bool true) ∧ Grew w w' := by
  have HX := Lib.hid h
  have HY := Lib.hid h'
  have hcap := h.cap
  have hmax := h.max
  clear h h'
  go_enter Tryd.func20, Tryd.ntmps20
  go_wp2
  go_loopg [13] xs.length (fun gg iv wr => ∃ (k : Nat), iv = .int .i64 (k : Int) ∧ k ≤ xs.length ∧ gg = xs.length - k ∧ Hid (Grew w wr))
  case atStart => exact ⟨0, rfl, Nat.zero_le _, rfl, Lib.hid (Grew.refl _)⟩
  case round =>
    obtain ⟨k, rfl, hk, rfl, HG⟩ := hrel
    by_cases hlt : k < xs.length
    · obtain ⟨b1, o1, rfl, hc1⟩ := (HX.out.kept HG.out).cells (by omega)
      obtain ⟨b2, o2, rfl, hc2⟩ := (HY.out.kept HG.out).cells (by omega)
      have d0 : Atv ⟨b1, o1 + k, none⟩ (.int .i16 xs[k]) wr := by have := hc1 k xs[k] (by simp [hlt]) 0 _ rfl; rw [Nat.mul_one, Nat.add_zero] at this; exact this
      have e0 : Atv ⟨b2, o2 + k, none⟩ (.int .i16 xs[k]) wr := by have := hc2 k xs[k] (by simp [hlt]) 0 _ rfl; rw [Nat.mul_one, Nat.add_zero] at this; exact this
      have HLT := Lib.hid (Nat.succ_le_of_lt hlt)
      generalize xs[k] = x at d0 e0
      clear hc1 hc2
      go_wp2
      have h0 : Atv ⟨b1, o1 + k, none⟩ (.int .i16 x) wr.drew := Grew.atv (Grew.refl _).drw d0
      have g0 : Atv ⟨b2, o2 + k, none⟩ (.int .i16 x) wr.drew := Grew.atv (Grew.refl _).drw e0
      refine wp_still [some 16, some 17, some 18, some 19, some 20, some 21, some 22, some 23, some 24] [false, false, false, false, false, false, false, false, false, false, false, false, false, false, false, false, true, true, true, true, true, true, true, true, true, false] [fun v _ => v = .slice (some ⟨b1, o1, none⟩) (xs.length) (c), fun v _ => v = .int .i64 (((k : Nat) : Int)), fun v _ => v = .pointer (some ⟨b1, o1 + k, none⟩), fun v _ => v = .int .i16 (x), fun v _ => v = .slice (some ⟨b2, o2, none⟩) (xs.length) (d), fun v _ => v = .int .i64 (((k : Nat) : Int)), fun v _ => v = .pointer (some ⟨b2, o2 + k, none⟩), fun v _ => v = .int .i16 (x), fun v _ => v = .bool (false)] (by kernel_rfl) (by kernel_rfl) rfl ⟨?_, ?_, ?_, ?_, ?_, ?_, ?_, ?_, ?_, trivial⟩ ?_
      · intro u w hR hd; exact runs_mv (ev rfl) ⟨rfl, rfl⟩
      · intro u w hR hd; exact runs_mv (ev rfl) ⟨rfl, rfl⟩
      · intro u w hR hd; exact rn_idx_34 (k) (ev (hd.1 rfl)) (ev (hd.2.1 rfl)) (by omega) ⟨rfl, rfl⟩
      · intro u w hR hd; exact rn_ld_29 (ev (hd.1 rfl)) (h0.kept hR) ⟨rfl, rfl⟩
      · intro u w hR hd; exact runs_mv (ev rfl) ⟨rfl, rfl⟩
      · intro u w hR hd; exact runs_mv (ev rfl) ⟨rfl, rfl⟩
      · intro u w hR hd; exact rn_idx_34 (k) (ev (hd.1 rfl)) (ev (hd.2.1 rfl)) (by omega) ⟨rfl, rfl⟩
      · intro u w hR hd; exact rn_ld_29 (ev (hd.1 rfl)) (g0.kept hR) ⟨rfl, rfl⟩
      · intro u w hR hd; exact rn_neq_29 (ev (hd.1 rfl)) (ev (hd.2.1 rfl)) ⟨rfl, (congrArg Value.bool (by simp))⟩
      intro u h
      have he : u 24 = .bool false := h 8 (by decide)
      simp only [mixA, mixL, zz9, zz0]
      rw [he]
      clear h he h0 g0 d0 e0
      go_wp2
      go_roundg (xs.length - (k + 1))
      case measure => have := HLT.out; omega
      case rel => exact ⟨k + 1, by go_num, HLT.out, rfl, Lib.hid HG.out.drw⟩
    · obtain rfl : k = xs.length := by omega
      go_wp2
      go_ret
      exact ⟨rfl, HG.out⟩
end Go.Proofs.YtbhglpiiabpdjaaDoor
