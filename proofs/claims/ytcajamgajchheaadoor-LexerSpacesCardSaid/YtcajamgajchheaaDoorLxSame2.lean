/-
  LAYER 15's REFERENCE: SameTexts and SameDiagnostics, of lists that are the same.
-/
import Derived.Test.YtcajamgajchheaaDoorLxSame
namespace Go.Proofs.YtcajamgajchheaaDoor
open Go Go.RowKit Go.IntWalk
set_option linter.unusedSimpArgs false
set_option linter.unusedVariables false
set_option maxRecDepth 8000
section
variable {dst : Option Tmp} {ty : TypeId} {pos : String} {after : Array Edge} {g : Option (Nat × Bool)} {a : Act} {w : World} {T : Value → World → Prop}
theorem rn_idx_31 {x y : Operand} {b o n c : Nat} (i : Nat) (hx : a.eval x = .slice (some ⟨b, o, none⟩) n c) (hy : a.eval y = .int .i64 (i : Int)) (hi : i < n) (h : T (.pointer (some ⟨b, o + i * 2, none⟩)) w) : Runs Tryd.prog ⟨dst, .indexAddr 31 x y, ty, pos, after, g⟩ a w T := by
  have hi2 : (i : Int) < (n : Int) := by omega
  refine Runs.value (v := .pointer (some ⟨b, o + i * 2, none⟩)) (w' := w) ?_ h
  simp only [execOp, hx, hy]
  go_simp
theorem rn_ld_51 {x : Operand} {S o : Nat} {v0 v1 : Value} (hx : a.eval x = .pointer (some ⟨S, o, none⟩)) (h0 : w.cell? ⟨S, o, none⟩ = some v0) (h1 : w.cell? ⟨S, o + 1, none⟩ = some v1) (h : T (.agg #[v0, v1]) w) : Runs Tryd.prog ⟨dst, .load 51 x, ty, pos, after, g⟩ a w T := by
  refine Runs.value (v := .agg #[v0, v1]) (w' := w) ?_ h
  simp only [execOp, hx]
  go_simp
end

abbrev Dg := Int × ByteArray
abbrev dgc (d : Dg) : List Value := [.int .i64 d.1, .string d.2]
abbrev dgv (d : Dg) : Value := .agg #[.int .i64 d.1, .string d.2]
theorem encD : Enc 2 dgc := ⟨fun _ => rfl, fun x u hu => by simp at hu; rcases hu with rfl | rfl <;> rfl, by decide⟩
section
variable {dst : Option Tmp} {ty : TypeId} {pos : String} {after : Array Edge} {g : Option (Nat × Bool)} {a : Act} {w : World} {T : Value → World → Prop}
theorem runs_neD {x y : Operand} {d : Dg} (hx : a.eval x = dgv d) (hy : a.eval y = dgv d) (h : T (.bool false) w) : Runs Tryd.prog ⟨dst, .binOp .neq 51 x y 51, ty, pos, after, g⟩ a w T := by
  refine Runs.value (v := .bool false) (w' := w) ?_ h
  have hp : Tryd.prog.stoodInHeld 51 = false := by kernel_rfl
  simp only [execOp, hx, hy]
  go_simp
end
set_option maxHeartbeats 4000000 in
theorem samet_any (p1 p2 : Option Addr) (c1 c2 : Nat) (xs : List ByteArray) (w : World) (h1 : Rw 1 stc w p1 c1 xs) (h2 : Rw 1 stc w p2 c2 xs) :
    Calls Tryd.prog 23 #[.slice p1 xs.length c1, .slice p2 xs.length c2] w fun e w' => e = .returned (.bool true) ∧ Grew w w' := by
  have HX := Lib.hid h1
  have HY := Lib.hid h2
  have hcap := h1.cap
  have hmax := h1.max
  clear h1 h2
  go_enter Tryd.func23, Tryd.ntmps23
  go_wp2
  go_loopg [5] xs.length (fun gg iv wr => ∃ (k : Nat), iv = .int .i64 (k : Int) ∧ k ≤ xs.length ∧ gg = xs.length - k ∧ Hid (Grew w wr))
  case atStart => exact ⟨0, rfl, Nat.zero_le _, rfl, Lib.hid (Grew.refl _)⟩
  case round =>
    obtain ⟨k, rfl, hk, rfl, HG⟩ := hrel
    by_cases hlt : k < xs.length
    · obtain ⟨b1, o1, rfl, hcc⟩ := (HX.out.kept HG.out).rd.cells (by omega)
      obtain ⟨b2, o2, rfl, hcd⟩ := (HY.out.kept HG.out).rd.cells (by omega)
      have hx : xs[k]? = some xs[k] := by simp [hlt]
      have hc1 := hcc k xs[k] hx
      have hc2 := hcd k xs[k] hx
      have HLT := Lib.hid (Nat.succ_le_of_lt hlt)
      generalize xs[k] = x at hc1 hc2 hx
      have d0 : Atv ⟨b1, o1 + k, none⟩ (.string x) wr.drew := atv_of (Grew.refl _).drw (by simpa using hc1 0 _ rfl)
      have f0 : Atv ⟨b2, o2 + k, none⟩ (.string x) wr.drew := atv_of (Grew.refl _).drw (by simpa using hc2 0 _ rfl)
      clear hcc hc1 hcd hc2 hx
      go_wp2
      refine wp_posts [some 17, some 18, some 19, some 20, some 21, some 22, some 23, some 24, some 25] [false, false, false, false, false, false, false, false, false, false, false, false, false, false, false, false, false, true, true, true, true, true, true, true, true, true] [fun v _ => v = .slice (some ⟨b1, o1, none⟩) (xs.length) (c1), fun v _ => v = .int .i64 (((k : Nat) : Int)), fun v _ => v = .pointer (some ⟨b1, o1 + k, none⟩), fun v _ => v = .string x, fun v _ => v = .slice (some ⟨b2, o2, none⟩) (xs.length) (c2), fun v _ => v = .int .i64 (((k : Nat) : Int)), fun v _ => v = .pointer (some ⟨b2, o2 + k, none⟩), fun v _ => v = .string x, fun v _ => v = .bool false] (by kernel_rfl) (by kernel_rfl) rfl ?_ ⟨?_, ?_, ?_, ?_, ?_, ?_, ?_, ?_, ?_, trivial⟩ ?_
      · exact ⟨fun _ _ _ _ h => h, fun _ _ _ _ h => h, fun _ _ _ _ h => h, fun _ _ _ _ h => h, fun _ _ _ _ h => h, fun _ _ _ _ h => h, fun _ _ _ _ h => h, fun _ _ _ _ h => h, fun _ _ _ _ h => h, trivial⟩
      · intro u w hR hd; exact runs_mv (ev rfl) ⟨Grew.refl _, rfl⟩
      · intro u w hR hd; exact runs_mv (ev rfl) ⟨Grew.refl _, rfl⟩
      · intro u w hR hd; exact rn_idx_43 (k) (ev (hd.1 rfl)) (ev (hd.2.1 rfl)) (by omega) ⟨Grew.refl _, rfl⟩
      · intro u w hR hd; exact rn_ld_9 (ev (hd.1 rfl)) (d0.kept hR) ⟨Grew.refl _, rfl⟩
      · intro u w hR hd; exact runs_mv (ev rfl) ⟨Grew.refl _, rfl⟩
      · intro u w hR hd; exact runs_mv (ev rfl) ⟨Grew.refl _, rfl⟩
      · intro u w hR hd; exact rn_idx_43 (k) (ev (hd.1 rfl)) (ev (hd.2.1 rfl)) (by omega) ⟨Grew.refl _, rfl⟩
      · intro u w hR hd; exact rn_ld_9 (ev (hd.1 rfl)) (f0.kept hR) ⟨Grew.refl _, rfl⟩
      · intro u w hR hd; exact runs_nes (ev (hd.1 rfl)) (ev (hd.2.1 rfl)) ⟨Grew.refl _, rfl⟩
      · intro u w4 hR h
        have he : u 25 = .bool false := h 8 (by decide)
        have HG4 := Lib.hid (HG.out.drw.trans hR)
        simp only [mixA, mixL, cond_true, cond_false, he]
        clear h he d0 f0 hR
        go_wp2
        go_roundg (xs.length - (k + 1))
        case measure => have := HLT.out; omega
        case rel => exact ⟨k + 1, by go_num, HLT.out, rfl, HG4⟩
    · obtain rfl : k = xs.length := by omega
      go_wp2
      go_ret
      exact ⟨rfl, HG.out⟩
set_option maxHeartbeats 4000000 in
theorem samed_any (p1 p2 : Option Addr) (c1 c2 : Nat) (xs : List Dg) (w : World) (h1 : Rw 2 dgc w p1 c1 xs) (h2 : Rw 2 dgc w p2 c2 xs) :
    Calls Tryd.prog 15 #[.slice p1 xs.length c1, .slice p2 xs.length c2] w fun e w' => e = .returned (.bool true) ∧ Grew w w' := by
  have HX := Lib.hid h1
  have HY := Lib.hid h2
  have hcap := h1.cap
  have hmax := h1.max
  clear h1 h2
  go_enter Tryd.func15, Tryd.ntmps15
  go_wp2
  go_loopg [5] xs.length (fun gg iv wr => ∃ (k : Nat), iv = .int .i64 (k : Int) ∧ k ≤ xs.length ∧ gg = xs.length - k ∧ Hid (Grew w wr))
  case atStart => exact ⟨0, rfl, Nat.zero_le _, rfl, Lib.hid (Grew.refl _)⟩
  case round =>
    obtain ⟨k, rfl, hk, rfl, HG⟩ := hrel
    by_cases hlt : k < xs.length
    · obtain ⟨b1, o1, rfl, hcc⟩ := (HX.out.kept HG.out).rd.cells (by omega)
      obtain ⟨b2, o2, rfl, hcd⟩ := (HY.out.kept HG.out).rd.cells (by omega)
      have hx : xs[k]? = some xs[k] := by simp [hlt]
      have hc1 := hcc k xs[k] hx
      have hc2 := hcd k xs[k] hx
      have HLT := Lib.hid (Nat.succ_le_of_lt hlt)
      generalize xs[k] = x at hc1 hc2 hx
      have d0 : Atv ⟨b1, o1 + k * 2, none⟩ (.int .i64 (x.1)) wr.drew := atv_of (Grew.refl _).drw (by simpa using hc1 0 _ rfl)
      have d1 : Atv ⟨b1, o1 + k * 2 + 1, none⟩ (.string x.2) wr.drew := atv_of (Grew.refl _).drw (hc1 1 _ rfl)
      have f0 : Atv ⟨b2, o2 + k * 2, none⟩ (.int .i64 (x.1)) wr.drew := atv_of (Grew.refl _).drw (by simpa using hc2 0 _ rfl)
      have f1 : Atv ⟨b2, o2 + k * 2 + 1, none⟩ (.string x.2) wr.drew := atv_of (Grew.refl _).drw (hc2 1 _ rfl)
      clear hcc hc1 hcd hc2 hx
      go_wp2
      refine wp_posts [some 17, some 18, some 19, some 20, some 21, some 22, some 23, some 24, some 25] [false, false, false, false, false, false, false, false, false, false, false, false, false, false, false, false, false, true, true, true, true, true, true, true, true, true] [fun v _ => v = .slice (some ⟨b1, o1, none⟩) (xs.length) (c1), fun v _ => v = .int .i64 (((k : Nat) : Int)), fun v _ => v = .pointer (some ⟨b1, o1 + k * 2, none⟩), fun v _ => v = .agg #[.int .i64 (x.1), .string x.2], fun v _ => v = .slice (some ⟨b2, o2, none⟩) (xs.length) (c2), fun v _ => v = .int .i64 (((k : Nat) : Int)), fun v _ => v = .pointer (some ⟨b2, o2 + k * 2, none⟩), fun v _ => v = .agg #[.int .i64 (x.1), .string x.2], fun v _ => v = .bool false] (by kernel_rfl) (by kernel_rfl) rfl ?_ ⟨?_, ?_, ?_, ?_, ?_, ?_, ?_, ?_, ?_, trivial⟩ ?_
      · exact ⟨fun _ _ _ _ h => h, fun _ _ _ _ h => h, fun _ _ _ _ h => h, fun _ _ _ _ h => h, fun _ _ _ _ h => h, fun _ _ _ _ h => h, fun _ _ _ _ h => h, fun _ _ _ _ h => h, fun _ _ _ _ h => h, trivial⟩
      · intro u w hR hd; exact runs_mv (ev rfl) ⟨Grew.refl _, rfl⟩
      · intro u w hR hd; exact runs_mv (ev rfl) ⟨Grew.refl _, rfl⟩
      · intro u w hR hd; exact rn_idx_31 (k) (ev (hd.1 rfl)) (ev (hd.2.1 rfl)) (by omega) ⟨Grew.refl _, rfl⟩
      · intro u w hR hd; exact rn_ld_51 (ev (hd.1 rfl)) (d0.kept hR) (d1.kept hR) ⟨Grew.refl _, rfl⟩
      · intro u w hR hd; exact runs_mv (ev rfl) ⟨Grew.refl _, rfl⟩
      · intro u w hR hd; exact runs_mv (ev rfl) ⟨Grew.refl _, rfl⟩
      · intro u w hR hd; exact rn_idx_31 (k) (ev (hd.1 rfl)) (ev (hd.2.1 rfl)) (by omega) ⟨Grew.refl _, rfl⟩
      · intro u w hR hd; exact rn_ld_51 (ev (hd.1 rfl)) (f0.kept hR) (f1.kept hR) ⟨Grew.refl _, rfl⟩
      · intro u w hR hd; exact runs_neD (ev (hd.1 rfl)) (ev (hd.2.1 rfl)) ⟨Grew.refl _, rfl⟩
      · intro u w4 hR h
        have he : u 25 = .bool false := h 8 (by decide)
        have HG4 := Lib.hid (HG.out.drw.trans hR)
        simp only [mixA, mixL, cond_true, cond_false, he]
        clear h he d0 d1 f0 f1 hR
        go_wp2
        go_roundg (xs.length - (k + 1))
        case measure => have := HLT.out; omega
        case rel => exact ⟨k + 1, by go_num, HLT.out, rfl, HG4⟩
    · obtain rfl : k = xs.length := by omega
      go_wp2
      go_ret
      exact ⟨rfl, HG.out⟩
end Go.Proofs.YtcajamgajchheaaDoor
