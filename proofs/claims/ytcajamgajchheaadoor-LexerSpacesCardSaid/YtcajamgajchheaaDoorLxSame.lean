/-
  LAYER 15's REFERENCE: Same, of lists that are the same.
-/
import Derived.Test.YtcajamgajchheaaDoorLxConv
namespace Go.Proofs.YtcajamgajchheaaDoor
open Go Go.RowKit Go.IntWalk
set_option linter.unusedSimpArgs false
set_option linter.unusedVariables false
set_option maxRecDepth 8000
section
variable {dst : Option Tmp} {ty : TypeId} {pos : String} {after : Array Edge} {g : Option (Nat × Bool)} {a : Act} {w : World} {T : Value → World → Prop}
theorem rn_idx_24 {x y : Operand} {b o n c : Nat} (i : Nat) (hx : a.eval x = .slice (some ⟨b, o, none⟩) n c) (hy : a.eval y = .int .i64 (i : Int)) (hi : i < n) (h : T (.pointer (some ⟨b, o + i * 4, none⟩)) w) : Runs Tryd.prog ⟨dst, .indexAddr 24 x y, ty, pos, after, g⟩ a w T := by
  have hi2 : (i : Int) < (n : Int) := by omega
  refine Runs.value (v := .pointer (some ⟨b, o + i * 4, none⟩)) (w' := w) ?_ h
  simp only [execOp, hx, hy]
  go_simp
theorem rn_fld_38_0 {x : Operand} {S o : Nat} (hx : a.eval x = .pointer (some ⟨S, o, none⟩)) (h : T (.pointer (some ⟨S, o, none⟩)) w) : Runs Tryd.prog ⟨dst, .fieldAddr 38 x 0, ty, pos, after, g⟩ a w T := by
  refine Runs.value (v := .pointer (some ⟨S, o, none⟩)) (w' := w) ?_ h
  simp only [execOp, hx]
  go_simp
theorem rn_ld_3 {x : Operand} {q : Addr} {v : Value} (hx : a.eval x = .pointer (some q)) (hc : w.cell? q = some v) (h : T v w) : Runs Tryd.prog ⟨dst, .load 3 x, ty, pos, after, g⟩ a w T := by
  refine Runs.value (v := v) (w' := w) ?_ h
  simp only [execOp, hx]
  go_simp
theorem rn_fld_38_1 {x : Operand} {S o : Nat} (hx : a.eval x = .pointer (some ⟨S, o, none⟩)) (h : T (.pointer (some ⟨S, o + 1, none⟩)) w) : Runs Tryd.prog ⟨dst, .fieldAddr 38 x 1, ty, pos, after, g⟩ a w T := by
  refine Runs.value (v := .pointer (some ⟨S, o + 1, none⟩)) (w' := w) ?_ h
  simp only [execOp, hx]
  go_simp
theorem rn_fld_38_2 {x : Operand} {S o : Nat} (hx : a.eval x = .pointer (some ⟨S, o, none⟩)) (h : T (.pointer (some ⟨S, o + 2, none⟩)) w) : Runs Tryd.prog ⟨dst, .fieldAddr 38 x 2, ty, pos, after, g⟩ a w T := by
  refine Runs.value (v := .pointer (some ⟨S, o + 2, none⟩)) (w' := w) ?_ h
  simp only [execOp, hx]
  go_simp
theorem rn_ld_36 {x : Operand} {q : Addr} {v : Value} (hx : a.eval x = .pointer (some q)) (hc : w.cell? q = some v) (h : T v w) : Runs Tryd.prog ⟨dst, .load 36 x, ty, pos, after, g⟩ a w T := by
  refine Runs.value (v := v) (w' := w) ?_ h
  simp only [execOp, hx]
  go_simp
theorem rn_fld_38_3 {x : Operand} {S o : Nat} (hx : a.eval x = .pointer (some ⟨S, o, none⟩)) (h : T (.pointer (some ⟨S, o + 3, none⟩)) w) : Runs Tryd.prog ⟨dst, .fieldAddr 38 x 3, ty, pos, after, g⟩ a w T := by
  refine Runs.value (v := .pointer (some ⟨S, o + 3, none⟩)) (w' := w) ?_ h
  simp only [execOp, hx]
  go_simp
end

section
variable {dst : Option Tmp} {ty : TypeId} {pos : String} {after : Array Edge} {g : Option (Nat × Bool)} {a : Act} {w : World} {T : Value → World → Prop}
theorem runs_nes {x y : Operand} {s : ByteArray} (hx : a.eval x = .string s) (hy : a.eval y = .string s) (h : T (.bool false) w) : Runs Tryd.prog ⟨dst, .binOp .neq 9 x y 9, ty, pos, after, g⟩ a w T := by
  refine Runs.value (v := .bool false) (w' := w) ?_ h
  simp only [execOp, hx, hy]
  go_simp
theorem runs_nei3 {x y : Operand} {z : Int} (hx : a.eval x = .int .i64 z) (hy : a.eval y = .int .i64 z) (h : T (.bool false) w) : Runs Tryd.prog ⟨dst, .binOp .neq 3 x y 3, ty, pos, after, g⟩ a w T := by
  refine Runs.value (v := .bool false) (w' := w) ?_ h
  simp only [execOp, hx, hy]
  go_simp
theorem runs_nei16 {x y : Operand} {z : Int} (hx : a.eval x = .int .i16 z) (hy : a.eval y = .int .i16 z) (h : T (.bool false) w) : Runs Tryd.prog ⟨dst, .binOp .neq 36 x y 36, ty, pos, after, g⟩ a w T := by
  refine Runs.value (v := .bool false) (w' := w) ?_ h
  simp only [execOp, hx, hy]
  go_simp
end
set_option maxHeartbeats 4000000 in
theorem same_any (p1 p2 : Option Addr) (c1 c2 : Nat) (xs ys : List Tk) (pos : Bool) (w : World) (h1 : Rw 4 tkc w p1 c1 xs) (h2 : Rw 4 tkc w p2 c2 ys) (hs : xs.map sig = ys.map sig) (hp : pos = true → xs = ys) :
    Calls Tryd.prog 11 #[.slice p1 xs.length c1, .slice p2 ys.length c2, .bool pos] w fun e w' => e = .returned (.bool true) ∧ Grew w w' := by
  have HX := Lib.hid h1
  have HY := Lib.hid h2
  have hcap := h1.cap
  have hmax := h1.max
  have hlen : ys.length = xs.length := by have := congrArg List.length hs; simpa using this.symm
  have HSIG := Lib.hid (fun k (hk : k < xs.length) => (show sig xs[k] = sig (ys[k]'(by omega)) by
    have h3 : (xs.map sig)[k]? = (ys.map sig)[k]? := by rw [hs]
    rw [List.getElem?_map, List.getElem?_map, List.getElem?_eq_getElem hk, List.getElem?_eq_getElem (by omega : k < ys.length)] at h3
    exact Option.some.inj h3))
  have HPOS := Lib.hid (fun (h : pos = true) k (hk : k < xs.length) => (show xs[k].pos = (ys[k]'(by omega)).pos by
    have h3 := hp h
    subst h3
    rfl))
  rw [hlen]
  clear h1 h2 hs hp
  go_enter Tryd.func11, Tryd.ntmps11
  go_wp2
  go_loopg [7] xs.length (fun gg iv wr => ∃ (k : Nat), iv = .int .i64 (k : Int) ∧ k ≤ xs.length ∧ gg = xs.length - k ∧ Hid (Grew w wr))
  case atStart => exact ⟨0, rfl, Nat.zero_le _, rfl, Lib.hid (Grew.refl _)⟩
  case round =>
    obtain ⟨k, rfl, hk, rfl, HG⟩ := hrel
    by_cases hlt : k < xs.length
    · have hlt2 : k < ys.length := by omega
      obtain ⟨b1, o1, rfl, hcc⟩ := (HX.out.kept HG.out).rd.cells (by omega)
      obtain ⟨b2, o2, rfl, hcd⟩ := (HY.out.kept HG.out).rd.cells (by omega)
      have hx : xs[k]? = some xs[k] := by simp [hlt]
      have hy : ys[k]? = some ys[k] := by simp [hlt2]
      have hc1 := hcc k xs[k] hx
      have hc2 := hcd k ys[k] hy
      have hsg := HSIG.out k hlt
      have hps := fun h => HPOS.out h k hlt
      have HLT := Lib.hid (Nat.succ_le_of_lt hlt)
      generalize xs[k] = x at hc1 hx hsg hps
      generalize ys[k] = y at hc2 hy hsg hps
      obtain ⟨kk, T, vv, pp⟩ := x
      obtain ⟨kk', T', vv', pq⟩ := y
      simp only [sig, Prod.mk.injEq] at hsg
      obtain ⟨rfl, rfl, rfl⟩ := hsg
      have d0 : Atv ⟨b1, o1 + k * 4, none⟩ (.int .i64 kk) wr.drew := atv_of (Grew.refl _).drw (by simpa using hc1 0 _ rfl)
      have d1 : Atv ⟨b1, o1 + k * 4 + 1, none⟩ (.string T) wr.drew := atv_of (Grew.refl _).drw (hc1 1 _ rfl)
      have d2 : Atv ⟨b1, o1 + k * 4 + 2, none⟩ (.int .i16 vv) wr.drew := atv_of (Grew.refl _).drw (hc1 2 _ rfl)
      have d3 : Atv ⟨b1, o1 + k * 4 + 3, none⟩ (.int .i64 pp) wr.drew := atv_of (Grew.refl _).drw (hc1 3 _ rfl)
      have f0 : Atv ⟨b2, o2 + k * 4, none⟩ (.int .i64 kk) wr.drew := atv_of (Grew.refl _).drw (by simpa using hc2 0 _ rfl)
      have f1 : Atv ⟨b2, o2 + k * 4 + 1, none⟩ (.string T) wr.drew := atv_of (Grew.refl _).drw (hc2 1 _ rfl)
      have f2 : Atv ⟨b2, o2 + k * 4 + 2, none⟩ (.int .i16 vv) wr.drew := atv_of (Grew.refl _).drw (hc2 2 _ rfl)
      have f3 : Atv ⟨b2, o2 + k * 4 + 3, none⟩ (.int .i64 pq) wr.drew := atv_of (Grew.refl _).drw (hc2 3 _ rfl)
      clear hcc hc1 hcd hc2 hx hy
      cases pos with
      | true =>
        have hpp : pp = pq := hps rfl
        subst hpp
        clear hps
        go_wp2
        refine wp_posts [some 19, some 20, some 21, some 22, some 23, some 24, some 25, some 26, some 27, some 28, some 29, some 30, some 31, some 32, some 33, some 34, some 35, some 36, some 37, some 38, some 39, some 40, some 41, some 42, some 43, some 44, some 45, some 46, some 47, some 48, some 49, some 50, some 51, some 52, some 53, some 54, some 55, some 56, some 57, some 58, some 59, some 60, some 61, some 62, some 63, some 64, some 65, some 66, some 67, some 68, some 69, some 70, some 71] [false, false, false, false, false, false, false, false, false, false, false, false, false, false, false, false, false, false, false, true, true, true, true, true, true, true, true, true, true, true, true, true, true, true, true, true, true, true, true, true, true, true, true, true, true, true, true, true, true, true, true, true, true, true, true, true, true, true, true, true, true, true, true, true, true, true, true, true, true, true, true, true] [fun v _ => v = .slice (some ⟨b1, o1, none⟩) (xs.length) (c1), fun v _ => v = .int .i64 (((k : Nat) : Int)), fun v _ => v = .pointer (some ⟨b1, o1 + k * 4, none⟩), fun v _ => v = .pointer (some ⟨b1, o1 + k * 4, none⟩), fun v _ => v = .int .i64 (kk), fun v _ => v = .slice (some ⟨b2, o2, none⟩) (xs.length) (c2), fun v _ => v = .int .i64 (((k : Nat) : Int)), fun v _ => v = .pointer (some ⟨b2, o2 + k * 4, none⟩), fun v _ => v = .pointer (some ⟨b2, o2 + k * 4, none⟩), fun v _ => v = .int .i64 (kk), fun v _ => v = .bool false, fun v _ => v = .bool (false), fun v _ => v = .slice (some ⟨b1, o1, none⟩) (xs.length) (c1), fun v _ => v = .int .i64 (((k : Nat) : Int)), fun v _ => v = .pointer (some ⟨b1, o1 + k * 4, none⟩), fun v _ => v = .pointer (some ⟨b1, o1 + k * 4 + 1, none⟩), fun v _ => v = .string T, fun v _ => v = .slice (some ⟨b2, o2, none⟩) (xs.length) (c2), fun v _ => v = .int .i64 (((k : Nat) : Int)), fun v _ => v = .pointer (some ⟨b2, o2 + k * 4, none⟩), fun v _ => v = .pointer (some ⟨b2, o2 + k * 4 + 1, none⟩), fun v _ => v = .string T, fun v _ => v = .bool false, fun v _ => v = .bool (false), fun v _ => v = .bool (false), fun v _ => v = .slice (some ⟨b1, o1, none⟩) (xs.length) (c1), fun v _ => v = .int .i64 (((k : Nat) : Int)), fun v _ => v = .pointer (some ⟨b1, o1 + k * 4, none⟩), fun v _ => v = .pointer (some ⟨b1, o1 + k * 4 + 2, none⟩), fun v _ => v = .int .i16 (vv), fun v _ => v = .slice (some ⟨b2, o2, none⟩) (xs.length) (c2), fun v _ => v = .int .i64 (((k : Nat) : Int)), fun v _ => v = .pointer (some ⟨b2, o2 + k * 4, none⟩), fun v _ => v = .pointer (some ⟨b2, o2 + k * 4 + 2, none⟩), fun v _ => v = .int .i16 (vv), fun v _ => v = .bool false, fun v _ => v = .bool (false), fun v _ => v = .bool (false), fun v _ => v = .bool (true), fun v _ => v = .bool (true), fun v _ => v = .slice (some ⟨b1, o1, none⟩) (xs.length) (c1), fun v _ => v = .int .i64 (((k : Nat) : Int)), fun v _ => v = .pointer (some ⟨b1, o1 + k * 4, none⟩), fun v _ => v = .pointer (some ⟨b1, o1 + k * 4 + 3, none⟩), fun v _ => v = .int .i64 (pp), fun v _ => v = .slice (some ⟨b2, o2, none⟩) (xs.length) (c2), fun v _ => v = .int .i64 (((k : Nat) : Int)), fun v _ => v = .pointer (some ⟨b2, o2 + k * 4, none⟩), fun v _ => v = .pointer (some ⟨b2, o2 + k * 4 + 3, none⟩), fun v _ => v = .int .i64 (pp), fun v _ => v = .bool false, fun v _ => v = .bool (false), fun v _ => v = .bool (false)] (by kernel_rfl) (by kernel_rfl) rfl ?_ ⟨?_, ?_, ?_, ?_, ?_, ?_, ?_, ?_, ?_, ?_, ?_, ?_, ?_, ?_, ?_, ?_, ?_, ?_, ?_, ?_, ?_, ?_, ?_, ?_, ?_, ?_, ?_, ?_, ?_, ?_, ?_, ?_, ?_, ?_, ?_, ?_, ?_, ?_, ?_, ?_, ?_, ?_, ?_, ?_, ?_, ?_, ?_, ?_, ?_, ?_, ?_, ?_, ?_, trivial⟩ ?_
        · exact ⟨fun _ _ _ _ h => h, fun _ _ _ _ h => h, fun _ _ _ _ h => h, fun _ _ _ _ h => h, fun _ _ _ _ h => h, fun _ _ _ _ h => h, fun _ _ _ _ h => h, fun _ _ _ _ h => h, fun _ _ _ _ h => h, fun _ _ _ _ h => h, fun _ _ _ _ h => h, fun _ _ _ _ h => h, fun _ _ _ _ h => h, fun _ _ _ _ h => h, fun _ _ _ _ h => h, fun _ _ _ _ h => h, fun _ _ _ _ h => h, fun _ _ _ _ h => h, fun _ _ _ _ h => h, fun _ _ _ _ h => h, fun _ _ _ _ h => h, fun _ _ _ _ h => h, fun _ _ _ _ h => h, fun _ _ _ _ h => h, fun _ _ _ _ h => h, fun _ _ _ _ h => h, fun _ _ _ _ h => h, fun _ _ _ _ h => h, fun _ _ _ _ h => h, fun _ _ _ _ h => h, fun _ _ _ _ h => h, fun _ _ _ _ h => h, fun _ _ _ _ h => h, fun _ _ _ _ h => h, fun _ _ _ _ h => h, fun _ _ _ _ h => h, fun _ _ _ _ h => h, fun _ _ _ _ h => h, fun _ _ _ _ h => h, fun _ _ _ _ h => h, fun _ _ _ _ h => h, fun _ _ _ _ h => h, fun _ _ _ _ h => h, fun _ _ _ _ h => h, fun _ _ _ _ h => h, fun _ _ _ _ h => h, fun _ _ _ _ h => h, fun _ _ _ _ h => h, fun _ _ _ _ h => h, fun _ _ _ _ h => h, fun _ _ _ _ h => h, fun _ _ _ _ h => h, fun _ _ _ _ h => h, trivial⟩
        · intro u w hR hd; exact runs_mv (ev rfl) ⟨Grew.refl _, rfl⟩
        · intro u w hR hd; exact runs_mv (ev rfl) ⟨Grew.refl _, rfl⟩
        · intro u w hR hd; exact rn_idx_24 (k) (ev (hd.1 rfl)) (ev (hd.2.1 rfl)) (by omega) ⟨Grew.refl _, rfl⟩
        · intro u w hR hd; exact rn_fld_38_0 (ev (hd.1 rfl)) ⟨Grew.refl _, rfl⟩
        · intro u w hR hd; exact rn_ld_3 (ev (hd.1 rfl)) (d0.kept hR) ⟨Grew.refl _, rfl⟩
        · intro u w hR hd; exact runs_mv (ev rfl) ⟨Grew.refl _, rfl⟩
        · intro u w hR hd; exact runs_mv (ev rfl) ⟨Grew.refl _, rfl⟩
        · intro u w hR hd; exact rn_idx_24 (k) (ev (hd.1 rfl)) (ev (hd.2.1 rfl)) (by omega) ⟨Grew.refl _, rfl⟩
        · intro u w hR hd; exact rn_fld_38_0 (ev (hd.1 rfl)) ⟨Grew.refl _, rfl⟩
        · intro u w hR hd; exact rn_ld_3 (ev (hd.1 rfl)) (f0.kept hR) ⟨Grew.refl _, rfl⟩
        · intro u w hR hd; exact runs_nei3 (ev (hd.1 rfl)) (ev (hd.2.1 rfl)) ⟨Grew.refl _, rfl⟩
        · intro u w hR hd; exact runs_mv (ev (hd.1 rfl)) ⟨Grew.refl _, rfl⟩
        · intro u w hR hd; exact ⟨fun _ => runs_mv (ev rfl) ⟨Grew.refl _, rfl⟩, fun hn => absurd (hd.1 rfl) hn⟩
        · intro u w hR hd; exact ⟨fun _ => runs_mv (ev rfl) ⟨Grew.refl _, rfl⟩, fun hn => absurd (hd.1 rfl) hn⟩
        · intro u w hR hd; exact ⟨fun _ => rn_idx_24 (k) (ev (hd.1 rfl)) (ev (hd.2.1 rfl)) (by omega) ⟨Grew.refl _, rfl⟩, fun hn => absurd (hd.2.2.1 rfl) hn⟩
        · intro u w hR hd; exact ⟨fun _ => rn_fld_38_1 (ev (hd.1 rfl)) ⟨Grew.refl _, rfl⟩, fun hn => absurd (hd.2.1 rfl) hn⟩
        · intro u w hR hd; exact ⟨fun _ => rn_ld_9 (ev (hd.1 rfl)) (d1.kept hR) ⟨Grew.refl _, rfl⟩, fun hn => absurd (hd.2.1 rfl) hn⟩
        · intro u w hR hd; exact ⟨fun _ => runs_mv (ev rfl) ⟨Grew.refl _, rfl⟩, fun hn => absurd (hd.1 rfl) hn⟩
        · intro u w hR hd; exact ⟨fun _ => runs_mv (ev rfl) ⟨Grew.refl _, rfl⟩, fun hn => absurd (hd.1 rfl) hn⟩
        · intro u w hR hd; exact ⟨fun _ => rn_idx_24 (k) (ev (hd.1 rfl)) (ev (hd.2.1 rfl)) (by omega) ⟨Grew.refl _, rfl⟩, fun hn => absurd (hd.2.2.1 rfl) hn⟩
        · intro u w hR hd; exact ⟨fun _ => rn_fld_38_1 (ev (hd.1 rfl)) ⟨Grew.refl _, rfl⟩, fun hn => absurd (hd.2.1 rfl) hn⟩
        · intro u w hR hd; exact ⟨fun _ => rn_ld_9 (ev (hd.1 rfl)) (f1.kept hR) ⟨Grew.refl _, rfl⟩, fun hn => absurd (hd.2.1 rfl) hn⟩
        · intro u w hR hd; exact ⟨fun _ => runs_nes (ev (hd.1 rfl)) (ev (hd.2.1 rfl)) ⟨Grew.refl _, rfl⟩, fun hn => absurd (hd.2.2.1 rfl) hn⟩
        · intro u w hR hd; exact runs_or2 (ev (hd.1 rfl)) (fun hb => ev ((hd.2.1 rfl))) ⟨Grew.refl _, rfl⟩
        · intro u w hR hd; exact runs_mv (ev (hd.1 rfl)) ⟨Grew.refl _, rfl⟩
        · intro u w hR hd; exact ⟨fun _ => runs_mv (ev rfl) ⟨Grew.refl _, rfl⟩, fun hn => absurd (hd.1 rfl) hn⟩
        · intro u w hR hd; exact ⟨fun _ => runs_mv (ev rfl) ⟨Grew.refl _, rfl⟩, fun hn => absurd (hd.1 rfl) hn⟩
        · intro u w hR hd; exact ⟨fun _ => rn_idx_24 (k) (ev (hd.1 rfl)) (ev (hd.2.1 rfl)) (by omega) ⟨Grew.refl _, rfl⟩, fun hn => absurd (hd.2.2.1 rfl) hn⟩
        · intro u w hR hd; exact ⟨fun _ => rn_fld_38_2 (ev (hd.1 rfl)) ⟨Grew.refl _, rfl⟩, fun hn => absurd (hd.2.1 rfl) hn⟩
        · intro u w hR hd; exact ⟨fun _ => rn_ld_36 (ev (hd.1 rfl)) (d2.kept hR) ⟨Grew.refl _, rfl⟩, fun hn => absurd (hd.2.1 rfl) hn⟩
        · intro u w hR hd; exact ⟨fun _ => runs_mv (ev rfl) ⟨Grew.refl _, rfl⟩, fun hn => absurd (hd.1 rfl) hn⟩
        · intro u w hR hd; exact ⟨fun _ => runs_mv (ev rfl) ⟨Grew.refl _, rfl⟩, fun hn => absurd (hd.1 rfl) hn⟩
        · intro u w hR hd; exact ⟨fun _ => rn_idx_24 (k) (ev (hd.1 rfl)) (ev (hd.2.1 rfl)) (by omega) ⟨Grew.refl _, rfl⟩, fun hn => absurd (hd.2.2.1 rfl) hn⟩
        · intro u w hR hd; exact ⟨fun _ => rn_fld_38_2 (ev (hd.1 rfl)) ⟨Grew.refl _, rfl⟩, fun hn => absurd (hd.2.1 rfl) hn⟩
        · intro u w hR hd; exact ⟨fun _ => rn_ld_36 (ev (hd.1 rfl)) (f2.kept hR) ⟨Grew.refl _, rfl⟩, fun hn => absurd (hd.2.1 rfl) hn⟩
        · intro u w hR hd; exact ⟨fun _ => runs_nei16 (ev (hd.1 rfl)) (ev (hd.2.1 rfl)) ⟨Grew.refl _, rfl⟩, fun hn => absurd (hd.2.2.1 rfl) hn⟩
        · intro u w hR hd; exact runs_or2 (ev (hd.1 rfl)) (fun hb => ev ((hd.2.1 rfl))) ⟨Grew.refl _, rfl⟩
        · intro u w hR hd; exact runs_mv (ev (hd.1 rfl)) ⟨Grew.refl _, rfl⟩
        · intro u w hR hd; exact ⟨fun _ => runs_mv (ev rfl) ⟨Grew.refl _, rfl⟩, fun hn => absurd (hd.1 rfl) hn⟩
        · intro u w hR hd; exact ⟨fun _ => runs_mv (ev (hd.1 rfl)) ⟨Grew.refl _, rfl⟩, fun hn => absurd (hd.2.1 rfl) hn⟩
        · intro u w hR hd; exact ⟨fun _ => runs_mv (ev rfl) ⟨Grew.refl _, rfl⟩, fun hn => absurd (hd.1 rfl) hn⟩
        · intro u w hR hd; exact ⟨fun _ => runs_mv (ev rfl) ⟨Grew.refl _, rfl⟩, fun hn => absurd (hd.1 rfl) hn⟩
        · intro u w hR hd; exact ⟨fun _ => rn_idx_24 (k) (ev (hd.1 rfl)) (ev (hd.2.1 rfl)) (by omega) ⟨Grew.refl _, rfl⟩, fun hn => absurd (hd.2.2.1 rfl) hn⟩
        · intro u w hR hd; exact ⟨fun _ => rn_fld_38_3 (ev (hd.1 rfl)) ⟨Grew.refl _, rfl⟩, fun hn => absurd (hd.2.1 rfl) hn⟩
        · intro u w hR hd; exact ⟨fun _ => rn_ld_3 (ev (hd.1 rfl)) (d3.kept hR) ⟨Grew.refl _, rfl⟩, fun hn => absurd (hd.2.1 rfl) hn⟩
        · intro u w hR hd; exact ⟨fun _ => runs_mv (ev rfl) ⟨Grew.refl _, rfl⟩, fun hn => absurd (hd.1 rfl) hn⟩
        · intro u w hR hd; exact ⟨fun _ => runs_mv (ev rfl) ⟨Grew.refl _, rfl⟩, fun hn => absurd (hd.1 rfl) hn⟩
        · intro u w hR hd; exact ⟨fun _ => rn_idx_24 (k) (ev (hd.1 rfl)) (ev (hd.2.1 rfl)) (by omega) ⟨Grew.refl _, rfl⟩, fun hn => absurd (hd.2.2.1 rfl) hn⟩
        · intro u w hR hd; exact ⟨fun _ => rn_fld_38_3 (ev (hd.1 rfl)) ⟨Grew.refl _, rfl⟩, fun hn => absurd (hd.2.1 rfl) hn⟩
        · intro u w hR hd; exact ⟨fun _ => rn_ld_3 (ev (hd.1 rfl)) (f3.kept hR) ⟨Grew.refl _, rfl⟩, fun hn => absurd (hd.2.1 rfl) hn⟩
        · intro u w hR hd; exact ⟨fun _ => runs_nei3 (ev (hd.1 rfl)) (ev (hd.2.1 rfl)) ⟨Grew.refl _, rfl⟩, fun hn => absurd (hd.2.2.1 rfl) hn⟩
        · intro u w hR hd; exact ⟨fun _ => runs_an (ev (hd.1 rfl)) (fun hb => ev ((hd.2.1 rfl))) ⟨Grew.refl _, rfl⟩, fun hn => absurd (hd.2.2.1 rfl) hn⟩
        · intro u w hR hd; exact runs_or2 (ev (hd.1 rfl)) (fun hb => ev ((hd.2.1 rfl))) ⟨Grew.refl _, rfl⟩
        · intro u w4 hR h
          have he : u 71 = .bool false := h 52 (by decide)
          have HG4 := Lib.hid (HG.out.drw.trans hR)
          simp only [mixA, mixL, cond_true, cond_false, he]
          clear h he d0 d1 d2 d3 f0 f1 f2 f3 hR
          go_wp2
          go_roundg (xs.length - (k + 1))
          case measure => have := HLT.out; omega
          case rel => exact ⟨k + 1, by go_num, HLT.out, rfl, HG4⟩
      | false =>
        clear hps
        go_wp2
        refine wp_posts [some 19, some 20, some 21, some 22, some 23, some 24, some 25, some 26, some 27, some 28, some 29, some 30, some 31, some 32, some 33, some 34, some 35, some 36, some 37, some 38, some 39, some 40, some 41, some 42, some 43, some 44, some 45, some 46, some 47, some 48, some 49, some 50, some 51, some 52, some 53, some 54, some 55, some 56, some 57, some 58, some 59, some 60, some 61, some 62, some 63, some 64, some 65, some 66, some 67, some 68, some 69, some 70, some 71] [false, false, false, false, false, false, false, false, false, false, false, false, false, false, false, false, false, false, false, true, true, true, true, true, true, true, true, true, true, true, true, true, true, true, true, true, true, true, true, true, true, true, true, true, true, true, true, true, true, true, true, true, true, true, true, true, true, true, true, true, true, true, true, true, true, true, true, true, true, true, true, true] [fun v _ => v = .slice (some ⟨b1, o1, none⟩) (xs.length) (c1), fun v _ => v = .int .i64 (((k : Nat) : Int)), fun v _ => v = .pointer (some ⟨b1, o1 + k * 4, none⟩), fun v _ => v = .pointer (some ⟨b1, o1 + k * 4, none⟩), fun v _ => v = .int .i64 (kk), fun v _ => v = .slice (some ⟨b2, o2, none⟩) (xs.length) (c2), fun v _ => v = .int .i64 (((k : Nat) : Int)), fun v _ => v = .pointer (some ⟨b2, o2 + k * 4, none⟩), fun v _ => v = .pointer (some ⟨b2, o2 + k * 4, none⟩), fun v _ => v = .int .i64 (kk), fun v _ => v = .bool false, fun v _ => v = .bool (false), fun v _ => v = .slice (some ⟨b1, o1, none⟩) (xs.length) (c1), fun v _ => v = .int .i64 (((k : Nat) : Int)), fun v _ => v = .pointer (some ⟨b1, o1 + k * 4, none⟩), fun v _ => v = .pointer (some ⟨b1, o1 + k * 4 + 1, none⟩), fun v _ => v = .string T, fun v _ => v = .slice (some ⟨b2, o2, none⟩) (xs.length) (c2), fun v _ => v = .int .i64 (((k : Nat) : Int)), fun v _ => v = .pointer (some ⟨b2, o2 + k * 4, none⟩), fun v _ => v = .pointer (some ⟨b2, o2 + k * 4 + 1, none⟩), fun v _ => v = .string T, fun v _ => v = .bool false, fun v _ => v = .bool (false), fun v _ => v = .bool (false), fun v _ => v = .slice (some ⟨b1, o1, none⟩) (xs.length) (c1), fun v _ => v = .int .i64 (((k : Nat) : Int)), fun v _ => v = .pointer (some ⟨b1, o1 + k * 4, none⟩), fun v _ => v = .pointer (some ⟨b1, o1 + k * 4 + 2, none⟩), fun v _ => v = .int .i16 (vv), fun v _ => v = .slice (some ⟨b2, o2, none⟩) (xs.length) (c2), fun v _ => v = .int .i64 (((k : Nat) : Int)), fun v _ => v = .pointer (some ⟨b2, o2 + k * 4, none⟩), fun v _ => v = .pointer (some ⟨b2, o2 + k * 4 + 2, none⟩), fun v _ => v = .int .i16 (vv), fun v _ => v = .bool false, fun v _ => v = .bool (false), fun v _ => v = .bool (false), fun v _ => v = .bool (false), fun v _ => v = .bool (false), fun v _ => v = undef, fun v _ => v = undef, fun v _ => v = undef, fun v _ => v = undef, fun v _ => v = undef, fun v _ => v = undef, fun v _ => v = undef, fun v _ => v = undef, fun v _ => v = undef, fun v _ => v = undef, fun v _ => v = undef, fun v _ => v = .bool (false), fun v _ => v = .bool (false)] (by kernel_rfl) (by kernel_rfl) rfl ?_ ⟨?_, ?_, ?_, ?_, ?_, ?_, ?_, ?_, ?_, ?_, ?_, ?_, ?_, ?_, ?_, ?_, ?_, ?_, ?_, ?_, ?_, ?_, ?_, ?_, ?_, ?_, ?_, ?_, ?_, ?_, ?_, ?_, ?_, ?_, ?_, ?_, ?_, ?_, ?_, ?_, ?_, ?_, ?_, ?_, ?_, ?_, ?_, ?_, ?_, ?_, ?_, ?_, ?_, trivial⟩ ?_
        · exact ⟨fun _ _ _ _ h => h, fun _ _ _ _ h => h, fun _ _ _ _ h => h, fun _ _ _ _ h => h, fun _ _ _ _ h => h, fun _ _ _ _ h => h, fun _ _ _ _ h => h, fun _ _ _ _ h => h, fun _ _ _ _ h => h, fun _ _ _ _ h => h, fun _ _ _ _ h => h, fun _ _ _ _ h => h, fun _ _ _ _ h => h, fun _ _ _ _ h => h, fun _ _ _ _ h => h, fun _ _ _ _ h => h, fun _ _ _ _ h => h, fun _ _ _ _ h => h, fun _ _ _ _ h => h, fun _ _ _ _ h => h, fun _ _ _ _ h => h, fun _ _ _ _ h => h, fun _ _ _ _ h => h, fun _ _ _ _ h => h, fun _ _ _ _ h => h, fun _ _ _ _ h => h, fun _ _ _ _ h => h, fun _ _ _ _ h => h, fun _ _ _ _ h => h, fun _ _ _ _ h => h, fun _ _ _ _ h => h, fun _ _ _ _ h => h, fun _ _ _ _ h => h, fun _ _ _ _ h => h, fun _ _ _ _ h => h, fun _ _ _ _ h => h, fun _ _ _ _ h => h, fun _ _ _ _ h => h, fun _ _ _ _ h => h, fun _ _ _ _ h => h, fun _ _ _ _ h => h, fun _ _ _ _ h => h, fun _ _ _ _ h => h, fun _ _ _ _ h => h, fun _ _ _ _ h => h, fun _ _ _ _ h => h, fun _ _ _ _ h => h, fun _ _ _ _ h => h, fun _ _ _ _ h => h, fun _ _ _ _ h => h, fun _ _ _ _ h => h, fun _ _ _ _ h => h, fun _ _ _ _ h => h, trivial⟩
        · intro u w hR hd; exact runs_mv (ev rfl) ⟨Grew.refl _, rfl⟩
        · intro u w hR hd; exact runs_mv (ev rfl) ⟨Grew.refl _, rfl⟩
        · intro u w hR hd; exact rn_idx_24 (k) (ev (hd.1 rfl)) (ev (hd.2.1 rfl)) (by omega) ⟨Grew.refl _, rfl⟩
        · intro u w hR hd; exact rn_fld_38_0 (ev (hd.1 rfl)) ⟨Grew.refl _, rfl⟩
        · intro u w hR hd; exact rn_ld_3 (ev (hd.1 rfl)) (d0.kept hR) ⟨Grew.refl _, rfl⟩
        · intro u w hR hd; exact runs_mv (ev rfl) ⟨Grew.refl _, rfl⟩
        · intro u w hR hd; exact runs_mv (ev rfl) ⟨Grew.refl _, rfl⟩
        · intro u w hR hd; exact rn_idx_24 (k) (ev (hd.1 rfl)) (ev (hd.2.1 rfl)) (by omega) ⟨Grew.refl _, rfl⟩
        · intro u w hR hd; exact rn_fld_38_0 (ev (hd.1 rfl)) ⟨Grew.refl _, rfl⟩
        · intro u w hR hd; exact rn_ld_3 (ev (hd.1 rfl)) (f0.kept hR) ⟨Grew.refl _, rfl⟩
        · intro u w hR hd; exact runs_nei3 (ev (hd.1 rfl)) (ev (hd.2.1 rfl)) ⟨Grew.refl _, rfl⟩
        · intro u w hR hd; exact runs_mv (ev (hd.1 rfl)) ⟨Grew.refl _, rfl⟩
        · intro u w hR hd; exact ⟨fun _ => runs_mv (ev rfl) ⟨Grew.refl _, rfl⟩, fun hn => absurd (hd.1 rfl) hn⟩
        · intro u w hR hd; exact ⟨fun _ => runs_mv (ev rfl) ⟨Grew.refl _, rfl⟩, fun hn => absurd (hd.1 rfl) hn⟩
        · intro u w hR hd; exact ⟨fun _ => rn_idx_24 (k) (ev (hd.1 rfl)) (ev (hd.2.1 rfl)) (by omega) ⟨Grew.refl _, rfl⟩, fun hn => absurd (hd.2.2.1 rfl) hn⟩
        · intro u w hR hd; exact ⟨fun _ => rn_fld_38_1 (ev (hd.1 rfl)) ⟨Grew.refl _, rfl⟩, fun hn => absurd (hd.2.1 rfl) hn⟩
        · intro u w hR hd; exact ⟨fun _ => rn_ld_9 (ev (hd.1 rfl)) (d1.kept hR) ⟨Grew.refl _, rfl⟩, fun hn => absurd (hd.2.1 rfl) hn⟩
        · intro u w hR hd; exact ⟨fun _ => runs_mv (ev rfl) ⟨Grew.refl _, rfl⟩, fun hn => absurd (hd.1 rfl) hn⟩
        · intro u w hR hd; exact ⟨fun _ => runs_mv (ev rfl) ⟨Grew.refl _, rfl⟩, fun hn => absurd (hd.1 rfl) hn⟩
        · intro u w hR hd; exact ⟨fun _ => rn_idx_24 (k) (ev (hd.1 rfl)) (ev (hd.2.1 rfl)) (by omega) ⟨Grew.refl _, rfl⟩, fun hn => absurd (hd.2.2.1 rfl) hn⟩
        · intro u w hR hd; exact ⟨fun _ => rn_fld_38_1 (ev (hd.1 rfl)) ⟨Grew.refl _, rfl⟩, fun hn => absurd (hd.2.1 rfl) hn⟩
        · intro u w hR hd; exact ⟨fun _ => rn_ld_9 (ev (hd.1 rfl)) (f1.kept hR) ⟨Grew.refl _, rfl⟩, fun hn => absurd (hd.2.1 rfl) hn⟩
        · intro u w hR hd; exact ⟨fun _ => runs_nes (ev (hd.1 rfl)) (ev (hd.2.1 rfl)) ⟨Grew.refl _, rfl⟩, fun hn => absurd (hd.2.2.1 rfl) hn⟩
        · intro u w hR hd; exact runs_or2 (ev (hd.1 rfl)) (fun hb => ev ((hd.2.1 rfl))) ⟨Grew.refl _, rfl⟩
        · intro u w hR hd; exact runs_mv (ev (hd.1 rfl)) ⟨Grew.refl _, rfl⟩
        · intro u w hR hd; exact ⟨fun _ => runs_mv (ev rfl) ⟨Grew.refl _, rfl⟩, fun hn => absurd (hd.1 rfl) hn⟩
        · intro u w hR hd; exact ⟨fun _ => runs_mv (ev rfl) ⟨Grew.refl _, rfl⟩, fun hn => absurd (hd.1 rfl) hn⟩
        · intro u w hR hd; exact ⟨fun _ => rn_idx_24 (k) (ev (hd.1 rfl)) (ev (hd.2.1 rfl)) (by omega) ⟨Grew.refl _, rfl⟩, fun hn => absurd (hd.2.2.1 rfl) hn⟩
        · intro u w hR hd; exact ⟨fun _ => rn_fld_38_2 (ev (hd.1 rfl)) ⟨Grew.refl _, rfl⟩, fun hn => absurd (hd.2.1 rfl) hn⟩
        · intro u w hR hd; exact ⟨fun _ => rn_ld_36 (ev (hd.1 rfl)) (d2.kept hR) ⟨Grew.refl _, rfl⟩, fun hn => absurd (hd.2.1 rfl) hn⟩
        · intro u w hR hd; exact ⟨fun _ => runs_mv (ev rfl) ⟨Grew.refl _, rfl⟩, fun hn => absurd (hd.1 rfl) hn⟩
        · intro u w hR hd; exact ⟨fun _ => runs_mv (ev rfl) ⟨Grew.refl _, rfl⟩, fun hn => absurd (hd.1 rfl) hn⟩
        · intro u w hR hd; exact ⟨fun _ => rn_idx_24 (k) (ev (hd.1 rfl)) (ev (hd.2.1 rfl)) (by omega) ⟨Grew.refl _, rfl⟩, fun hn => absurd (hd.2.2.1 rfl) hn⟩
        · intro u w hR hd; exact ⟨fun _ => rn_fld_38_2 (ev (hd.1 rfl)) ⟨Grew.refl _, rfl⟩, fun hn => absurd (hd.2.1 rfl) hn⟩
        · intro u w hR hd; exact ⟨fun _ => rn_ld_36 (ev (hd.1 rfl)) (f2.kept hR) ⟨Grew.refl _, rfl⟩, fun hn => absurd (hd.2.1 rfl) hn⟩
        · intro u w hR hd; exact ⟨fun _ => runs_nei16 (ev (hd.1 rfl)) (ev (hd.2.1 rfl)) ⟨Grew.refl _, rfl⟩, fun hn => absurd (hd.2.2.1 rfl) hn⟩
        · intro u w hR hd; exact runs_or2 (ev (hd.1 rfl)) (fun hb => ev ((hd.2.1 rfl))) ⟨Grew.refl _, rfl⟩
        · intro u w hR hd; exact runs_mv (ev (hd.1 rfl)) ⟨Grew.refl _, rfl⟩
        · intro u w hR hd; exact ⟨fun _ => runs_mv (ev rfl) ⟨Grew.refl _, rfl⟩, fun hn => absurd (hd.1 rfl) hn⟩
        · intro u w hR hd; exact ⟨fun _ => runs_mv (ev (hd.1 rfl)) ⟨Grew.refl _, rfl⟩, fun hn => absurd (hd.2.1 rfl) hn⟩
        · intro u w hR hd; exact ⟨fun hg => absurd ((hd.1 rfl).symm.trans hg) (fun h => by first | cases h | (simp [undef] at h)), fun _ => rfl⟩
        · intro u w hR hd; exact ⟨fun hg => absurd ((hd.1 rfl).symm.trans hg) (fun h => by first | cases h | (simp [undef] at h)), fun _ => rfl⟩
        · intro u w hR hd; exact ⟨fun hg => absurd ((hd.2.2.1 rfl).symm.trans hg) (fun h => by first | cases h | (simp [undef] at h)), fun _ => rfl⟩
        · intro u w hR hd; exact ⟨fun hg => absurd ((hd.2.1 rfl).symm.trans hg) (fun h => by first | cases h | (simp [undef] at h)), fun _ => rfl⟩
        · intro u w hR hd; exact ⟨fun hg => absurd ((hd.2.1 rfl).symm.trans hg) (fun h => by first | cases h | (simp [undef] at h)), fun _ => rfl⟩
        · intro u w hR hd; exact ⟨fun hg => absurd ((hd.1 rfl).symm.trans hg) (fun h => by first | cases h | (simp [undef] at h)), fun _ => rfl⟩
        · intro u w hR hd; exact ⟨fun hg => absurd ((hd.1 rfl).symm.trans hg) (fun h => by first | cases h | (simp [undef] at h)), fun _ => rfl⟩
        · intro u w hR hd; exact ⟨fun hg => absurd ((hd.2.2.1 rfl).symm.trans hg) (fun h => by first | cases h | (simp [undef] at h)), fun _ => rfl⟩
        · intro u w hR hd; exact ⟨fun hg => absurd ((hd.2.1 rfl).symm.trans hg) (fun h => by first | cases h | (simp [undef] at h)), fun _ => rfl⟩
        · intro u w hR hd; exact ⟨fun hg => absurd ((hd.2.1 rfl).symm.trans hg) (fun h => by first | cases h | (simp [undef] at h)), fun _ => rfl⟩
        · intro u w hR hd; exact ⟨fun hg => absurd ((hd.2.2.1 rfl).symm.trans hg) (fun h => by first | cases h | (simp [undef] at h)), fun _ => rfl⟩
        · intro u w hR hd; exact ⟨fun _ => runs_andF (ev (hd.1 rfl)) ⟨Grew.refl _, rfl⟩, fun hn => absurd (hd.2.2.1 rfl) hn⟩
        · intro u w hR hd; exact runs_or2 (ev (hd.1 rfl)) (fun hb => ev ((hd.2.1 rfl))) ⟨Grew.refl _, rfl⟩
        · intro u w4 hR h
          have he : u 71 = .bool false := h 52 (by decide)
          have HG4 := Lib.hid (HG.out.drw.trans hR)
          simp only [mixA, mixL, cond_true, cond_false, he]
          clear h he d0 d1 d2 d3 f0 f1 f2 f3 hR
          go_wp2
          go_roundg (xs.length - (k + 1))
          case measure => have := HLT.out; omega
          case rel => exact ⟨k + 1, by go_num, HLT.out, rfl, HG4⟩
    · obtain rfl : k = xs.length := by omega
      go_wp2
      go_ret
      exact ⟨rfl, HG.out⟩
end Go.Proofs.YtcajamgajchheaaDoor
