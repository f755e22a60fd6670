/-
  CONTRACTS OF LAYER 14 (diag): the reference's Great and Same.
-/
import Derived.Test.YtmnncildkomagaaDoorDiRAdd
namespace Go.Proofs.YtmnncildkomagaaDoor
open Go Go.RowKit Go.IntWalk Go.Sort
set_option linter.unusedSimpArgs false
set_option linter.unusedVariables false
set_option maxRecDepth 8000

/-- The bytes of all texts. -/
def tot : List It → Nat
  | [] => 0
  | x :: l => x.2.length + tot l
theorem tot_append : ∀ (a b : List It), tot (a ++ b) = tot a + tot b
  | [], b => (Nat.zero_add _).symm
  | x :: a, b => by
    rw [List.cons_append, tot, tot, tot_append a b]
    omega
theorem tot_take (l : List It) (k : Nat) : tot (l.take k) ≤ tot l := by
  conv => rhs; rw [← List.take_append_drop k l, tot_append]
  exact Nat.le_add_right _ _
theorem tot_mem : ∀ {l : List It} {x : It}, x ∈ l → x.2.length ≤ tot l
  | y :: l, x, h => by
    rcases List.mem_cons.1 h with rfl | h
    · exact Nat.le_add_right _ _
    · exact Nat.le_trans (tot_mem h) (Nat.le_add_left _ _)
def great (l : List It) : Bool := decide (1000 < tot l) || decide (40 < l.length)
theorem not_great {l : List It} (h : great l = false) : l.length ≤ 40 ∧ ∀ x ∈ l, x.2.length ≤ 1000 := by
  unfold great at h
  simp at h
  exact ⟨by omega, fun x hx => Nat.le_trans (tot_mem hx) h.1⟩
theorem str_size (l : List UInt8) : (ByteArray.mk l.toArray).size = l.length := rfl
set_option maxHeartbeats 2000000 in
theorem great_any (p : Option Addr) (n c : Nat) (l : List It) (w : World) (h : Rw 2 itc w p c l) (hn : l.length = n) (hok : ∀ x ∈ l, x.2.length ≤ 140737488355328) :
    Calls Tryd.prog 18 #[.slice p n c] w fun e w' => e = .returned (.bool (great l)) ∧ Grew w w' := by
  subst hn
  have HX := Lib.hid h
  have hcap := h.cap
  have hmax := h.max
  have HOK := Lib.hid hok
  clear h hok
  go_enter Tryd.func18, Tryd.ntmps18
  go_wp2
  go_loopg [3, 8] l.length (fun gg nv iv wr => ∃ (k m : Nat), nv = .int .i64 (m : Int) ∧ iv = .int .i64 (k : Int) ∧ k ≤ l.length ∧ gg = l.length - k ∧ m ≤ 1000 ∧ Hid (m = tot (l.take k)) ∧ Hid (Grew w wr))
  case atStart => exact ⟨0, 0, rfl, rfl, Nat.zero_le _, rfl, Nat.zero_le _, Lib.hid rfl, Lib.hid (Grew.refl _)⟩
  case round =>
    obtain ⟨k, m, rfl, rfl, hk, rfl, hm, HM, HG⟩ := hrel
    by_cases hlt : k < l.length
    · obtain ⟨b', o', rfl, hcc⟩ := (HX.out.kept HG.out).rd.cells (by omega)
      have hx : l[k]? = some l[k] := by simp [hlt]
      have hc1 := hcc k l[k] hx
      have hlb : b' < wr.heap.size := World.block_lt_of_cell? _ _ (hc1 0 _ rfl)
      have HLT := Lib.hid (Nat.succ_le_of_lt hlt)
      have HTK := Lib.hid (List.take_succ_eq_append_getElem hlt)
      have hxt := HOK.out l[k] (List.getElem_mem hlt)
      generalize l[k] = x at hc1 hx HTK hxt
      have e0 : wr.cell? ⟨b', o' + k * 2, none⟩ = some (.int .i64 x.1) := by simpa using hc1 0 _ rfl
      have e1 : wr.cell? ⟨b', o' + k * 2 + 1, none⟩ = some (.string ⟨x.2.toArray⟩) := hc1 1 _ rfl
      clear hcc hc1 hx
      have hss := str_size x.2
      have HT1 : Hid (tot (l.take (k + 1)) = m + x.2.length) := Lib.hid (by rw [HTK.out, tot_append, HM.out]; rfl)
      by_cases hbig : 1000 < (m : Int) + (x.2.length : Int)
      · have HGR : Hid (great l = true) := Lib.hid (by
          have h1 := tot_take l (k + 1)
          have h2 := HT1.out
          unfold great
          rw [decide_eq_true (show 1000 < tot l by omega)]
          rfl)
        go_wp2
        go_ret
        exact ⟨ret_bool HGR.out.symm, HG.out.alloc _⟩
      · go_wp2
        go_roundg (l.length - (k + 1))
        case measure => have := HLT.out; omega
        case rel => exact ⟨k + 1, m + x.2.length, (by go_num), (by go_num), HLT.out, rfl, by omega, Lib.hid HT1.out.symm, Lib.hid (HG.out.alloc _)⟩
    · obtain rfl : k = l.length := by omega
      have HGR : Hid (great l = decide (40 < l.length)) := Lib.hid (by
        have h2 := HM.out
        rw [List.take_length] at h2
        unfold great
        rw [decide_eq_false (show ¬ 1000 < tot l by omega)]
        rfl)
      by_cases h40 : 40 < l.length
      · have HV : Hid (great l = true) := Lib.hid (HGR.out.trans (decide_eq_true h40))
        have h40' : (40 : Int) < (l.length : Int) := by omega
        clear h40
        go_wp2
        go_ret
        exact ⟨ret_bool (by first | exact HV.out.symm | (rw [HV.out]; rfl)), HG.out⟩
      · have HV : Hid (great l = false) := Lib.hid (HGR.out.trans (decide_eq_false h40))
        have h40' : ¬ (40 : Int) < (l.length : Int) := by omega
        clear h40
        go_wp2
        go_ret
        exact ⟨ret_bool (by first | exact HV.out.symm | (rw [HV.out]; rfl)), HG.out⟩
section
variable {dst : Option Tmp} {ty : TypeId} {pos : String} {after : Array Edge} {g : Option (Nat × Bool)} {a : Act} {w : World} {T : Value → World → Prop}
theorem rn_idx_31 {x y : Operand} {b o n c : Nat} (i : Nat) (hx : a.eval x = .slice (some ⟨b, o, none⟩) n c) (hy : a.eval y = .int .i64 (i : Int)) (hi : i < n) (h : T (.pointer (some ⟨b, o + i * 2, none⟩)) w) : Runs Tryd.prog ⟨dst, .indexAddr 31 x y, ty, pos, after, g⟩ a w T := by
  have hi2 : (i : Int) < (n : Int) := by omega
  refine Runs.value (v := .pointer (some ⟨b, o + i * 2, none⟩)) (w' := w) ?_ h
  simp only [execOp, hx, hy]
  go_simp
theorem rn_ld_37 {x : Operand} {S o : Nat} {v0 v1 : Value} (hx : a.eval x = .pointer (some ⟨S, o, none⟩)) (h0 : w.cell? ⟨S, o, none⟩ = some v0) (h1 : w.cell? ⟨S, o + 1, none⟩ = some v1) (h : T (.agg #[v0, v1]) w) : Runs Tryd.prog ⟨dst, .load 37 x, ty, pos, after, g⟩ a w T := by
  refine Runs.value (v := .agg #[v0, v1]) (w' := w) ?_ h
  simp only [execOp, hx]
  go_simp
end

section
variable {dst : Option Tmp} {ty : TypeId} {pos : String} {after : Array Edge} {g : Option (Nat × Bool)} {a : Act} {w : World} {T : Value → World → Prop}
theorem atv_of {q : Addr} {v : Value} {w w' : World} (hg : Grew w w') (h : w.cell? q = some v) : Atv q v w' := Atv.grew h hg
theorem runs_neD {i j : Nat} {x : It} (hx : a.eval (.tmp i) = itv x) (hy : a.eval (.tmp j) = itv x) (h : T (.bool false) w) : Runs Tryd.prog ⟨dst, .binOp .neq 37 (.tmp i) (.tmp j) 37, ty, pos, after, g⟩ a w T := by
  refine Runs.value (v := .bool false) (w' := w) ?_ h
  have hp : Tryd.prog.stoodInHeld 37 = false := by kernel_rfl
  simp only [execOp, hx, hy]
  go_simp
end
set_option maxHeartbeats 2000000 in
theorem same_yes (p1 p2 : Option Addr) (c1 c2 : Nat) (xs : List It) (w : World) (h1 : Rw 2 itc w p1 c1 xs) (h2 : Rw 2 itc w p2 c2 xs) :
    Calls Tryd.prog 22 #[.slice p1 xs.length c1, .slice p2 xs.length c2] w fun e w' => e = .returned (.bool true) ∧ Grew w w' := by
  have HX := Lib.hid h1
  have HY := Lib.hid h2
  have hcap := h1.cap
  have hmax := h1.max
  clear h1 h2
  go_enter Tryd.func22, Tryd.ntmps22
  go_wp2
  go_loopg [13] xs.length (fun gg iv wr => ∃ (k : Nat), iv = .int .i64 (k : Int) ∧ k ≤ xs.length ∧ gg = xs.length - k ∧ Hid (Grew w wr))
  case atStart => exact ⟨0, rfl, Nat.zero_le _, rfl, Lib.hid (Grew.refl _)⟩
  case round =>
    obtain ⟨k, rfl, hk, rfl, HG⟩ := hrel
    by_cases hlt : k < xs.length
    · obtain ⟨b1, o1, rfl, hcc⟩ := (HX.out.kept HG.out).rd.cells (by omega)
      obtain ⟨b2, o2, rfl, hcd⟩ := (HY.out.kept HG.out).rd.cells (by omega)
      have hx : xs[k]? = some xs[k] := by simp [hlt]
      have hc1 := hcc k xs[k] hx
      have hc2 := hcd k xs[k] hx
      have HLT := Lib.hid (Nat.succ_le_of_lt hlt)
      generalize xs[k] = x at hc1 hc2 hx
      have d0 : Atv ⟨b1, o1 + k * 2, none⟩ (.int .i64 x.1) wr.drew := atv_of (Grew.refl _).drw (by simpa using hc1 0 _ rfl)
      have d1 : Atv ⟨b1, o1 + k * 2 + 1, none⟩ (.string ⟨x.2.toArray⟩) wr.drew := atv_of (Grew.refl _).drw (hc1 1 _ rfl)
      have f0 : Atv ⟨b2, o2 + k * 2, none⟩ (.int .i64 x.1) wr.drew := atv_of (Grew.refl _).drw (by simpa using hc2 0 _ rfl)
      have f1 : Atv ⟨b2, o2 + k * 2 + 1, none⟩ (.string ⟨x.2.toArray⟩) wr.drew := atv_of (Grew.refl _).drw (hc2 1 _ rfl)
      clear hcc hc1 hcd hc2 hx
      go_wp2
      refine wp_posts [some 16, some 17, some 18, some 19, some 20, some 21, some 22, some 23, some 24] [false, false, false, false, false, false, false, false, false, false, false, false, false, false, false, false, true, true, true, true, true, true, true, true, true, false] [fun v _ => v = .slice (some ⟨b1, o1, none⟩) (xs.length) (c1), fun v _ => v = .int .i64 (((k : Nat) : Int)), fun v _ => v = .pointer (some ⟨b1, o1 + k * 2, none⟩), fun v _ => v = .agg #[.int .i64 (x.1), .string ⟨(x.2).toArray⟩], fun v _ => v = .slice (some ⟨b2, o2, none⟩) (xs.length) (c2), fun v _ => v = .int .i64 (((k : Nat) : Int)), fun v _ => v = .pointer (some ⟨b2, o2 + k * 2, none⟩), fun v _ => v = .agg #[.int .i64 (x.1), .string ⟨(x.2).toArray⟩], fun v _ => v = .bool false] (by kernel_rfl) (by kernel_rfl) rfl ?_ ⟨?_, ?_, ?_, ?_, ?_, ?_, ?_, ?_, ?_, trivial⟩ ?_
      · exact ⟨fun _ _ _ _ h => h, fun _ _ _ _ h => h, fun _ _ _ _ h => h, fun _ _ _ _ h => h, fun _ _ _ _ h => h, fun _ _ _ _ h => h, fun _ _ _ _ h => h, fun _ _ _ _ h => h, fun _ _ _ _ h => h, trivial⟩
      · intro u w hR hd; exact runs_mv (ev rfl) ⟨Grew.refl _, rfl⟩
      · intro u w hR hd; exact runs_mv (ev rfl) ⟨Grew.refl _, rfl⟩
      · intro u w hR hd; exact rn_idx_31 (k) (ev (hd.1 rfl)) (ev (hd.2.1 rfl)) (by omega) ⟨Grew.refl _, rfl⟩
      · intro u w hR hd; exact rn_ld_37 (ev (hd.1 rfl)) (d0.kept hR) (d1.kept hR) ⟨Grew.refl _, rfl⟩
      · intro u w hR hd; exact runs_mv (ev rfl) ⟨Grew.refl _, rfl⟩
      · intro u w hR hd; exact runs_mv (ev rfl) ⟨Grew.refl _, rfl⟩
      · intro u w hR hd; exact rn_idx_31 (k) (ev (hd.1 rfl)) (ev (hd.2.1 rfl)) (by omega) ⟨Grew.refl _, rfl⟩
      · intro u w hR hd; exact rn_ld_37 (ev (hd.1 rfl)) (f0.kept hR) (f1.kept hR) ⟨Grew.refl _, rfl⟩
      · intro u w hR hd; exact runs_neD (ev (hd.1 rfl)) (ev (hd.2.1 rfl)) ⟨Grew.refl _, rfl⟩
      · intro u w4 hR h
        have he : u 24 = .bool false := h 8 (by decide)
        have HG4 := Lib.hid (HG.out.drw.trans hR)
        simp only [mixA, mixL, cond_true, cond_false, he]
        clear h he d0 d1 f0 f1 hR
        go_wp2
        go_roundg (xs.length - (k + 1))
        case measure => have := HLT.out; omega
        case rel => exact ⟨k + 1, by go_num, HLT.out, rfl, HG4⟩
    · obtain rfl : k = xs.length := by omega
      go_wp2
      go_ret
      exact ⟨rfl, HG.out⟩
end Go.Proofs.YtmnncildkomagaaDoor
