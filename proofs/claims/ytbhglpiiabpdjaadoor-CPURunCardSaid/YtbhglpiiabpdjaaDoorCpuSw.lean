/-
  LAYER 12 (cpu): SameWorld of the reference; a bus out of a copy.
-/
import Derived.Test.YtbhglpiiabpdjaaDoorShort
import Derived.Test.YtbhglpiiabpdjaaDoorCpuCopy
namespace Go.Proofs.YtbhglpiiabpdjaaDoor
open Go Go.RowKit Go.IntWalk Go.WideShapes
set_option linter.unusedSimpArgs false
set_option linter.unusedVariables false
set_option maxRecDepth 8000
section
variable {dst : Option Tmp} {ty : TypeId} {pos : String} {after : Array Edge} {g : Option (Nat × Bool)} {a : Act} {w : World} {T : Value → World → Prop}
theorem rn_fld_37_0 {x : Operand} {S o : Nat} (hx : a.eval x = .pointer (some ⟨S, o, none⟩)) (h : T (.pointer (some ⟨S, o, none⟩)) w) : Runs Tryd.prog ⟨dst, .fieldAddr 37 x 0, ty, pos, after, g⟩ a w T := by
  refine Runs.value (v := .pointer (some ⟨S, o, none⟩)) (w' := w) ?_ h
  simp only [execOp, hx]
  go_simp
theorem rn_ld_34 {x : Operand} {q : Addr} {v : Value} (hx : a.eval x = .pointer (some q)) (hc : w.cell? q = some v) (h : T v w) : Runs Tryd.prog ⟨dst, .load 34 x, ty, pos, after, g⟩ a w T := by
  refine Runs.value (v := v) (w' := w) ?_ h
  simp only [execOp, hx]
  go_simp
theorem rn_fld_37_1 {x : Operand} {S o : Nat} (hx : a.eval x = .pointer (some ⟨S, o, none⟩)) (h : T (.pointer (some ⟨S, o + 1, none⟩)) w) : Runs Tryd.prog ⟨dst, .fieldAddr 37 x 1, ty, pos, after, g⟩ a w T := by
  refine Runs.value (v := .pointer (some ⟨S, o + 1, none⟩)) (w' := w) ?_ h
  simp only [execOp, hx]
  go_simp
theorem rn_idx_35 {x y : Operand} {b o n c : Nat} (i : Nat) (hx : a.eval x = .slice (some ⟨b, o, none⟩) n c) (hy : a.eval y = .int .i64 (i : Int)) (hi : i < n) (h : T (.pointer (some ⟨b, o + i * 3, none⟩)) w) : Runs Tryd.prog ⟨dst, .indexAddr 35 x y, ty, pos, after, g⟩ a w T := by
  have hi2 : (i : Int) < (n : Int) := by omega
  refine Runs.value (v := .pointer (some ⟨b, o + i * 3, none⟩)) (w' := w) ?_ h
  simp only [execOp, hx, hy]
  go_simp
theorem rn_ld_96 {x : Operand} {S o : Nat} {v0 v1 v2 : Value} (hx : a.eval x = .pointer (some ⟨S, o, none⟩)) (h0 : w.cell? ⟨S, o, none⟩ = some v0) (h1 : w.cell? ⟨S, o + 1, none⟩ = some v1) (h2 : w.cell? ⟨S, o + 2, none⟩ = some v2) (h : T (.agg #[v0, v1, v2]) w) : Runs Tryd.prog ⟨dst, .load 96 x, ty, pos, after, g⟩ a w T := by
  refine Runs.value (v := .agg #[v0, v1, v2]) (w' := w) ?_ h
  simp only [execOp, hx]
  go_simp
theorem rn_neq_96 {o1 o2 : Operand} {b0 c0 b1 c1 b2 c2 : Int} (hx : a.eval o1 = .agg #[.int .i64 b0, .int .i64 b1, .int .i64 b2]) (hy : a.eval o2 = .agg #[.int .i64 c0, .int .i64 c1, .int .i64 c2]) (h : T (.bool (!((b0 == c0) && (b1 == c1) && (b2 == c2)))) w) : Runs Tryd.prog ⟨dst, .binOp .neq 96 o1 o2 96, ty, pos, after, g⟩ a w T := by
  refine Runs.value (v := .bool (!((b0 == c0) && (b1 == c1) && (b2 == c2)))) (w' := w) ?_ h
  simp only [execOp, hx, hy]
  go_simp
  by_cases e0 : b0 = c0 <;> by_cases e1 : b1 = c1 <;> by_cases e2 : b2 = c2 <;> simp [e0, e1, e2]
end
theorem en_rsmw : Enters Tryd.prog 20 := fun args w => by go_simp
set_option maxHeartbeats 4000000 in
theorem sameworld_self (W : Wd) (wp rp cp : Option Addr) (wc rc cc : Nat) (wq rq cq : Option Addr) (wd rd cd : Nat) (w : World) (h1 : RdL 1 h16 w wp wc W.ws) (h2 : RdL 1 h16 w rp rc W.rs) (h3 : RdL 3 clv w cp cc W.cs) (k1 : RdL 1 h16 w wq wd W.ws) (k2 : RdL 1 h16 w rq rd W.rs) (k3 : RdL 3 clv w cq cd W.cs) :
    Calls Tryd.prog 17 #[.agg #[.slice wp W.ws.length wc, .slice rp W.rs.length rc, .int .i64 W.fl, .slice cp W.cs.length cc], .agg #[.slice wq W.ws.length wd, .slice rq W.rs.length rd, .int .i64 W.fl, .slice cq W.cs.length cd]] w fun e w' => e = .returned (.bool true) ∧ Grew w w' := by
  have HW1 := Lib.hid h1
  have HR1 := Lib.hid h2
  have HC1 := Lib.hid h3
  have HW2 := Lib.hid k1
  have HR2 := Lib.hid k2
  have HC2 := Lib.hid k3
  have hcap := h3.cap
  have hmax := h3.max
  have hcap2 := k3.cap
  have hmax2 := k3.max
  clear h1 h2 h3 k1 k2 k3
  go_enter Tryd.func17, Tryd.ntmps17
  go_upto_region 0 with fail
  refine wp_region_list ?_
  refine wpList_box_whole rfl _ _ rfl [.slice wp W.ws.length wc, .slice rp W.rs.length rc, .int .i64 W.fl, .slice cp W.cs.length cc] rfl fun w1 bx g1 => ?_
  simp only [zz1, zz2, zz3, Act.put, mixA, mixL, zz9, zz0, zz4, zz5, zz6]
  refine wpList_box_whole rfl _ _ rfl [.slice wq W.ws.length wd, .slice rq W.rs.length rd, .int .i64 W.fl, .slice cq W.cs.length cd] rfl fun V by2 g2 => ?_
  simp only [zz1, zz2, zz3, Act.put, mixA, mixL, zz9, zz0, zz4, zz5, zz6]
  have HG := Lib.hid (g1.trans g2)
  have HBX := Lib.hid (bx.grew g2)
  have HBY := Lib.hid by2
  generalize w1.heap.size = C at HBY by2 ⊢
  generalize w.heap.size = B at HBX ⊢
  clear bx by2 g1 g2
  go_upto_region 1 with fail
  refine wp_region_list ?_
  refine wpList_runs rfl (some 6) rfl (rn_fld_37_3 (ev rfl) ?_)
  simp only [zz1, zz2, zz3, Act.put, mixA, mixL, zz9, zz0, zz4, zz5, zz6]
  refine wpList_runs rfl (some 7) rfl (rn_ld_35 (ev rfl) (HBX.out.cell 3) ?_)
  simp only [zz1, zz2, zz3, Act.put, mixA, mixL, zz9, zz0, zz4, zz5, zz6]
  refine wpList_runs rfl (some 8) rfl (rn_len_35 (ev rfl) ?_)
  simp only [zz1, zz2, zz3, Act.put, mixA, mixL, zz9, zz0, zz4, zz5, zz6]
  refine wpList_runs rfl (some 9) rfl (rn_fld_37_3 (ev rfl) ?_)
  simp only [zz1, zz2, zz3, Act.put, mixA, mixL, zz9, zz0, zz4, zz5, zz6]
  refine wpList_runs rfl (some 10) rfl (rn_ld_35 (ev rfl) (HBY.out.cell 3) ?_)
  simp only [zz1, zz2, zz3, Act.put, mixA, mixL, zz9, zz0, zz4, zz5, zz6]
  refine wpList_runs rfl (some 11) rfl (rn_len_35 (ev rfl) ?_)
  simp only [zz1, zz2, zz3, Act.put, mixA, mixL, zz9, zz0, zz4, zz5, zz6]
  refine wpList_runs rfl (some 12) rfl (runs_to (v := .bool ((((W.cs.length : Nat) : Int)) != (((W.cs.length : Nat) : Int)))) (u := .bool (false)) (rn_neq_3 (ev rfl) (ev rfl) ⟨rfl, rfl⟩) (congrArg Value.bool (by simp)) ?_)
  simp only [zz1, zz2, zz3, Act.put, mixA, mixL, zz9, zz0, zz4, zz5, zz6]
  refine wpList_runs rfl (some 13) rfl (runs_mv (ev rfl) ?_)
  simp only [zz1, zz2, zz3, Act.put, mixA, mixL, zz9, zz0, zz4, zz5, zz6]
  refine wpList_taken rfl (some 14) rfl (rn_fld_37_0 (ev rfl) ?_)
  simp only [zz1, zz2, zz3, Act.put, mixA, mixL, zz9, zz0, zz4, zz5, zz6]
  refine wpList_taken rfl (some 15) rfl (rn_ld_34 (ev rfl) (HBX.out.cell 0) ?_)
  simp only [zz1, zz2, zz3, Act.put, mixA, mixL, zz9, zz0, zz4, zz5, zz6]
  refine wpList_taken rfl (some 16) rfl (rn_fld_37_0 (ev rfl) ?_)
  simp only [zz1, zz2, zz3, Act.put, mixA, mixL, zz9, zz0, zz4, zz5, zz6]
  refine wpList_taken rfl (some 17) rfl (rn_ld_34 (ev rfl) (HBY.out.cell 0) ?_)
  simp only [zz1, zz2, zz3, Act.put, mixA, mixL, zz9, zz0, zz4, zz5, zz6]
  refine wpList_taken rfl (some 18) rfl (runs_c2 en_rsmw (ev rfl) (ev rfl) ((rsame_self wp wq wc wd W.ws _ (HW1.out.kept HG.out) (HW2.out.kept HG.out)).mono ?_))
  rintro e w9 ⟨rfl, g9⟩
  refine ⟨_, rfl, ?_⟩
  replace HBX := Lib.hid (HBX.out.grew g9)
  replace HBY := Lib.hid (HBY.out.grew g9)
  replace HG := Lib.hid (HG.out.trans g9)
  clear g9
  simp only [zz1, zz2, zz3, Act.put, mixA, mixL, zz9, zz0, zz4, zz5, zz6]
  refine wpList_taken rfl (some 19) rfl (runs_nt (ev rfl) ?_)
  simp only [zz1, zz2, zz3, Act.put, mixA, mixL, zz9, zz0, zz4, zz5, zz6]
  refine wpList_runs rfl (some 20) rfl (runs_or2 (ev rfl) (fun hb => ev (rfl)) ?_)
  simp only [zz1, zz2, zz3, Act.put, mixA, mixL, zz9, zz0, zz4, zz5, zz6]
  refine wpList_runs rfl (some 21) rfl (runs_mv (ev rfl) ?_)
  simp only [zz1, zz2, zz3, Act.put, mixA, mixL, zz9, zz0, zz4, zz5, zz6]
  refine wpList_taken rfl (some 22) rfl (rn_fld_37_1 (ev rfl) ?_)
  simp only [zz1, zz2, zz3, Act.put, mixA, mixL, zz9, zz0, zz4, zz5, zz6]
  refine wpList_taken rfl (some 23) rfl (rn_ld_34 (ev rfl) (HBX.out.cell 1) ?_)
  simp only [zz1, zz2, zz3, Act.put, mixA, mixL, zz9, zz0, zz4, zz5, zz6]
  refine wpList_taken rfl (some 24) rfl (rn_fld_37_1 (ev rfl) ?_)
  simp only [zz1, zz2, zz3, Act.put, mixA, mixL, zz9, zz0, zz4, zz5, zz6]
  refine wpList_taken rfl (some 25) rfl (rn_ld_34 (ev rfl) (HBY.out.cell 1) ?_)
  simp only [zz1, zz2, zz3, Act.put, mixA, mixL, zz9, zz0, zz4, zz5, zz6]
  refine wpList_taken rfl (some 26) rfl (runs_c2 en_rsmw (ev rfl) (ev rfl) ((rsame_self rp rq rc rd W.rs _ (HR1.out.kept HG.out) (HR2.out.kept HG.out)).mono ?_))
  rintro e w9 ⟨rfl, g9⟩
  refine ⟨_, rfl, ?_⟩
  replace HBX := Lib.hid (HBX.out.grew g9)
  replace HBY := Lib.hid (HBY.out.grew g9)
  replace HG := Lib.hid (HG.out.trans g9)
  clear g9
  simp only [zz1, zz2, zz3, Act.put, mixA, mixL, zz9, zz0, zz4, zz5, zz6]
  refine wpList_taken rfl (some 27) rfl (runs_nt (ev rfl) ?_)
  simp only [zz1, zz2, zz3, Act.put, mixA, mixL, zz9, zz0, zz4, zz5, zz6]
  refine wpList_runs rfl (some 28) rfl (runs_or2 (ev rfl) (fun hb => ev (rfl)) ?_)
  simp only [zz1, zz2, zz3, Act.put, mixA, mixL, zz9, zz0, zz4, zz5, zz6]
  have y3 := HBX.out.cell 3
  simp only [zz7, zz8] at y3
  go_wp2
  clear y3
  rename_i wz _
  go_loopg [32] W.cs.length (fun gg iv wr => ∃ (k : Nat), iv = .int .i64 (k : Int) ∧ k ≤ W.cs.length ∧ gg = W.cs.length - k ∧ Hid (Blk B [.slice wp W.ws.length wc, .slice rp W.rs.length rc, .int .i64 W.fl, .slice cp W.cs.length cc] 37 wr) ∧ Hid (Blk C [.slice wq W.ws.length wd, .slice rq W.rs.length rd, .int .i64 W.fl, .slice cq W.cs.length cd] 37 wr) ∧ Hid (Grew w wr))
  case atStart => exact ⟨0, rfl, Nat.zero_le _, rfl, HBX, HBY, HG⟩
  clear HBX HBY HG
  case round =>
    obtain ⟨k, rfl, hk, rfl, HBX, HBY, HG⟩ := hrel
    by_cases hlt : k < W.cs.length
    · obtain ⟨b1, o1, rfl, hc1⟩ := (HC1.out.kept HG.out).cells (by omega)
      obtain ⟨b2, o2, rfl, hc2⟩ := (HC2.out.kept HG.out).cells (by omega)
      have hx : W.cs[k]? = some W.cs[k] := by simp [hlt]
      have HLT := Lib.hid (Nat.succ_le_of_lt hlt)
      generalize W.cs[k] = x at hx
      go_wp2
      have b3 : Atv ⟨B, 3, none⟩ (.slice (some ⟨b1, o1, none⟩) W.cs.length cc) wr.drew := (HBX.out.grew (Grew.refl _).drw).atv 3 rfl
      have c3 : Atv ⟨C, 3, none⟩ (.slice (some ⟨b2, o2, none⟩) W.cs.length cd) wr.drew := (HBY.out.grew (Grew.refl _).drw).atv 3 rfl
      have h0 : Atv ⟨b1, o1 + k * 3, none⟩ (.int .i64 (x.1)) wr.drew := Grew.atv (w := wr) (Grew.refl _).drw (by have := hc1 k x hx 0 _ rfl; rwa [Nat.add_zero] at this)
      have h1 : Atv ⟨b1, o1 + k * 3 + 1, none⟩ (.int .i64 (x.2.1)) wr.drew := Grew.atv (w := wr) (Grew.refl _).drw (by have := hc1 k x hx 1 _ rfl; exact this)
      have h2 : Atv ⟨b1, o1 + k * 3 + 2, none⟩ (.int .i64 (x.2.2)) wr.drew := Grew.atv (w := wr) (Grew.refl _).drw (by have := hc1 k x hx 2 _ rfl; exact this)
      have g0 : Atv ⟨b2, o2 + k * 3, none⟩ (.int .i64 (x.1)) wr.drew := Grew.atv (w := wr) (Grew.refl _).drw (by have := hc2 k x hx 0 _ rfl; rwa [Nat.add_zero] at this)
      have g1 : Atv ⟨b2, o2 + k * 3 + 1, none⟩ (.int .i64 (x.2.1)) wr.drew := Grew.atv (w := wr) (Grew.refl _).drw (by have := hc2 k x hx 1 _ rfl; exact this)
      have g2 : Atv ⟨b2, o2 + k * 3 + 2, none⟩ (.int .i64 (x.2.2)) wr.drew := Grew.atv (w := wr) (Grew.refl _).drw (by have := hc2 k x hx 2 _ rfl; exact this)
      clear hc1 hc2 hx
      refine wp_still [some 35, some 36, some 37, some 38, some 39, some 40, some 41, some 42, some 43, some 44, some 45] [false, false, false, false, false, false, false, false, false, false, false, false, false, false, false, false, false, false, false, false, false, false, false, false, false, false, false, false, false, false, false, false, false, false, false, true, true, true, true, true, true, true, true, true, true, true, false] [fun v _ => v = .pointer (some ⟨B, 3, none⟩), fun v _ => v = .slice (some ⟨b1, o1, none⟩) (W.cs.length) (cc), fun v _ => v = .int .i64 (((k : Nat) : Int)), fun v _ => v = .pointer (some ⟨b1, o1 + k * 3, none⟩), fun v _ => v = .agg #[.int .i64 (x.1), .int .i64 (x.2.1), .int .i64 (x.2.2)], fun v _ => v = .pointer (some ⟨C, 3, none⟩), fun v _ => v = .slice (some ⟨b2, o2, none⟩) (W.cs.length) (cd), fun v _ => v = .int .i64 (((k : Nat) : Int)), fun v _ => v = .pointer (some ⟨b2, o2 + k * 3, none⟩), fun v _ => v = .agg #[.int .i64 (x.1), .int .i64 (x.2.1), .int .i64 (x.2.2)], fun v _ => v = .bool (false)] (by kernel_rfl) (by kernel_rfl) rfl ⟨?_, ?_, ?_, ?_, ?_, ?_, ?_, ?_, ?_, ?_, ?_, trivial⟩ ?_
      · intro u w hR hd; exact rn_fld_37_3 (ev rfl) ⟨rfl, rfl⟩
      · intro u w hR hd; exact rn_ld_35 (ev (hd.1 rfl)) (b3.kept hR) ⟨rfl, rfl⟩
      · intro u w hR hd; exact runs_mv (ev rfl) ⟨rfl, rfl⟩
      · intro u w hR hd; exact rn_idx_35 (k) (ev (hd.1 rfl)) (ev (hd.2.1 rfl)) (by omega) ⟨rfl, rfl⟩
      · intro u w hR hd; exact rn_ld_96 (ev (hd.1 rfl)) (h0.kept hR) (h1.kept hR) (h2.kept hR) ⟨rfl, rfl⟩
      · intro u w hR hd; exact rn_fld_37_3 (ev rfl) ⟨rfl, rfl⟩
      · intro u w hR hd; exact rn_ld_35 (ev (hd.1 rfl)) (c3.kept hR) ⟨rfl, rfl⟩
      · intro u w hR hd; exact runs_mv (ev rfl) ⟨rfl, rfl⟩
      · intro u w hR hd; exact rn_idx_35 (k) (ev (hd.1 rfl)) (ev (hd.2.1 rfl)) (by omega) ⟨rfl, rfl⟩
      · intro u w hR hd; exact rn_ld_96 (ev (hd.1 rfl)) (g0.kept hR) (g1.kept hR) (g2.kept hR) ⟨rfl, rfl⟩
      · intro u w hR hd; exact rn_neq_96 (ev (hd.1 rfl)) (ev (hd.2.1 rfl)) ⟨rfl, (congrArg Value.bool (by simp))⟩
      intro u h
      have he : u 45 = .bool false := h 10 (by decide)
      simp only [mixA, mixL, zz9, zz0]
      rw [he]
      clear h he h0 h1 h2 g0 g1 g2 b3 c3
      go_wp2
      go_roundg (W.cs.length - (k + 1))
      case measure => have := HLT.out; omega
      case rel => exact ⟨k + 1, by go_num, HLT.out, rfl, Lib.hid (HBX.out.grew (Grew.refl _).drw), Lib.hid (HBY.out.grew (Grew.refl _).drw), Lib.hid HG.out.drw⟩
    · obtain rfl : k = W.cs.length := by omega
      go_wp2
      go_ret
      exact ⟨rfl, HG.out⟩
/-- A bus in a new variable, out of a copy. -/
theorem CopyOf.bus {N q : Nat} {w : World} {W : Wd} {wp rp cp : Option Addr} {wc rc cc : Nat} (h : CopyOf N w W wp rp cp wc rc cc) (hq : Blk q [.slice wp W.ws.length wc, .slice rp W.rs.length rc, .int .i64 W.fl, .slice cp W.cs.length cc] 37 w) (hN : N ≤ q) :
    BusAt N w q W (fun k => k = q ∨ (∃ a, wp = some a ∧ a.block = k) ∨ (∃ a, rp = some a ∧ a.block = k) ∨ ∃ a, cp = some a ∧ a.block = k) wp rp cp wc rc cc :=
  ⟨hq, h.ow, (OwR.rd encH h.or).2.rd, h.oc, fun a e => by
    obtain ⟨cur, h1⟩ := h.or.kind encH a e
    exact ⟨cur, _, h1⟩, h.ne, .inl rfl, fun a e => .inr (.inl ⟨a, e, rfl⟩), fun a e => .inr (.inr (.inl ⟨a, e, rfl⟩)), fun a e => .inr (.inr (.inr ⟨a, e, rfl⟩)), fun k hk => by
    rcases hk with rfl | ⟨a, e, rfl⟩ | ⟨a, e, rfl⟩ | ⟨a, e, rfl⟩
    · exact ⟨hN, _, _, _, hq, .inl rfl⟩
    · obtain ⟨cur, h1⟩ := h.ow.kind encH a e
      exact ⟨(h.ow.place encH a e).1, _, _, _, h1, .inr (.inl rfl)⟩
    · obtain ⟨cur, h1⟩ := h.or.kind encH a e
      exact ⟨(h.or.place encH a e).1, _, _, _, h1, .inr (.inl rfl)⟩
    · obtain ⟨cur, h1⟩ := h.oc.kind encL a e
      exact ⟨(h.oc.place encL a e).1, _, _, _, h1, .inr (.inr rfl)⟩⟩
theorem CopyOf.grew {N : Nat} {w w' : World} {W : Wd} {wp rp cp : Option Addr} {wc rc cc : Nat} (h : CopyOf N w W wp rp cp wc rc cc) (hg : Grew w w') : CopyOf N w' W wp rp cp wc rc cc := ⟨h.ow.kept hg, h.or.kept hg, h.oc.kept hg, h.ne⟩
theorem CopyOf.down {M N : Nat} {w : World} {W : Wd} {wp rp cp : Option Addr} {wc rc cc : Nat} (h : CopyOf N w W wp rp cp wc rc cc) (hM : M ≤ N) : CopyOf M w W wp rp cp wc rc cc := ⟨h.ow.down hM, h.or.down hM, h.oc.down hM, h.ne⟩
end Go.Proofs.YtbhglpiiabpdjaaDoor
