/-
  LAYER 12 (cpu): Save of the program and the reference; Same.
-/
import Derived.Test.YtbhglpiiabpdjaaDoorCpuVal
import Derived.Deep.LoopGhost
namespace Go.Proofs.YtbhglpiiabpdjaaDoor
open Go Go.RowKit Go.IntWalk Go.WideShapes
set_option linter.unusedSimpArgs false
set_option linter.unusedVariables false
set_option maxRecDepth 8000
theorem flatL_rep {α : Type} {enc : α → List Value} {x0 : α} {z : Value} (h : enc x0 = [z]) (n : Nat) : flatL enc (List.replicate n x0) = List.replicate n z := by
  induction n with
  | zero => rfl
  | succ n ih => rw [List.replicate_succ, List.replicate_succ, flatL_cons, h, ih]; rfl
/-- 'make([]T, n)' of elements of one cell. -/
theorem wpList_make_row1 {α : Type} {enc : α → List Value} {P : Program} {w : World} {ops : Array Oper} {rest : List Oper} {o : Oper} {a : Act} {Q : Exit → Act → World → Prop} (hg : o.guard = none) (l c : Operand) (t : TypeId) (hop : o.op = Op.makeSlice t l c) (E : Enc 1 enc)
    (base : Nat) (e : TypeId) (z : Value) (by' : Nat) (x0 : α) (hx0 : enc x0 = [z]) (ht : P.underlying t = some (.slice e)) (hi : (P.info? e).map (fun i => (i.zero, i.size, i.bytes)) = some (some z, 1, by')) (hzc : z.cells = #[z])
    (kl kc : IntKind) (L C : Int) (n : Nat) (hl : a.eval l = .int kl L) (hc : a.eval c = .int kc C) (hL : L = (n : Int)) (hC : C = (n : Int)) (hn : by' * n ≤ 281474976710656 ∧ n ≤ 9223372036854775807) (hbase : base ≤ w.heap.size)
    (h : ∀ w', OwR w' base e 1 enc (.slice (some ⟨w.heap.size, 0, none⟩) n n) (List.replicate n x0) → Below base w w' → wpList P ops Q rest (a.put o.dst (.slice (some ⟨w.heap.size, 0, none⟩) n n)) w') : wpList P ops Q (o :: rest) a w := by
  obtain ⟨i, hi, hz0, hz1, hz2⟩ := info_parts hi
  refine wpList_make_full w hg l c t hop base e i _ 1 ht hi hz0 hz1 kl kc L C n hl hc hL hC (by rw [hz2]; exact hn.1) (by simp only [maxLen]; omega) hbase fun w' h1 h2 => h w' ?_ ((Below.refl base w).grown h2 hbase (fun k hk => by cases hk))
  have e1 : (madeCells z.cells (n * 1)).toList = flatL enc (List.replicate n x0) := by
    rw [hzc, toList_madeCells_one, Nat.mul_one, flatL_rep hx0]
  rw [e1] at h1
  show World.ownsRow _ _ _ _ _ _ _
  rw [List.length_replicate]
  exact h1
theorem List.set_eq_of_length_le_or_same {α : Type} {l : List α} {k : Nat} {x : α} (h : l[k]? = some x) : l.set k x = l := by
  apply List.ext_getElem?
  intro i
  rw [List.getElem?_set]
  split
  · subst_vars; split
    · exact h.symm
    · rename_i hn; rw [List.getElem?_eq_none (by omega)] at h; cases h
  · rfl
/-- The value at a location. -/
def sv (s : St) (n : Int) : Int := if 0 ≤ n ∧ n < 72 then s.reg n.toNat else 0
def saves (s : St) (live : List Int) : List Int := live.map (sv s)
/-- What Save has written after k locations. -/
def savek (s : St) (live : List Int) (k : Nat) : List Int := (live.take k).map (sv s) ++ List.replicate (live.length - k) 0
theorem savek_len (s : St) (live : List Int) (k : Nat) (hk : k ≤ live.length) : (savek s live k).length = live.length := by
  unfold savek; simp; omega
theorem savek_next (s : St) (live : List Int) (k : Nat) (n : Int) (hq : live[k]? = some n) : (savek s live k)[k]? = some 0 ∧ (savek s live k).set k (sv s n) = savek s live (k + 1) := by
  have hk : k < live.length := (List.getElem?_eq_some_iff.1 hq).1
  have ht := List.take_succ_eq_append_getElem hk
  rw [List.getElem?_eq_getElem hk] at hq
  have hl : ((live.take k).map (sv s)).length = k := by simp; omega
  have hr : List.replicate (live.length - k) (0 : Int) = 0 :: List.replicate (live.length - (k + 1)) 0 := by
    rw [show live.length - k = (live.length - (k + 1)) + 1 by omega, List.replicate_succ]
  unfold savek
  rw [hr]
  constructor
  · rw [List.getElem?_append_right (by omega), hl, Nat.sub_self]; rfl
  · rw [List.set_append_right _ _ (by omega), hl, Nat.sub_self, List.set_cons_zero, ht, Option.some.inj hq]
    simp
theorem sv_in {s : St} {m : Nat} (h : m < 72) : sv s (m : Int) = s.reg m := by
  unfold sv; rw [if_pos (by omega), Int.toNat_natCast]
theorem sv_out {s : St} {n : Int} (h : n < 0 ∨ 72 ≤ n) : sv s n = 0 := by unfold sv; rw [if_neg (by omega)]
theorem loc_cases (n : Int) : (n < 0 ∨ 72 ≤ n) ∨ ∃ m : Nat, m < 72 ∧ n = m := by
  by_cases h : n < 0 ∨ 72 ≤ n
  · exact .inl h
  · exact .inr ⟨n.toNat, by omega, by omega⟩
section
variable {dst : Option Tmp} {ty : TypeId} {pos : String} {after : Array Edge} {g : Option (Nat × Bool)} {a : Act} {w : World} {T : Value → World → Prop}
theorem rn_idx_34 {x y : Operand} {b o n c : Nat} (i : Nat) (hx : a.eval x = .slice (some ⟨b, o, none⟩) n c) (hy : a.eval y = .int .i64 (i : Int)) (hi : i < n) (h : T (.pointer (some ⟨b, o + i, none⟩)) w) : Runs Tryd.prog ⟨dst, .indexAddr 34 x y, ty, pos, after, g⟩ a w T := by
  have hi2 : (i : Int) < (n : Int) := by omega
  refine Runs.value (v := .pointer (some ⟨b, o + i, none⟩)) (w' := w) ?_ h
  simp only [execOp, hx, hy]
  go_simp
theorem rn_neq_29 {o1 o2 : Operand} {b c : Int} (hx : a.eval o1 = .int .i16 b) (hy : a.eval o2 = .int .i16 c) (h : T (.bool (b != c)) w) : Runs Tryd.prog ⟨dst, .binOp .neq 29 o1 o2 29, ty, pos, after, g⟩ a w T := by
  refine Runs.value (v := .bool (b != c)) (w' := w) ?_ h
  simp only [execOp, hx, hy]
  go_simp
end
theorem loc_out (c : Nat) (n : Int) (h : n < 0 ∨ 72 ≤ n) (w : World) : Calls Tryd.prog 44 #[.pointer (some ⟨c, 0, none⟩), .int .i64 n] w fun e w' => e = .returned (.pointer none) ∧ w' = w := by
  go_enter Tryd.func44, Tryd.ntmps44
  rcases Int.lt_or_le n 0 with h0 | h0
  · clear h
    go_wp2
    go_ret
    exact ⟨rfl, rfl⟩
  · have h1 : ¬ n < 0 := by omega
    have h2 : ¬ n < 8 := by omega
    have h3 : ¬ n < 72 := by omega
    clear h
    go_wp2
    go_ret
    exact ⟨rfl, rfl⟩
theorem loc_a (c : Nat) (m : Nat) (h : m < 8) (w : World) : Calls Tryd.prog 44 #[.pointer (some ⟨c, 0, none⟩), .int .i64 (m : Nat)] w fun e w' => e = .returned (.pointer (some ⟨c, 1 + m, none⟩)) ∧ w' = w := by
  go_enter Tryd.func44, Tryd.ntmps44
  have h1 : ¬ (m : Int) < 0 := by omega
  have h2 : (m : Int) < 8 := by omega
  go_wp2
  go_ret
  exact ⟨rfl, rfl⟩
theorem loc_b (c : Nat) (n : Int) (j : Nat) (h : j < 64) (hn : n = 8 + (j : Int)) (w : World) : Calls Tryd.prog 44 #[.pointer (some ⟨c, 0, none⟩), .int .i64 n] w fun e w' => e = .returned (.pointer (some ⟨c, 9 + j, none⟩)) ∧ w' = w := by
  go_enter Tryd.func44, Tryd.ntmps44
  have h1 : ¬ n < 0 := by omega
  have h2 : ¬ n < 8 := by omega
  have h3 : n < 72 := by omega
  go_upto_region 6 with fail
  refine wp_region_list ?_
  refine wpList_runs rfl (some 19) rfl (runs_mv (ev rfl) ?_)
  simp only [List.getElem_toArray, List.getElem_cons_zero, List.getElem_cons_succ, Act.put, mixA, mixL, cond_true, cond_false, List.setIfInBounds_toArray, List.set_cons_zero, List.set_cons_succ]
  refine wpList_runs rfl (some 20) rfl (runs_mv (ev rfl) ?_)
  simp only [List.getElem_toArray, List.getElem_cons_zero, List.getElem_cons_succ, Act.put, mixA, mixL, cond_true, cond_false, List.setIfInBounds_toArray, List.set_cons_zero, List.set_cons_succ]
  refine wpList_runs rfl (some 21) rfl (runs_to (v := .int .i64 ((n) - (8))) (u := .int .i64 (((j : Nat) : Int))) (rn_sub_3 (ev rfl) rfl (by omega) ⟨rfl, rfl⟩) (congrArg (Value.int .i64) (by omega)) ?_)
  simp only [List.getElem_toArray, List.getElem_cons_zero, List.getElem_cons_succ, Act.put, mixA, mixL, cond_true, cond_false, List.setIfInBounds_toArray, List.set_cons_zero, List.set_cons_succ]
  refine wpList_runs rfl (some 22) rfl (rn_nil (ev rfl) ?_)
  simp only [List.getElem_toArray, List.getElem_cons_zero, List.getElem_cons_succ, Act.put, mixA, mixL, cond_true, cond_false, List.setIfInBounds_toArray, List.set_cons_zero, List.set_cons_succ]
  refine wpList_runs rfl (some 23) rfl (rn_fld_43_2 (ev rfl) ?_)
  simp only [List.getElem_toArray, List.getElem_cons_zero, List.getElem_cons_succ, Act.put, mixA, mixL, cond_true, cond_false, List.setIfInBounds_toArray, List.set_cons_zero, List.set_cons_succ]
  refine wpList_runs rfl (some 24) rfl (rn_idxa_31 (j) (ev rfl) (ev rfl) (by omega) ?_)
  simp only [List.getElem_toArray, List.getElem_cons_zero, List.getElem_cons_succ, Act.put, mixA, mixL, cond_true, cond_false, List.setIfInBounds_toArray, List.set_cons_zero, List.set_cons_succ]
  refine wpList_runs rfl (some 4) rfl (runs_mva (ev rfl) ?_)
  simp only [List.getElem_toArray, List.getElem_cons_zero, List.getElem_cons_succ, Act.put, mixA, mixL, cond_true, cond_false, List.setIfInBounds_toArray, List.set_cons_zero, List.set_cons_succ]
  go_wp2
  go_ret
  exact ⟨rfl, rfl⟩
theorem loc_in (c m : Nat) (h : m < 72) (w : World) : Calls Tryd.prog 44 #[.pointer (some ⟨c, 0, none⟩), .int .i64 (m : Nat)] w fun e w' => e = .returned (.pointer (some ⟨c, 1 + m, none⟩)) ∧ w' = w := by
  rcases Nat.lt_or_ge m 8 with h8 | h8
  · exact loc_a c m h8 w
  · obtain ⟨j, rfl⟩ : ∃ j, m = 8 + j := ⟨m - 8, by omega⟩
    rw [show 1 + (8 + j) = 9 + j by omega]
    exact loc_b c _ j (by omega) (by omega) w
theorem rloc_any (n : Int) (w : World) : Calls Tryd.prog 45 #[.int .i64 n] w fun e w' => e = .returned (.bool (decide (0 ≤ n) && decide (n < 72))) ∧ w' = w := by
  go_enter Tryd.func45, Tryd.ntmps45
  by_cases h0 : 0 ≤ n
  · by_cases h1 : n < 72
    · go_wp2
      go_ret
      exact ⟨ret_bool (by simp [h0, h1]), rfl⟩
    · go_wp2
      go_ret
      exact ⟨ret_bool (by simp [h0, h1]), rfl⟩
  · go_wp2
    go_ret
    exact ⟨ret_bool (by rw [decide_eq_false (by omega : ¬ 0 ≤ n)]; rfl), rfl⟩
theorem rloc_is (n : Int) (b : Bool) (h : (decide (0 ≤ n) && decide (n < 72)) = b) (w : World) : Calls Tryd.prog 45 #[.int .i64 n] w fun e w' => e = .returned (.bool b) ∧ w' = w := h ▸ rloc_any n w
theorem Grew.atv {q : Addr} {v : Value} {w w' : World} (hg : Grew w w') (h : Atv q v w) : Atv q v w' := h.grew hg
set_option maxHeartbeats 2000000 in
/-- Same of two slices that hold the same. -/
theorem rsame_self (p q : Option Addr) (c d : Nat) (xs : List Int) (w : World) (h : RdL 1 h16 w p c xs) (h' : RdL 1 h16 w q d xs) :
    Calls Tryd.prog 20 #[.slice p xs.length c, .slice q xs.length d] w fun e w' => e = .returned (.bool true) ∧ Grew w w' := by
  have HX := Lib.hid h
  have HY := Lib.hid h'
  have hcap := h.cap
  have hmax := h.max
  clear h h'
  go_enter Tryd.func20, Tryd.ntmps20
  go_wp2
  go_loopg [13] xs.length (fun gg iv wr => ∃ (k : Nat), iv = .int .i64 (k : Int) ∧ k ≤ xs.length ∧ gg = xs.length - k ∧ Hid (Grew w wr))
  case atStart => exact ⟨0, rfl, Nat.zero_le _, rfl, Lib.hid (Grew.refl _)⟩
  case round =>
    obtain ⟨k, rfl, hk, rfl, HG⟩ := hrel
    by_cases hlt : k < xs.length
    · obtain ⟨b1, o1, rfl, hc1⟩ := (HX.out.kept HG.out).cells (by omega)
      obtain ⟨b2, o2, rfl, hc2⟩ := (HY.out.kept HG.out).cells (by omega)
      have d0 : Atv ⟨b1, o1 + k, none⟩ (.int .i16 xs[k]) wr := by have := hc1 k xs[k] (by simp [hlt]) 0 _ rfl; rw [Nat.mul_one, Nat.add_zero] at this; exact this
      have e0 : Atv ⟨b2, o2 + k, none⟩ (.int .i16 xs[k]) wr := by have := hc2 k xs[k] (by simp [hlt]) 0 _ rfl; rw [Nat.mul_one, Nat.add_zero] at this; exact this
      have HLT := Lib.hid (Nat.succ_le_of_lt hlt)
      generalize xs[k] = x at d0 e0
      clear hc1 hc2
      go_wp2
      have h0 : Atv ⟨b1, o1 + k, none⟩ (.int .i16 x) wr.drew := Grew.atv (Grew.refl _).drw d0
      have g0 : Atv ⟨b2, o2 + k, none⟩ (.int .i16 x) wr.drew := Grew.atv (Grew.refl _).drw e0
      refine wp_still [some 16, some 17, some 18, some 19, some 20, some 21, some 22, some 23, some 24] [false, false, false, false, false, false, false, false, false, false, false, false, false, false, false, false, true, true, true, true, true, true, true, true, true, false] [fun v _ => v = .slice (some ⟨b1, o1, none⟩) (xs.length) (c), fun v _ => v = .int .i64 (((k : Nat) : Int)), fun v _ => v = .pointer (some ⟨b1, o1 + k, none⟩), fun v _ => v = .int .i16 (x), fun v _ => v = .slice (some ⟨b2, o2, none⟩) (xs.length) (d), fun v _ => v = .int .i64 (((k : Nat) : Int)), fun v _ => v = .pointer (some ⟨b2, o2 + k, none⟩), fun v _ => v = .int .i16 (x), fun v _ => v = .bool (false)] (by kernel_rfl) (by kernel_rfl) rfl ⟨?_, ?_, ?_, ?_, ?_, ?_, ?_, ?_, ?_, trivial⟩ ?_
      · intro u w hR hd; exact runs_mv (ev rfl) ⟨rfl, rfl⟩
      · intro u w hR hd; exact runs_mv (ev rfl) ⟨rfl, rfl⟩
      · intro u w hR hd; exact rn_idx_34 (k) (ev (hd.1 rfl)) (ev (hd.2.1 rfl)) (by omega) ⟨rfl, rfl⟩
      · intro u w hR hd; exact rn_ld_29 (ev (hd.1 rfl)) (h0.kept hR) ⟨rfl, rfl⟩
      · intro u w hR hd; exact runs_mv (ev rfl) ⟨rfl, rfl⟩
      · intro u w hR hd; exact runs_mv (ev rfl) ⟨rfl, rfl⟩
      · intro u w hR hd; exact rn_idx_34 (k) (ev (hd.1 rfl)) (ev (hd.2.1 rfl)) (by omega) ⟨rfl, rfl⟩
      · intro u w hR hd; exact rn_ld_29 (ev (hd.1 rfl)) (g0.kept hR) ⟨rfl, rfl⟩
      · intro u w hR hd; exact rn_neq_29 (ev (hd.1 rfl)) (ev (hd.2.1 rfl)) ⟨rfl, (congrArg Value.bool (by simp))⟩
      intro u h
      have he : u 24 = .bool false := h 8 (by decide)
      simp only [mixA, mixL, cond_true, cond_false]
      rw [he]
      clear h he h0 g0 d0 e0
      go_wp2
      go_roundg (xs.length - (k + 1))
      case measure => have := HLT.out; omega
      case rel => exact ⟨k + 1, by go_num, HLT.out, rfl, Lib.hid HG.out.drw⟩
    · obtain rfl : k = xs.length := by omega
      go_wp2
      go_ret
      exact ⟨rfl, HG.out⟩
set_option maxHeartbeats 4000000 in
theorem save_any (c : Nat) (s : St) (hs : s.Ok) (st : Int) (lp : Option Addr) (lc : Nat) (live : List Int) (hll : live.length ≤ 100) (w : World) (hC : Blk c (stv s) CPT w) (h : RdL 1 iv w lp lc live) :
    Calls Tryd.prog 21 #[.pointer (some ⟨c, 0, none⟩), .agg #[.int .i64 st, .slice lp live.length lc]] w fun e w' => ∃ p cc, e = .returned (.slice p (saves s live).length cc) ∧ RdL 1 h16 w' p cc (saves s live) ∧ Grew w w' := by
  have HC := Lib.hid hC
  have HS := Lib.hid hs
  have HX := Lib.hid h
  have hcap := h.cap
  have hmax := h.max
  clear hC hs h
  go_enter Tryd.func21, Tryd.ntmps21
  go_upto_region 1 with fail
  generalize hW : World.alloc _ _ = V
  have bx : Blk w.heap.size [.int .i64 st, .slice lp live.length lc] 61 V := by subst hW; exact Blk.new w _ _
  have HG := Lib.hid (show Grew w V by subst hW; exact (Grew.refl _).alloc _)
  clear hW
  have x0 := bx.cell 0
  have x1 := bx.cell 1
  simp only [List.getElem?_cons_zero, List.getElem?_cons_succ] at x0 x1
  go_wp2_with (at_make; refine wpList_make_row1 rfl _ _ 34 rfl encH V.heap.size 29 (.int .i16 0) 2 (0 : Int) rfl Tryd.underlying34 infoH rfl _ _ _ _ live.length rfl rfl rfl rfl (by omega) (Nat.le_refl _) ?_; intro w1 ho1 hb1; have HO1 := Lib.hid ho1; have HB1 := Lib.hid hb1; clear x0 x1; replace bx := bx.grew hb1; have x0 := bx.cell 0; have x1 := bx.cell 1; simp only [List.getElem?_cons_zero, List.getElem?_cons_succ] at x0 x1; clear ho1 hb1)
  obtain ⟨g, hg⟩ : ∃ g, g = V.heap.size := ⟨_, rfl⟩
  rw [← hg]
  replace HO1 : Hid (OwR w1 V.heap.size 29 1 h16 (.slice (some ⟨g, 0, none⟩) live.length live.length) (List.replicate live.length 0)) := Lib.hid (by rw [hg]; exact HO1.out)
  have HGW := Lib.hid (Nat.le_of_eq hg.symm)
  clear hg x0 x1 bx
  go_loopg [16] live.length (fun gg iv wr => ∃ (k : Nat), iv = .int .i64 (k : Int) ∧ k ≤ live.length ∧ gg = live.length - k ∧ Hid (OwR wr V.heap.size 29 1 h16 (.slice (some ⟨g, 0, none⟩) live.length live.length) (savek s live k)) ∧ Hid (Grew V wr))
  case atStart => exact ⟨0, rfl, Nat.zero_le _, rfl, Lib.hid (by simpa [savek] using HO1.out), Lib.hid HB1.out⟩
  clear HO1
  case round =>
    obtain ⟨k, rfl, hk, rfl, HO, HR⟩ := hrel
    by_cases hlt : k < live.length
    · skip
      obtain ⟨b', o', rfl, hcc⟩ := (HX.out.kept (HG.out.trans HR.out)).cells (by omega)
      have hx : live[k]? = some live[k] := by simp [hlt]
      have d0 : wr.cell? ⟨b', o' + k, none⟩ = some (.int .i64 live[k]) := by have := hcc k live[k] hx 0 _ rfl; rw [Nat.mul_one, Nat.add_zero] at this; exact this
      have HLT := Lib.hid (Nat.succ_le_of_lt hlt)
      have HV := Lib.hid (savek_next s live k _ hx)
      generalize live[k] = n at d0 HV
      clear hcc hx
      rcases loc_cases n with hn | ⟨m, hm, rfl⟩
      · have HL := Lib.hid hn
        rw [sv_out hn] at HV
        clear hn
        go_wp2_with (go_at_call 44; (with_reducible refine (loc_out c n HL.out _).mono ?_); rintro e w2 ⟨rfl, hw2⟩; subst hw2; )
        go_roundg (live.length - (k + 1))
        case measure => have := HLT.out; omega
        case rel => exact ⟨k + 1, by go_num, HLT.out, rfl, Lib.hid (by rw [← HV.out.2, List.set_eq_of_length_le_or_same HV.out.1]; exact HO.out), HR⟩
      · have HL := Lib.hid hm
        rw [sv_in hm] at HV
        have r0 : wr.cell? ⟨c, 1 + m, none⟩ = some (.int .i16 (s.reg m)) := by rw [((HC.out.grew HG.out).grew HR.out).cell]; exact stv_at HS.out hm
        have v0 : wr.cell? ⟨g, k, none⟩ = some (.int .i16 0) := by have h1 := (OwR.rd encH HO.out).2.cell HV.out.1 (j := 0) rfl; simpa using h1
        have vf := (OwR.free encH HO.out k).2
        clear hm
        go_wp2_with (go_at_call 44; (with_reducible refine (loc_in c m HL.out _).mono ?_); rintro e w2 ⟨rfl, hw2⟩; subst hw2; )
        go_roundg (live.length - (k + 1))
        case measure => have := HLT.out; omega
        case rel => exact ⟨k + 1, by go_num, HLT.out, rfl, Lib.hid (by rw [← HV.out.2]; exact OwR.set1 encH (f := fun z => .int .i16 z) (fun _ => rfl) HO.out k (s.reg m)), Lib.hid (HR.out.sc HGW.out _ _)⟩
    · obtain rfl : k = live.length := by omega
      have HZ : Hid (savek s live live.length = saves s live) := Lib.hid (by unfold savek saves; simp)
      go_wp2
      go_ret
      refine ⟨some ⟨g, 0, none⟩, live.length, by rw [show (saves s live).length = live.length by simp [saves]]; rfl, ?_, HG.out.trans HR.out⟩
      rw [← HZ.out]
      exact (OwR.rd encH HO.out).2.rd
set_option maxHeartbeats 4000000 in
theorem rsave_any (s : St) (hs : s.Ok) (st : Int) (lp : Option Addr) (lc : Nat) (live : List Int) (hll : live.length ≤ 100) (w : World) (h : RdL 1 iv w lp lc live) :
    Calls Tryd.prog 22 #[.agg (stv s).toArray, .agg #[.int .i64 st, .slice lp live.length lc]] w fun e w' => ∃ p cc, e = .returned (.slice p (saves s live).length cc) ∧ RdL 1 h16 w' p cc (saves s live) ∧ Grew w w' := by
  have HS := Lib.hid hs
  have HX := Lib.hid h
  have hcap := h.cap
  have hmax := h.max
  clear hs h
  go_enter Tryd.func22, Tryd.ntmps22
  go_upto_region 0 with fail
  refine wp_region_list ?_
  refine wpList_box_whole rfl _ _ rfl (stv s) rfl fun w1 hB1 g1 => ?_
  refine wpList_box_whole rfl _ _ rfl [.int .i64 st, .slice lp live.length lc] rfl fun W bx g2 => ?_
  have HG := Lib.hid (g1.trans g2)
  have HC := Lib.hid (hB1.grew g2)
  generalize w1.heap.size = B at bx ⊢
  generalize w.heap.size = C at HC ⊢
  clear g1 g2 hB1
  simp only [List.getElem_toArray, List.getElem_cons_zero, List.getElem_cons_succ, Act.put, mixA, mixL, cond_true, cond_false, List.setIfInBounds_toArray, List.set_cons_zero, List.set_cons_succ]
  have x0 := bx.cell 0
  have x1 := bx.cell 1
  simp only [List.getElem?_cons_zero, List.getElem?_cons_succ] at x0 x1
  go_wp2
  obtain ⟨N, hN⟩ : ∃ N, N = W.heap.size := ⟨_, rfl⟩
  have HNE := Lib.hid hN
  clear x0 x1 bx hN
  go_loopg [11, 5] live.length (fun gg iv ov wr => ∃ (k : Nat) (p1 : Option Addr) (c1 : Nat), ov = .slice p1 k c1 ∧ iv = .int .i64 (k : Int) ∧ k ≤ live.length ∧ gg = live.length - k ∧ Hid (OwR wr N 29 1 h16 (.slice p1 k c1) ((live.take k).map (sv s))) ∧ Hid (Grew W wr))
  case atStart => exact ⟨0, none, 0, rfl, rfl, Nat.zero_le _, rfl, Lib.hid (OwR.nil _ _ _ _ _), Lib.hid (Grew.refl _)⟩
  case round =>
    obtain ⟨k, p1, c1, rfl, rfl, hk, rfl, HO, HR⟩ := hrel
    by_cases hlt : k < live.length
    · have HTK := Lib.hid (List.take_succ_eq_append_getElem hlt)
      obtain ⟨b', o', rfl, hcc⟩ := (HX.out.kept (HG.out.trans HR.out)).cells (by omega)
      have hx : live[k]? = some live[k] := by simp [hlt]
      have d0 : wr.cell? ⟨b', o' + k, none⟩ = some (.int .i64 live[k]) := by have := hcc k live[k] hx 0 _ rfl; rw [Nat.mul_one, Nat.add_zero] at this; exact this
      have HLT := Lib.hid (Nat.succ_le_of_lt hlt)
      generalize live[k] = n at d0 HTK
      clear hcc hx
      rcases loc_cases n with hn | ⟨m, hm, rfl⟩
      · have HB : Hid ((decide (0 ≤ n) && decide (n < 72)) = false) := Lib.hid (by simp; omega)
        have HSV := Lib.hid (sv_out (s := s) hn)
        clear hn
        go_wp2_with (first
          | (go_at_call 45; (with_reducible refine (rloc_is n false HB.out _).mono ?_); rintro e w4 ⟨rfl, hw4⟩; subst w4)
          | (at_builtin; refine wpList_append_row encH rfl _ _ 34 rfl N 29 (.int .i16 0) 2 Tryd.underlying34 infoH rfl (.slice p1 k c1) _ rfl (HO.out.kept ((Grew.refl _).alloc _)) _ 1 1 [0] rfl rfl (Rw.made encH _ [0] 1 _ _ _ rfl rfl (by omega)) (by simp; omega) (by simp; omega) (by have := HR.out.sz; have := HNE.out; simp; omega) ?_; intro p2 c2 zs2 w3 hz2 ho2 hb2 hc2; have HZ2 := Lib.hid hz2.out; have HO2 := Lib.hid ho2; have HG2 : Hid (Grew W wr → Grew W w3) := Lib.hid (fun hg => Below.trans (Grew.alloc hg _) (HNE.out ▸ hb2)); clear ho2 hb2 hc2 hz2))
        go_roundg (live.length - (k + 1))
        case measure => have := HLT.out; omega
        case rel =>
          have hzl : zs2.length = k + 1 := by rw [HZ2.out]; simp; have := HLT.out; omega
          rw [hzl] at HO2
          exact ⟨k + 1, p2, c2, by rw [hzl], by go_num, HLT.out, rfl, Lib.hid (by rw [HTK.out, List.map_append, List.map_singleton, HSV.out, ← HZ2.out]; exact HO2.out), Lib.hid (HG2.out HR.out)⟩
      · have HB : Hid ((decide (0 ≤ ((m : Nat) : Int)) && decide (((m : Nat) : Int) < 72)) = true) := Lib.hid (by simp; omega)
        have HSV := Lib.hid (sv_in (s := s) hm)
        rcases Nat.lt_or_ge m 8 with h8 | h8
        · have r0 : wr.cell? ⟨C, 1 + m, none⟩ = some (.int .i16 (s.reg m)) := by rw [(HC.out.grew HR.out).cell]; exact stv_at HS.out hm
          have h9 : (m : Int) < 8 := by omega
          clear hm
          go_wp2_with (first
          | (go_at_call 45; (with_reducible refine (rloc_is _ true HB.out _).mono ?_); rintro e w4 ⟨rfl, hw4⟩; subst w4)
          | (at_builtin; refine wpList_append_row encH rfl _ _ 34 rfl N 29 (.int .i16 0) 2 Tryd.underlying34 infoH rfl (.slice p1 k c1) _ rfl (HO.out.kept ((Grew.refl _).alloc _)) _ 1 1 [s.reg m] rfl rfl (Rw.made encH _ [s.reg m] 1 _ _ _ rfl rfl (by omega)) (by simp; omega) (by simp; omega) (by have := HR.out.sz; have := HNE.out; simp; omega) ?_; intro p2 c2 zs2 w3 hz2 ho2 hb2 hc2; have HZ2 := Lib.hid hz2.out; have HO2 := Lib.hid ho2; have HG2 : Hid (Grew W wr → Grew W w3) := Lib.hid (fun hg => Below.trans (Grew.alloc hg _) (HNE.out ▸ hb2)); clear ho2 hb2 hc2 hz2))
          go_roundg (live.length - (k + 1))
          case measure => have := HLT.out; omega
          case rel =>
            have hzl : zs2.length = k + 1 := by rw [HZ2.out]; simp; have := HLT.out; omega
            rw [hzl] at HO2
            exact ⟨k + 1, p2, c2, by rw [hzl], by go_num, HLT.out, rfl, Lib.hid (by rw [HTK.out, List.map_append, List.map_singleton, HSV.out, ← HZ2.out]; exact HO2.out), Lib.hid (HG2.out HR.out)⟩
        · obtain ⟨j, rfl⟩ : ∃ j, m = 8 + j := ⟨m - 8, by omega⟩
          have r0 : wr.cell? ⟨C, 9 + j, none⟩ = some (.int .i16 (s.reg (8 + j))) := by rw [(HC.out.grew HR.out).cell, show 9 + j = 1 + (8 + j) by omega]; exact stv_at HS.out hm
          obtain ⟨y, hy, hy8, hyj, hyi⟩ : ∃ y : Int, y = ((8 + j : Nat) : Int) ∧ ¬ y < 8 ∧ y - 8 = (j : Int) ∧ j < 64 := ⟨_, rfl, by omega, by omega, by omega⟩
          rw [← hy] at d0 HB
          clear hm h8 hy
          go_wp2_with (first
          | (go_at_call 45; (with_reducible refine (rloc_is _ true HB.out _).mono ?_); rintro e w4 ⟨rfl, hw4⟩; subst w4)
          | (at_builtin; refine wpList_append_row encH rfl _ _ 34 rfl N 29 (.int .i16 0) 2 Tryd.underlying34 infoH rfl (.slice p1 k c1) _ rfl (HO.out.kept ((Grew.refl _).alloc _)) _ 1 1 [s.reg (8 + j)] rfl rfl (Rw.made encH _ [s.reg (8 + j)] 1 _ _ _ rfl rfl (by omega)) (by simp; omega) (by simp; omega) (by have := HR.out.sz; have := HNE.out; simp; omega) ?_; intro p2 c2 zs2 w3 hz2 ho2 hb2 hc2; have HZ2 := Lib.hid hz2.out; have HO2 := Lib.hid ho2; have HG2 : Hid (Grew W wr → Grew W w3) := Lib.hid (fun hg => Below.trans (Grew.alloc hg _) (HNE.out ▸ hb2)); clear ho2 hb2 hc2 hz2))
          go_roundg (live.length - (k + 1))
          case measure => have := HLT.out; omega
          case rel =>
            have hzl : zs2.length = k + 1 := by rw [HZ2.out]; simp; have := HLT.out; omega
            rw [hzl] at HO2
            exact ⟨k + 1, p2, c2, by rw [hzl], by go_num, HLT.out, rfl, Lib.hid (by rw [HTK.out, List.map_append, List.map_singleton, HSV.out, ← HZ2.out]; exact HO2.out), Lib.hid (HG2.out HR.out)⟩
    · obtain rfl : k = live.length := by omega
      have HZ : Hid ((live.take live.length).map (sv s) = saves s live) := Lib.hid (by unfold saves; rw [List.take_length])
      go_wp2
      go_ret
      refine ⟨p1, c1, by rw [show (saves s live).length = live.length by simp [saves]]; rfl, ?_, HG.out.trans HR.out⟩
      rw [← HZ.out]
      exact (OwR.rd encH HO.out).2.rd
end Go.Proofs.YtbhglpiiabpdjaaDoor
