/-
  LAYER 15: complaint and Errors of the program.
-/
import Derived.Test.YtcajamgajchheaaDoorLxSame2
namespace Go.Proofs.YtcajamgajchheaaDoor
open Go Go.RowKit Go.IntWalk
set_option linter.unusedSimpArgs false
set_option linter.unusedVariables false
set_option maxRecDepth 8000
/-- What is wrong with the text of an invalid token. -/
def cmpl (t : List UInt8) : ByteArray := if hd ltr t = true then ⟨#[105, 100, 101, 110, 116, 105, 102, 105, 101, 114, 32, 116, 111, 111, 32, 108, 111, 110, 103]⟩ else if hd dig t = true then ⟨#[105, 110, 118, 97, 108, 105, 100, 32, 105, 110, 116, 101, 103, 101, 114]⟩ else ⟨#[105, 110, 118, 97, 108, 105, 100, 32, 99, 104, 97, 114, 97, 99, 116, 101, 114]⟩
def ers (l : List Tk) : List Dg := (l.filter (fun t => decide (t.kind = 5))).map (fun t => (t.pos, cmpl t.text.data.toList))
theorem ers_snoc (l : List Tk) (t : Tk) : ers (l ++ [t]) = if t.kind = 5 then ers l ++ [(t.pos, cmpl t.text.data.toList)] else ers l := by
  unfold ers
  rw [List.filter_append, List.map_append]
  by_cases h : t.kind = 5
  · rw [if_pos h]; simp [List.filter_cons, h]
  · rw [if_neg h]; simp [List.filter_cons, h]
theorem cmpl_any (s : ByteArray) (w : World) : Calls Tryd.prog 30 #[.string s] w fun e w' => e = .returned (.string (cmpl s.data.toList)) ∧ w = w' := by
  have HL := Lib.hid (fun W => (show Calls Tryd.prog 40 #[.string s, .string setL] W fun e w' => e = .returned (.bool (hd ltr s.data.toList)) ∧ W = w' from begins_any isL s W))
  have HD := Lib.hid (fun W => (show Calls Tryd.prog 40 #[.string s, .string setD] W fun e w' => e = .returned (.bool (hd dig s.data.toList)) ∧ W = w' from begins_any isD s W))
  unfold cmpl
  cases h1 : hd ltr s.data.toList with
  | true =>
    rw [h1] at HL
    rw [if_pos rfl]
    clear h1 HD
    go_enter Tryd.func30, Tryd.ntmps30
    go_wp2_with (go_at_call 40; with_reducible refine (HL.out _).mono ?_; rintro e w1 ⟨rfl, hw1⟩; subst w1)
    go_ret
    exact ⟨rfl, rfl⟩
  | false =>
    rw [h1] at HL
    rw [if_neg (by simp)]
    cases h2 : hd dig s.data.toList with
    | true =>
      rw [h2] at HD
      rw [if_pos rfl]
      clear h1 h2
      go_enter Tryd.func30, Tryd.ntmps30
      go_wp2_with (first
        | (go_at_call 40; with_reducible refine (HL.out _).mono ?_; rintro e w1 ⟨rfl, hw1⟩; subst w1)
        | (go_at_call 40; with_reducible refine (HD.out _).mono ?_; rintro e w1 ⟨rfl, hw1⟩; subst w1))
      go_ret
      exact ⟨rfl, rfl⟩
    | false =>
      rw [h2] at HD
      rw [if_neg (by simp)]
      clear h1 h2
      go_enter Tryd.func30, Tryd.ntmps30
      go_wp2_with (first
        | (go_at_call 40; with_reducible refine (HL.out _).mono ?_; rintro e w1 ⟨rfl, hw1⟩; subst w1)
        | (go_at_call 40; with_reducible refine (HD.out _).mono ?_; rintro e w1 ⟨rfl, hw1⟩; subst w1))
      go_ret
      exact ⟨rfl, rfl⟩
theorem cmpl_grew (s : ByteArray) (w : World) : Calls Tryd.prog 30 #[.string s] w fun e w' => e = .returned (.string (cmpl s.data.toList)) ∧ Grew w w' := (cmpl_any s w).mono fun e w' h => ⟨h.1, h.2 ▸ Grew.refl _⟩
theorem enters_cm : Enters Tryd.prog 30 := fun args w => by go_simp
theorem infoD : (Tryd.prog.info? 51).map (fun i => (i.zero, i.size, i.bytes)) = some (some (dgv (0, ⟨#[]⟩)), 2, 24) := by kernel_rfl
theorem madeD (w : World) (S : Nat) (x : Dg) (e : TypeId) (cs : Array Value) (fr : Nat × Nat) (hS : w.heap.size = S) (hc : cs = (flatL dgc [x]).toArray) : Rw 2 dgc (w.alloc (.cells cs e fr)) (some ⟨S, 0, none⟩) 1 [x] := by
  subst hS
  exact Rw.made encD w [x] 1 e cs fr hc rfl (by decide)
section
variable {dst : Option Tmp} {ty : TypeId} {pos : String} {after : Array Edge} {g : Option (Nat × Bool)} {a : Act} {w : World} {T : Value → World → Prop}
theorem runs_bsD {y : Nat} {x : Dg} (hx : a.eval (.tmp y) = dgv x) (h : T (.slice (some ⟨w.heap.size, 0, none⟩) 1 1) (w.alloc (.cells (dgc x).toArray 51))) :
    Runs Tryd.prog ⟨dst, .buildSlice 31 1 #[(0, .tmp y)], ty, pos, after, g⟩ a w T := by
  rw [slot_eval, ← slot_get] at hx
  refine Runs.value (v := .slice (some ⟨w.heap.size, 0, none⟩) 1 1) (w' := w.alloc (.cells (dgc x).toArray 51)) ?_ h
  simp only [execOp]
  go_simp
end
section
variable {dst : Option Tmp} {ty : TypeId} {pos : String} {after : Array Edge} {g : Option (Nat × Bool)} {a : Act} {w : World} {T : Value → World → Prop}
theorem rn_fld_41_3 {x : Operand} {S o : Nat} (hx : a.eval x = .pointer (some ⟨S, o, none⟩)) (h : T (.pointer (some ⟨S, o + 3, none⟩)) w) : Runs Tryd.prog ⟨dst, .fieldAddr 41 x 3, ty, pos, after, g⟩ a w T := by
  refine Runs.value (v := .pointer (some ⟨S, o + 3, none⟩)) (w' := w) ?_ h
  simp only [execOp, hx]
  go_simp
theorem rn_fld_41_1 {x : Operand} {S o : Nat} (hx : a.eval x = .pointer (some ⟨S, o, none⟩)) (h : T (.pointer (some ⟨S, o + 1, none⟩)) w) : Runs Tryd.prog ⟨dst, .fieldAddr 41 x 1, ty, pos, after, g⟩ a w T := by
  refine Runs.value (v := .pointer (some ⟨S, o + 1, none⟩)) (w' := w) ?_ h
  simp only [execOp, hx]
  go_simp
theorem rn_bld_51_01 {x0 x1 : Nat} {v0_0 : Int} {v1_0 : ByteArray} (hx0 : a.eval (.tmp x0) = .int .i64 v0_0) (hx1 : a.eval (.tmp x1) = .string v1_0) (h : T (.agg #[.int .i64 v0_0, .string v1_0]) w) : Runs Tryd.prog ⟨dst, .build 51 #[(0, .tmp x0), (1, .tmp x1)], ty, pos, after, g⟩ a w T := by
  rw [slot_eval, ← slot_get] at hx0 hx1
  refine Runs.value (v := .agg #[.int .i64 v0_0, .string v1_0]) (w' := w) ?_ h
  simp only [execOp]
  go_simp
end

set_option maxHeartbeats 8000000 in
theorem errs_any (p : Option Addr) (c : Nat) (L : List Tk) (w : World) (h : Rw 4 tkc w p c L) (hl : L.length ≤ 200000) : Calls Tryd.prog 16 #[.slice p L.length c] w fun e w' => ∃ p' c', e = .returned (.slice p' (ers L).length c') ∧ Rw 2 dgc w' p' c' (ers L) ∧ Grew w w' := by
  have HX := Lib.hid h
  have hcap := h.cap
  have hmax := h.max
  clear h
  go_enter Tryd.func16, Tryd.ntmps16
  go_wp2
  go_loopg [3, 5, 8] L.length (fun gg lv bv iv wr => ∃ (k n : Nat) (p1 : Option Addr) (c1 : Nat) (out : List Dg), lv = .slice p1 n c1 ∧ iv = .int .i64 (k : Int) ∧ k ≤ L.length ∧ gg = L.length - k ∧ n ≤ k ∧ Hid (out.length = n) ∧ Hid (out = ers (L.take k)) ∧ Hid (OwR wr w.heap.size 51 2 dgc (.slice p1 n c1) out) ∧ Hid (Grew w wr))
  case atStart => exact ⟨0, 0, none, 0, [], rfl, rfl, Nat.zero_le _, rfl, Nat.zero_le _, Lib.hid rfl, Lib.hid rfl, Lib.hid (OwR.nil _ _ _ _ _), Lib.hid (Grew.refl _)⟩
  case round =>
    obtain ⟨k, n, p1, c1, out, rfl, rfl, hk, rfl, hn, HN, HO, HR, HG⟩ := hrel
    by_cases hlt : k < L.length
    · obtain ⟨b1, o1, rfl, hcc⟩ := (HX.out.kept HG.out).rd.cells (by omega)
      have hx : L[k]? = some L[k] := by simp [hlt]
      have hc1 := hcc k L[k] hx
      have HTK := Lib.hid (List.take_succ_eq_append_getElem hlt)
      have HLT := Lib.hid (Nat.succ_le_of_lt hlt)
      generalize L[k] = x at hc1 hx HTK
      obtain ⟨kk, T, vv, pp⟩ := x
      have q0 : wr.cell? ⟨b1, o1 + k * 4, none⟩ = some (.int .i64 kk) := by simpa using hc1 0 _ rfl
      have q1 : wr.cell? ⟨b1, o1 + k * 4 + 1, none⟩ = some (.string T) := hc1 1 _ rfl
      have q2 : wr.cell? ⟨b1, o1 + k * 4 + 2, none⟩ = some (.int .i16 vv) := hc1 2 _ rfl
      have q3 : wr.cell? ⟨b1, o1 + k * 4 + 3, none⟩ = some (.int .i64 pp) := hc1 3 _ rfl
      have HSZ := Lib.hid HG.out.sz
      clear hcc hc1 hx
      by_cases h5 : kk = 5
      · subst h5
        have HO2 : Hid (out ++ [((pp, cmpl T.data.toList) : Dg)] = ers (L.take (k + 1))) := Lib.hid (by rw [HTK.out, ers_snoc, if_pos rfl, ← HO.out])
        go_upto_region 6 with fail
        have hb : Blk wr.heap.size (tkc ⟨5, T, vv, pp⟩) 41 (wr.alloc (Obj.cells #[.int .i64 5, .string T, .int .i16 vv, .int .i64 pp] 41)) := Blk.new wr _ _
        have hgV : Grew wr (wr.alloc (Obj.cells #[.int .i64 5, .string T, .int .i16 vv, .int .i64 pp] 41)) := (Grew.refl _).alloc _
        generalize (wr.alloc (Obj.cells #[.int .i64 5, .string T, .int .i16 vv, .int .i64 pp] 41)) = V at hb hgV ⊢
        clear q0 q1 q2 q3
        generalize wr.heap.size = S at hb ⊢
        have HGV := Lib.hid hgV
        have q1 : Atv ⟨S, 1, none⟩ (.string T) V.drew := atv_of (Grew.refl _).drw (hb.cell 1)
        have q3 : Atv ⟨S, 3, none⟩ (.int .i64 pp) V.drew := atv_of (Grew.refl _).drw (hb.cell 3)
        clear hb hgV
        refine wp_grew_free 0 3 15 (.slice p1 n c1) 8 [some 15, some 16, some 17, some 18, some 19, some 20, some 21, some 22] [false, false, false, false, false, false, false, false, false, false, false, false, false, false, false, true, true, true, true, true, true, true, true, false, false, false] [fun v _ => v = .slice p1 n c1, fun v _ => v = .pointer (some ⟨S, 3, none⟩), fun v _ => v = .int .i64 (pp), fun v _ => v = .pointer (some ⟨S, 1, none⟩), fun v _ => v = .string T, fun v _ => v = .string (cmpl T.data.toList), fun v _ => v = .agg #[.int .i64 (pp), .string (cmpl T.data.toList)], fun v w => ∃ B, v = .slice (some ⟨B, 0, none⟩) 1 1 ∧ Rw 2 dgc w (some ⟨B, 0, none⟩) 1 [((pp, cmpl T.data.toList) : Dg)]] (by kernel_rfl) (by kernel_rfl) (by kernel_rfl) rfl (by kernel_rfl) (by kernel_rfl) (by kernel_rfl) (by kernel_rfl) (by decide) rfl (fun _ _ _ h => h) ?_ rfl ⟨?_, ?_, ?_, ?_, ?_, ?_, ?_, ?_, trivial⟩ ?_
        · exact ⟨fun _ _ _ _ h => h, fun _ _ _ _ h => h, fun _ _ _ _ h => h, fun _ _ _ _ h => h, fun _ _ _ _ h => h, fun _ _ _ _ h => h, fun _ _ _ _ h => h, fun _ _ _ hg ⟨B, h1, h2⟩ => ⟨B, h1, h2.kept hg⟩, trivial⟩
        · intro u w hR hd; exact runs_mv (ev rfl) ⟨Grew.refl _, rfl⟩
        · intro u w hR hd; exact rn_fld_41_3 (ev rfl) ⟨Grew.refl _, rfl⟩
        · intro u w hR hd; exact rn_ld_3 (ev (hd.1 rfl)) (q3.kept hR) ⟨Grew.refl _, rfl⟩
        · intro u w hR hd; exact rn_fld_41_1 (ev rfl) ⟨Grew.refl _, rfl⟩
        · intro u w hR hd; exact rn_ld_9 (ev (hd.1 rfl)) (q1.kept hR) ⟨Grew.refl _, rfl⟩
        · intro u w hR hd; exact runs_c1 enters_cm (ev (hd.1 rfl)) (callp (fun _ e => e) (cmpl_grew T _))
        · intro u w hR hd; exact rn_bld_51_01 (ev (hd.1 rfl)) (ev (hd.2.1 rfl)) ⟨Grew.refl _, rfl⟩
        · intro u w hR hd; exact runs_bsD (x := ((pp, cmpl T.data.toList) : Dg)) (ev (hd.1 rfl)) ⟨(Grew.refl _).alloc _, ⟨_, rfl, Rw.made encD _ [((pp, cmpl T.data.toList) : Dg)] 1 _ _ _ rfl rfl (by decide)⟩⟩
        · intro uu w3 hR3 hh
          obtain ⟨B, hv, hone⟩ := hh 7 (by decide)
          have hO3 := HR.out.kept (HGV.out.trans ((Grew.refl V).drw.trans hR3))
          have hG3 := HG.out.trans (HGV.out.trans ((Grew.refl V).drw.trans hR3))
          refine wpAny_one (i := 8) (some 23) (by kernel_rfl) rfl rfl rfl (runs_append_row encD w.heap.size 51 (dgv (0, ⟨#[]⟩)) 24 Tryd.underlying31 infoD rfl (.slice p1 n c1) out (ev (hh 0 (by decide))) hO3 (some ⟨B, 0, none⟩) 1 1 [((pp, cmpl T.data.toList) : Dg)] (ev hv) rfl hone (by have := HN.out; simp; omega) (by have := HN.out; simp; omega) hG3.sz fun p' c' w4 O4 G4 L4 => ?_)
          refine wpAny_one (i := 9) (some 3) (by kernel_rfl) rfl rfl rfl (runs_mva (ev rfl) ?_)
          refine wpAny_done (by kernel_rfl) ?_ _
          have HG4 : Hid (Grew w w4) := Lib.hid (Below.trans hG3 G4)
          have HR4 := Lib.hid O4
          have hln : (out ++ [((pp, cmpl T.data.toList) : Dg)]).length = n + 1 := by rw [List.length_append, HN.out]; rfl
          have hln2 : out.length + [((pp, cmpl T.data.toList) : Dg)].length = n + 1 := by rw [HN.out]; rfl
          rw [hln2] at HR4 ⊢
          have HLN := Lib.hid hln
          clear hh hv hone hO3 hG3 hR3 O4 G4 L4 q1 q3 hln hln2
          simp only [Act.put, mixA, mixL, cond_true, cond_false, List.setIfInBounds_toArray, List.set_cons_succ, List.set_cons_zero]
          go_wp2
          go_roundg (L.length - (k + 1))
          case measure => have := HLT.out; omega
          case rel => exact ⟨k + 1, n + 1, p', c', out ++ [((pp, cmpl T.data.toList) : Dg)], rfl, by go_num, HLT.out, rfl, by omega, HLN, HO2, HR4, HG4⟩
      · have HO2 : Hid (out = ers (L.take (k + 1))) := Lib.hid (by rw [HTK.out, ers_snoc, if_neg h5, ← HO.out])
        go_wp2
        all_goals first | (exfalso; omega) | skip
        go_roundg (L.length - (k + 1))
        case measure => have := HLT.out; omega
        case rel => exact ⟨k + 1, n, p1, c1, out, rfl, by go_num, HLT.out, rfl, by omega, HN, HO2, Lib.hid (HR.out.kept ((Grew.refl _).alloc _)), Lib.hid (HG.out.alloc _)⟩
    · obtain rfl : k = L.length := by omega
      rw [List.take_length] at HO
      go_wp2
      go_ret
      have hz : out = ers L := HO.out
      rw [← hz, HN.out]
      exact ⟨p1, c1, rfl, (HR.out.rd encD).2, HG.out⟩
end Go.Proofs.YtcajamgajchheaaDoor
