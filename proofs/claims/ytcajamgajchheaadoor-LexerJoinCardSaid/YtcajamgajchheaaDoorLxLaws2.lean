/-
  THE STATEMENT LexerJoin OF LAYER 15, WALKED.
-/
import Derived.Test.YtcajamgajchheaaDoorLxLaws1
namespace Go.Proofs.YtcajamgajchheaaDoor
open Go Go.RowKit Go.IntWalk
set_option linter.unusedSimpArgs false
set_option linter.unusedVariables false
set_option maxRecDepth 8000
set_option maxHeartbeats 8000000 in
theorem join_law (a0 : Option Addr) (len0 cap0 : Nat) (x0 : List Tk) (W : World) (e0 : x0.length = len0) (w0 : Rw 4 tkc W a0 cap0 x0) (he : Env W) : Calls Tryd.prog 5 #[.slice a0 len0 cap0] W fun e w' => e = .returned (.bool true) ∧ Grew W w' := by
  have HE := Lib.hid he
  have hnt := fun W => not_run true W
  rw [Bool.not_true] at hnt
  have HX := Lib.hid w0
  have hcap := w0.cap
  have hmax := w0.max
  subst e0
  clear he w0
  by_cases hbig : 60 < x0.length
  · go_enter Tryd.func5, Tryd.ntmps5
    go_wp2_with (first
      | (go_at_call 10; (with_reducible refine (wakes_any _ HE.out).mono ?_); rintro e w1 ⟨rfl, g1⟩; have HG1 := Lib.hid g1; clear g1))
    all_goals first | (exfalso; omega) | skip
    go_ret
    exact ⟨rfl, HG1.out⟩
  · go_enter Tryd.func5, Tryd.ntmps5
    go_wp2_with (first
      | (go_at_call 10; (with_reducible refine (wakes_any _ HE.out).mono ?_); rintro e w1 ⟨rfl, g1⟩; have HG1 := Lib.hid g1; clear g1))
    all_goals first | (exfalso; omega) | skip
    go_loopg [4, 12] x0.length (fun gg bv iv wr => ∃ (k : Nat), iv = .int .i64 (k : Int) ∧ k ≤ x0.length ∧ gg = x0.length - k ∧ Hid (∀ t ∈ x0.take k, t.text.size ≤ 60) ∧ Hid (Grew W wr))
    case atStart => exact ⟨0, rfl, Nat.zero_le _, rfl, Lib.hid (fun t h => by simp at h), HG1⟩
    case round =>
      obtain ⟨k, rfl, hk, rfl, HT, HG⟩ := hrel
      by_cases hlt : k < x0.length
      · obtain ⟨b1, o1, rfl, hcc⟩ := (HX.out.kept HG.out).rd.cells (by omega)
        have hx : x0[k]? = some x0[k] := by simp [hlt]
        have hc1 := hcc k x0[k] hx
        have HTK := Lib.hid (List.take_succ_eq_append_getElem hlt)
        have HLT := Lib.hid (Nat.succ_le_of_lt hlt)
        generalize x0[k] = x at hc1 hx HTK
        obtain ⟨kk, T, vv, pp⟩ := x
        have q0 : wr.cell? ⟨b1, o1 + k * 4, none⟩ = some (.int .i64 kk) := by simpa using hc1 0 _ rfl
        have q1 : wr.cell? ⟨b1, o1 + k * 4 + 1, none⟩ = some (.string T) := hc1 1 _ rfl
        have q2 : wr.cell? ⟨b1, o1 + k * 4 + 2, none⟩ = some (.int .i16 vv) := hc1 2 _ rfl
        have q3 : wr.cell? ⟨b1, o1 + k * 4 + 3, none⟩ = some (.int .i64 pp) := hc1 3 _ rfl
        clear hcc hc1 hx
        by_cases hT : 60 < T.size
        · have hT' : (60 : Int) < (T.size : Int) := by omega
          go_wp2
          all_goals first | (exfalso; omega) | skip
          go_ret
          exact ⟨rfl, HG.out.alloc _⟩
        · have hT' : ¬ (60 : Int) < (T.size : Int) := by omega
          have HT2 : Hid (∀ t ∈ x0.take (k + 1), t.text.size ≤ 60) := Lib.hid (fun t ht => by
            rw [HTK.out] at ht
            rcases List.mem_append.1 ht with h | h
            · exact HT.out t h
            · rw [List.mem_singleton.1 h]
              show T.size ≤ 60
              omega)
          go_wp2
          all_goals first | (exfalso; omega) | skip
          go_roundg (x0.length - (k + 1))
          case measure => have := HLT.out; omega
          case rel => exact ⟨k + 1, by go_num, HLT.out, rfl, HT2, Lib.hid (HG.out.alloc _)⟩
      · obtain rfl : k = x0.length := by omega
        rw [List.take_length] at HT
        have HTX : Hid (∀ t ∈ x0, t.text.size ≤ 1000) := Lib.hid (fun t ht => Nat.le_trans (HT.out t ht) (by decide))
        have HG0 := HG
        go_wp2_with (first
          | (go_at_call 17; (with_reducible refine (own_any _ _ _ _ (HX.out.kept HG0.out) (by omega)).mono ?_); rintro e w2 ⟨p2, c2, rfl, hr2, g2⟩; have HR2 := Lib.hid hr2; have HG2 := Lib.hid (HG0.out.trans g2); clear g2 hr2)
          | (go_at_call 19; (with_reducible refine (joinP_any _ _ _ _ HR2.out (by omega) HTX.out (HE.out.grew HG2.out)).mono ?_); rintro e w3 ⟨rfl, g3⟩; have HG3 := Lib.hid (HG2.out.trans g3); clear g3)
          | (go_at_call 20; (with_reducible refine (joinR_any _ _ _ _ (HX.out.kept HG3.out) (by omega) HTX.out).mono ?_); rintro e w4 ⟨rfl, g4⟩; have HG4 := Lib.hid (HG3.out.trans g4); clear g4))
        all_goals first | (exfalso; omega) | skip
        go_ret
        exact ⟨rfl, HG4.out⟩
end Go.Proofs.YtcajamgajchheaaDoor
