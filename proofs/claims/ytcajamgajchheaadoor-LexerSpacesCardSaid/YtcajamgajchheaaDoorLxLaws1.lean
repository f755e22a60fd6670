/-
  THE STATEMENTS LexerScan, LexerErrors, LexerRescan OF LAYER 15, WALKED.
-/
import Derived.Test.YtcajamgajchheaaDoorLxWakes
namespace Go.Proofs.YtcajamgajchheaaDoor
open Go Go.RowKit Go.IntWalk
set_option linter.unusedSimpArgs false
set_option linter.unusedVariables false
set_option maxRecDepth 8000
def tot (ts : List (List UInt8)) : Nat := (ts.map List.length).sum
theorem tot_cons (t : List UInt8) (ts : List (List UInt8)) : tot (t :: ts) = t.length + tot ts := by simp [tot]
theorem txs_tot : ∀ n xs, xs.length < n → tot (txs xs) ≤ xs.length ∧ (txs xs).length ≤ xs.length
  | 0, _, h => absurd h (Nat.not_lt_zero _)
  | n + 1, xs, h => by
    rw [txs_eq]
    split
    · exact ⟨Nat.zero_le _, Nat.zero_le _⟩
    · rename_i hne
      have h1 := rest_lt hne
      have h2 := txs_tot n _ (by omega : ((sk false xs).drop (fl (sk false xs))).length < n)
      have h3 := sk_le xs false
      have h4 := fl_pos hne
      have h5 := fl_le (sk false xs)
      rw [List.length_drop] at h2
      rw [tot_cons, List.length_cons, ft_len]
      omega
theorem mem_tot {t : List UInt8} : ∀ {ts : List (List UInt8)}, t ∈ ts → t.length ≤ tot ts
  | u :: ts, h => by
    rw [tot_cons]
    rcases List.mem_cons.1 h with rfl | h
    · omega
    · have := mem_tot h
      omega
theorem jn_le : ∀ (ts : List (List UInt8)) (la : List UInt8), (jn la ts).length ≤ tot ts + ts.length
  | [], _ => Nat.zero_le _
  | t :: ts, la => by
    rw [jn, tot_cons, List.length_cons]
    split
    · have := jn_le ts la
      omega
    · have := jn_le ts t
      rw [List.length_append, List.length_append]
      split <;> simp only [List.length_singleton, List.length_nil] <;> omega
theorem jn_snoc : ∀ (ts : List (List UInt8)) (la : List UInt8), jn la (ts ++ [[]]) = jn la ts
  | [], _ => rfl
  | t :: ts, la => by
    rw [List.cons_append, jn, jn, jn_snoc ts la, jn_snoc ts t]
theorem scan_txl (xs : List UInt8) : (scan xs).map txl = txs xs ++ [[]] := by
  rw [scan, List.map_append]
  have h := scn_text 0 xs
  have h1 : (scn 0 xs).map txl = txs xs := h
  rw [h1]
  rfl
theorem scan_sig (xs : List UInt8) : (scan xs).map sig = (txs xs).map sigT ++ [(0, ⟨#[]⟩, 0)] := by
  rw [scan, List.map_append, scn_txs]
  rfl
theorem scan_le (a : ByteArray) : (scan a.data.toList).length ≤ a.size + 1 := by
  have := (txs_tot _ a.data.toList (Nat.lt_succ_self _)).2
  have h : a.data.toList.length = a.size := rfl
  rw [scan_len]
  omega
theorem join_le (a : ByteArray) : (jn [] ((scan a.data.toList).map txl)).length ≤ 2 * a.size := by
  have h1 := txs_tot _ a.data.toList (Nat.lt_succ_self _)
  have h : a.data.toList.length = a.size := rfl
  rw [scan_txl, jn_snoc]
  have := jn_le (txs a.data.toList) []
  omega
theorem scan_txt (a : ByteArray) (t : Tk) (ht : t ∈ scan a.data.toList) : t.text.size ≤ a.size := by
  have h0 : txl t ∈ (scan a.data.toList).map txl := List.mem_map_of_mem ht
  rw [scan_txl] at h0
  have h1 := (txs_tot _ a.data.toList (Nat.lt_succ_self _)).1
  have h : a.data.toList.length = a.size := rfl
  have hz : (txl t).length = t.text.size := rfl
  rcases List.mem_append.1 h0 with h2 | h2
  · have := mem_tot h2
    omega
  · rw [List.mem_singleton.1 h2] at hz
    rw [← hz]
    exact Nat.zero_le _
theorem rescan_sig (a J : ByteArray) (h : J.data.toList = jn [] ((scan a.data.toList).map txl)) : (scan J.data.toList).map sig = (scan a.data.toList).map sig := by
  rw [scan_sig, scan_sig, h, scan_txl, jn_snoc, rescan_all]
set_option maxHeartbeats 8000000 in
theorem scan_law (a0 : ByteArray) (W : World) (he : Env W) : Calls Tryd.prog 3 #[.string a0] W fun e w' => e = .returned (.bool true) ∧ Grew W w' := by
  have HE := Lib.hid he
  have hnt := fun W => not_run true W
  rw [Bool.not_true] at hnt
  by_cases hbig : 800 < a0.size
  · clear he
    go_enter Tryd.func3, Tryd.ntmps3
    go_wp2_with (first
      | (go_at_call 10; (with_reducible refine (wakes_any _ HE.out).mono ?_); rintro e w1 ⟨rfl, g1⟩; have HG1 := Lib.hid g1; clear g1))
    all_goals first | (exfalso; omega) | skip
    go_ret
    exact ⟨rfl, HG1.out⟩
  · have HS := Lib.hid (fun W h => scanP_any a0 (by omega) W h)
    have HT := Lib.hid (fun W => scanR_any a0 (by omega) W)
    have hlen := scan_le a0
    generalize scan a0.data.toList = R at HS HT hlen
    clear he
    go_enter Tryd.func3, Tryd.ntmps3
    go_wp2_with (first
      | (go_at_call 10; (with_reducible refine (wakes_any _ HE.out).mono ?_); rintro e w1 ⟨rfl, g1⟩; have HG1 := Lib.hid g1; clear g1)
      | (go_at_call 13; (with_reducible refine (HS.out _ (HE.out.grew HG1.out)).mono ?_); rintro e w2 ⟨p2, c2, rfl, hr2, g2⟩; have HR2 := Lib.hid hr2; have HG2 := Lib.hid (HG1.out.trans g2); clear g2 hr2)
      | (go_at_call 12; (with_reducible refine (plain_any _ _ _ _ HR2.out (by omega)).mono ?_); rintro e w3 ⟨p3, c3, rfl, hr3, g3⟩; have HR3 := Lib.hid hr3; have HG3 := Lib.hid (HG2.out.trans g3); clear g3 hr3)
      | (go_at_call 14; (with_reducible refine (HT.out _).mono ?_); rintro e w4 ⟨p4, c4, rfl, hr4, g4⟩; have HR4 := Lib.hid hr4; have HG4 := Lib.hid (HG3.out.trans g4); have HR3 := Lib.hid (HR3.out.kept g4); clear g4 hr4)
      | (go_at_call 11; (with_reducible refine (same_any _ _ _ _ _ _ _ _ HR3.out HR4.out rfl (fun _ => rfl)).mono ?_); rintro e w5 ⟨rfl, g5⟩; have HG5 := Lib.hid (HG4.out.trans g5); clear g5))
    all_goals first | (exfalso; omega) | skip
    go_ret
    exact ⟨rfl, HG5.out⟩
set_option maxHeartbeats 8000000 in
theorem errors_law (a0 : Option Addr) (len0 cap0 : Nat) (x0 : List Tk) (W : World) (e0 : x0.length = len0) (w0 : Rw 4 tkc W a0 cap0 x0) (he : Env W) : Calls Tryd.prog 4 #[.slice a0 len0 cap0] W fun e w' => e = .returned (.bool true) ∧ Grew W w' := by
  have HE := Lib.hid he
  have hnt := fun W => not_run true W
  rw [Bool.not_true] at hnt
  have HX := Lib.hid w0
  have hcap := w0.cap
  have hmax := w0.max
  subst e0
  by_cases hbig : 100 < x0.length
  · clear he w0
    go_enter Tryd.func4, Tryd.ntmps4
    go_wp2_with (first
      | (go_at_call 10; (with_reducible refine (wakes_any _ HE.out).mono ?_); rintro e w1 ⟨rfl, g1⟩; have HG1 := Lib.hid g1; clear g1))
    all_goals first | (exfalso; omega) | skip
    go_ret
    exact ⟨rfl, HG1.out⟩
  · clear he w0
    go_enter Tryd.func4, Tryd.ntmps4
    go_wp2_with (first
      | (go_at_call 10; (with_reducible refine (wakes_any _ HE.out).mono ?_); rintro e w1 ⟨rfl, g1⟩; have HG1 := Lib.hid g1; clear g1)
      | (go_at_call 17; (with_reducible refine (own_any _ _ _ _ (HX.out.kept HG1.out) (by omega)).mono ?_); rintro e w2 ⟨p2, c2, rfl, hr2, g2⟩; have HR2 := Lib.hid hr2; have HG2 := Lib.hid (HG1.out.trans g2); clear g2 hr2)
      | (go_at_call 16; (with_reducible refine (errs_any _ _ _ _ HR2.out (by omega)).mono ?_); rintro e w3 ⟨p3, c3, rfl, hr3, g3⟩; have HR3 := Lib.hid hr3; have HG3 := Lib.hid (HG2.out.trans g3); clear g3 hr3)
      | (go_at_call 18; (with_reducible refine (rerrs_any _ _ _ _ (HX.out.kept HG3.out) (by omega)).mono ?_); rintro e w4 ⟨p4, c4, rfl, hr4, g4⟩; have HR4 := Lib.hid hr4; have HG4 := Lib.hid (HG3.out.trans g4); have HR3 := Lib.hid (HR3.out.kept g4); clear g4 hr4)
      | (go_at_call 15; (with_reducible refine (samed_any _ _ _ _ _ _ HR3.out HR4.out).mono ?_); rintro e w5 ⟨rfl, g5⟩; have HG5 := Lib.hid (HG4.out.trans g5); clear g5))
    all_goals first | (exfalso; omega) | skip
    go_ret
    exact ⟨rfl, HG5.out⟩
set_option maxHeartbeats 8000000 in
theorem rescan_law (a0 : ByteArray) (W : World) (he : Env W) : Calls Tryd.prog 6 #[.string a0] W fun e w' => e = .returned (.bool true) ∧ Grew W w' := by
  have HE := Lib.hid he
  have hnt := fun W => not_run true W
  rw [Bool.not_true] at hnt
  by_cases hbig : 400 < a0.size
  · clear he
    go_enter Tryd.func6, Tryd.ntmps6
    go_wp2_with (first
      | (go_at_call 10; (with_reducible refine (wakes_any _ HE.out).mono ?_); rintro e w1 ⟨rfl, g1⟩; have HG1 := Lib.hid g1; clear g1))
    all_goals first | (exfalso; omega) | skip
    go_ret
    exact ⟨rfl, HG1.out⟩
  · have HS := Lib.hid (fun W h => scanP_any a0 (by omega) W h)
    have hlen := scan_le a0
    have hjl := join_le a0
    obtain ⟨J, hJ⟩ : ∃ J : ByteArray, (⟨(jn [] ((scan a0.data.toList).map txl)).toArray⟩ : ByteArray) = J := ⟨_, rfl⟩
    have hJl : J.data.toList = jn [] ((scan a0.data.toList).map txl) := by rw [← hJ]
    have hJz : J.size ≤ 802 := by
      have h1 : J.data.toList.length = J.size := rfl
      rw [← h1, hJl]
      omega
    have HJ := Lib.hid (fun p c W (h : Rw 4 tkc W p c (scan a0.data.toList)) hE => joinP_any p c _ W h (by omega) (fun t ht => Nat.le_trans (scan_txt a0 t ht) (by omega)) hE)
    rw [hJ] at HJ
    have HS2 := Lib.hid (fun W h => scanP_any J (by omega) W h)
    have HSIG := Lib.hid (rescan_sig a0 J hJl)
    have hlen2 := scan_le J
    generalize scan J.data.toList = R2 at HS2 hlen2 HSIG
    generalize scan a0.data.toList = R at HS hlen HJ HSIG
    clear he hJ hJl hjl
    go_enter Tryd.func6, Tryd.ntmps6
    go_wp2_with (first
      | (go_at_call 10; (with_reducible refine (wakes_any _ HE.out).mono ?_); rintro e w1 ⟨rfl, g1⟩; have HG1 := Lib.hid g1; clear g1)
      | (go_at_call 13; (with_reducible refine (HS.out _ (HE.out.grew HG1.out)).mono ?_); rintro e w2 ⟨p2, c2, rfl, hr2, g2⟩; have HR2 := Lib.hid hr2; have HG2 := Lib.hid (HG1.out.trans g2); clear g2 hr2)
      | (go_at_call 19; (with_reducible refine (HJ.out _ _ _ HR2.out (HE.out.grew HG2.out)).mono ?_); rintro e w3 ⟨rfl, g3⟩; have HG3 := Lib.hid (HG2.out.trans g3); have HR2 := Lib.hid (HR2.out.kept g3); clear g3)
      | (go_at_call 13; (with_reducible refine (HS2.out _ (HE.out.grew HG3.out)).mono ?_); rintro e w4 ⟨p4, c4, rfl, hr4, g4⟩; have HR4 := Lib.hid hr4; have HG4 := Lib.hid (HG3.out.trans g4); have HR2 := Lib.hid (HR2.out.kept g4); clear g4 hr4)
      | (go_at_call 12; (with_reducible refine (plain_any _ _ _ _ HR4.out (by omega)).mono ?_); rintro e w5 ⟨p5, c5, rfl, hr5, g5⟩; have HR5 := Lib.hid hr5; have HG5 := Lib.hid (HG4.out.trans g5); have HR2 := Lib.hid (HR2.out.kept g5); clear g5 hr5)
      | (go_at_call 12; (with_reducible refine (plain_any _ _ _ _ HR2.out (by omega)).mono ?_); rintro e w6 ⟨p6, c6, rfl, hr6, g6⟩; have HR6 := Lib.hid hr6; have HG6 := Lib.hid (HG5.out.trans g6); have HR5 := Lib.hid (HR5.out.kept g6); clear g6 hr6)
      | (go_at_call 11; (with_reducible refine (same_any _ _ _ _ _ _ _ _ HR5.out HR6.out HSIG.out (fun h => by cases h)).mono ?_); rintro e w7 ⟨rfl, g7⟩; have HG7 := Lib.hid (HG6.out.trans g7); clear g7))
    all_goals first | (exfalso; omega) | skip
    go_ret
    exact ⟨rfl, HG7.out⟩
end Go.Proofs.YtcajamgajchheaaDoor
