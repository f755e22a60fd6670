/-
  THE STATEMENT BitsetComparisons OF LAYER 4 (bitset), WALKED.
-/
import Derived.Test.YtgkjkchhepmakaaDoorBitsetLaws
import Derived.Test.YtgkjkchhepmakaaDoorBitsetVals
namespace Go.Proofs.YtgkjkchhepmakaaDoor
open Go.RowKit Go.IntWalk

theorem LstI.equal {f g : Nat → Bool} {x y : List Int} (h : LstI f x) (h' : LstI g y) : x = y ↔ ∀ n, f n = g n := by
  refine ⟨fun e n => ?_, fun e => h.unique h' e⟩
  subst e
  obtain ⟨a, e1, h1⟩ := h
  obtain ⟨b, e2, h2⟩ := h'
  have hab : a = b := by
    have := e1.symm.trans e2
    exact (List.map_inj_right (fun _ _ e => by omega)).1 this
  subst hab
  rw [Bool.eq_iff_iff]
  exact (h1.mem n).symm.trans (h2.mem n)
theorem LstI.empty {f : Nat → Bool} {x : List Int} (h : LstI f x) : x.length = 0 ↔ ∀ n, f n = false := by
  rw [List.length_eq_zero_iff, h.equal LstI.nil]

theorem ofl_lt2 (l : List Int) (n : Nat) (h : ofl l n = true) : n < 65536 := ofl_lt l n h
set_option maxRecDepth 20000 in
set_option maxHeartbeats 4000000 in
theorem comparisons_walk (p : Option Addr) (n c : Nat) (l : List Int) (q : Option Addr) (m d : Nat) (l2 : List Int) (W : World) (hn : l.length = n) (hm : l2.length = m) (hl : Rd iv W p c l) (hl2 : Rd iv W q d l2) (hwf0 : ∀ x ∈ l, (Lit.int .i64 x).wf = true) (hwf1 : ∀ x ∈ l2, (Lit.int .i64 x).wf = true) (he : Env W) :
    Calls Tryd.prog 7 #[.slice p n c, .slice q m d] W fun e W' => e = .returned (.bool true) ∧ Below W.heap.size W W' := by
  subst hn hm
  have hwf := wf_in hwf0
  have hwf2 := wf_in hwf1
  clear hwf0 hwf1
  have HB := Below.refl W.heap.size W
  by_cases hsm : l.length ≤ 60
  · have hd : decide (l.length ≤ 60) = true := by simpa using hsm
    by_cases hsm2 : l2.length ≤ 60
    · have hd2 : decide (l2.length ≤ 60) = true := by simpa using hsm2
      have hAl := of_len l hsm
      have hBl := of_len l2 hsm2
      have hLA := LstI.of l
      have hLB := LstI.of l2
      have hrofA := Lib.hid (fun w h => rof_any p l.length c l w rfl (by omega) h)
      have hrofB := Lib.hid (fun w h => rof_any q l2.length d l2 w rfl (by omega) h)
      generalize l.foldl insZ [] = A at hrofA hAl hLA
      generalize l2.foldl insZ [] = B at hrofB hBl hLB
      obtain ⟨bE, hbE⟩ : ∃ b : Bool, b = true ↔ ∀ n, ofl l n = ofl l2 n := by
        by_cases h : ∀ n, ofl l n = ofl l2 n
        · exact ⟨true, by simpa using h⟩
        · exact ⟨false, by simpa using h⟩
      obtain ⟨bS, hbS⟩ : ∃ b : Bool, b = true ↔ ∀ n, ofl l n = true → ofl l2 n = true := by
        by_cases h : ∀ n, ofl l n = true → ofl l2 n = true
        · exact ⟨true, by simpa using h⟩
        · exact ⟨false, by simpa using h⟩
      have hm0 := Lib.hid (show (((subZ A B).length : Int) == 0) = bS by
        have h1 : (subZ A B).length = 0 ↔ bS = true := by
          rw [(hLA.minus hLB).empty, hbS]
          refine forall_congr' fun n => ?_
          cases ofl l n <;> cases ofl l2 n <;> simp
        rw [Bool.eq_iff_iff, ← h1]
        simp)
      have hRE := Lib.hid (show bE = true ↔ A = B by rw [hbE, hLA.equal hLB])
      replace hbE := Lib.hid hbE
      replace hbS := Lib.hid hbS
      clear hLA hLB
      go_enter Tryd.func7, Tryd.ntmps7
      go_wp2_with (first
        | (go_at_call 11; (with_reducible refine (awake_any _ he).mono ?_); rintro e w1 ⟨rfl, hb⟩; replace hl := Rd.kept hl hb; replace hl2 := Rd.kept hl2 hb; replace he := Env.kept he hb; replace HB := HB.trans (hb.mono HB.size); clear hb)
        | (go_at_call 12; (with_reducible refine (small_any _ _ _ _).mono ?_); rintro e _ ⟨rfl, rfl⟩)
        | (go_at_call 13; (with_reducible refine (of_any _ _ _ l _ rfl hl hwf).mono ?_); rintro e w2 ⟨r, k, j, rfl, -, hs, hb⟩; replace hl := Rd.kept hl hb; replace hl2 := Rd.kept hl2 hb; replace he := Env.kept he hb; replace HB := HB.trans (hb.mono HB.size); clear hb)
        | (go_at_call 13; (with_reducible refine (of_any _ _ _ l2 _ rfl hl2 hwf2).mono ?_); rintro e w3 ⟨r2, k2, j2, rfl, -, ht, hb⟩; replace hl := Rd.kept hl hb; replace hl2 := Rd.kept hl2 hb; replace he := Env.kept he hb; replace HB := HB.trans (hb.mono HB.size); replace hs := St.kept hs hb; clear hb)
        | (go_at_call 14; generalize hW : World.alloc _ _ = v3; have hb : Below w3.heap.size w3 v3 := (by rw [← hW]; exact (below2 _ _ _)); have hboxS : v3.cell? ⟨w3.heap.size, 0, none⟩ = some (.slice r k j) := (by rw [← hW]; exact cell_alloc (new_cell _ _ _) _); have hboxT : v3.cell? ⟨w3.heap.size + 1, 0, none⟩ = some (.slice r2 k2 j2) := (by rw [← hW]; exact new_at _ _ _ _ (by simp)); clear hW; replace hl := Rd.kept hl hb; replace hl2 := Rd.kept hl2 hb; replace he := Env.kept he hb; replace HB := HB.trans (hb.mono HB.size); replace hs := St.kept hs hb; replace ht := St.kept ht hb; clear hb; generalize w3.heap.size + 1 = T at hboxT ⊢; generalize w3.heap.size = S at hboxS ⊢; (with_reducible refine (hrofA.out _ hl).mono ?_); rintro e w4 ⟨r3, _, j3, rfl, rfl, hx, hb⟩; replace hl := Rd.kept hl hb; replace hl2 := Rd.kept hl2 hb; replace he := Env.kept he hb; replace HB := HB.trans (hb.mono HB.size); replace hs := St.kept hs hb; replace ht := St.kept ht hb; replace hboxT := (hb.cell (p := ⟨T, 0, none⟩) (World.block_lt_of_cell? _ _ hboxT)).trans hboxT; replace hboxS := (hb.cell (p := ⟨S, 0, none⟩) (World.block_lt_of_cell? _ _ hboxS)).trans hboxS; clear hb)
        | (go_at_call 14; (with_reducible refine (hrofB.out _ hl2).mono ?_); rintro e w5 ⟨r4, _, j4, rfl, rfl, hy, hb⟩; replace hl := Rd.kept hl hb; replace hl2 := Rd.kept hl2 hb; replace he := Env.kept he hb; replace HB := HB.trans (hb.mono HB.size); replace hs := St.kept hs hb; replace ht := St.kept ht hb; replace hboxT := (hb.cell (p := ⟨T, 0, none⟩) (World.block_lt_of_cell? _ _ hboxT)).trans hboxT; replace hboxS := (hb.cell (p := ⟨S, 0, none⟩) (World.block_lt_of_cell? _ _ hboxS)).trans hboxS; replace hx := Rd.kept hx hb; clear hb))
      have hS : BoxV (ofl l) S w5.drew := BoxV.kept ⟨_, _, _, hboxS, hs⟩ (Grew.drew _)
      have hT : BoxV (ofl l2) T w5.drew := BoxV.kept ⟨_, _, _, hboxT, ht⟩ (Grew.drew _)
      have hA := LstV.mono _ _ _ _ (Grew.drew w5) ⟨_, _, rfl, hx⟩
      have hB := LstV.mono _ _ _ _ (Grew.drew w5) ⟨_, _, rfl, hy⟩
      refine wp_posts [some 27, some 28, some 29, some 30, some 31, some 32, some 33, some 34, some 35, some 36, some 37, some 38, some 39, some 40, some 41, some 42, some 43, some 44, some 45, some 46, some 47, some 48, some 49, some 50, some 51, some 52, some 53, some 54, some 55, some 56, some 57, some 58, some 59, some 60, some 61, some 4] [false, false, false, false, true, false, false, false, false, false, false, false, false, false, false, false, false, false, false, false, false, false, false, false, false, false, false, true, true, true, true, true, true, true, true, true, true, true, true, true, true, true, true, true, true, true, true, true, true, true, true, true, true, true, true, true, true, true, true, true, true, true] [fun v w => SetV (ofl l) v w, fun v w => SetV (ofl l2) v w, fun v _ => v = .bool bE, fun v w => LstV A v w, fun v w => LstV B v w, fun v _ => v = .bool bE, fun v _ => v = .bool true, fun v _ => v = .bool true, fun v w => SetV (ofl l) v w, fun v w => SetV (ofl l2) v w, fun v _ => v = .bool bS, fun v w => LstV A v w, fun v w => LstV B v w, fun v w => LstV (subZ A B) v w, fun v _ => v = .int .i64 ((subZ A B).length : Int), fun v _ => v = .bool bS, fun v _ => v = .bool true, fun v _ => v = .bool true, fun v _ => v = .bool true, fun v w => SetV (ofl l) v w, fun v w => SetV (ofl l) v w, fun v _ => v = .bool true, fun v _ => v = .bool true, fun v _ => v = .bool true, fun v w => SetV (ofl l) v w, fun v w => SetV (ofl l) v w, fun v _ => v = .bool true, fun v _ => v = .bool true, fun v _ => v = .bool true, fun v w => SetV (ofl l) v w, fun v w => SetV (ofl l) v w, fun v w => SetV (ofl l2) v w, fun v w => SetV (fun x => ofl l x || ofl l2 x) v w, fun v _ => v = .bool true, fun v _ => v = .bool true, fun v _ => v = .bool true] (by kernel_rfl) (by kernel_rfl) rfl ?_ ⟨?_, ?_, ?_, ?_, ?_, ?_, ?_, ?_, ?_, ?_, ?_, ?_, ?_, ?_, ?_, ?_, ?_, ?_, ?_, ?_, ?_, ?_, ?_, ?_, ?_, ?_, ?_, ?_, ?_, ?_, ?_, ?_, ?_, ?_, ?_, ?_, trivial⟩ ?_
      · exact ⟨SetV.mono _, SetV.mono _, mono_eq _, LstV.mono _, LstV.mono _, mono_eq _, mono_eq _, mono_eq _, SetV.mono _, SetV.mono _, mono_eq _, LstV.mono _, LstV.mono _, LstV.mono _, mono_eq _, mono_eq _, mono_eq _, mono_eq _, mono_eq _, SetV.mono _, SetV.mono _, mono_eq _, mono_eq _, mono_eq _, SetV.mono _, SetV.mono _, mono_eq _, mono_eq _, mono_eq _, SetV.mono _, SetV.mono _, SetV.mono _, SetV.mono _, mono_eq _, mono_eq _, mono_eq _, trivial⟩
      · intro u w hR hd; exact runs_box rfl (hS.kept hR)
      · intro u w hR hd; exact runs_box rfl (hT.kept hR)
      · intro u w hR hd; exact runs_call2 enters_equal rfl rfl (equal_v hbE.out (hd.1 rfl) (hd.2.1 rfl))
      · intro u w hR hd; exact runs_move ⟨Grew.refl _, LstV.mono _ _ _ _ hR hA⟩
      · intro u w hR hd; exact runs_move ⟨Grew.refl _, LstV.mono _ _ _ _ hR hB⟩
      · intro u w hR hd; exact runs_call2 enters_requal rfl rfl (requal_v hRE.out (hd.1 rfl) (hd.2.1 rfl))
      · intro u w hR hd; exact runs_eqb (hd.1 rfl) (hd.2.1 rfl) ⟨Grew.refl _, congrArg Value.bool (beq_self_eq_true _)⟩
      · intro u w hR hd; exact runs_move ⟨Grew.refl _, (hd.1 rfl)⟩
      · intro u w hR hd; exact ⟨fun _ => runs_box rfl (hS.kept hR), fun hn => absurd (hd.1 rfl) hn⟩
      · intro u w hR hd; exact ⟨fun _ => runs_box rfl (hT.kept hR), fun hn => absurd (hd.1 rfl) hn⟩
      · intro u w hR hd; exact ⟨fun _ => runs_call2 enters_subset rfl rfl (subset_v hbS.out (hd.1 rfl) (hd.2.1 rfl)), fun hn => absurd (hd.2.2.1 rfl) hn⟩
      · intro u w hR hd; exact ⟨fun _ => runs_move ⟨Grew.refl _, LstV.mono _ _ _ _ hR hA⟩, fun hn => absurd (hd.1 rfl) hn⟩
      · intro u w hR hd; exact ⟨fun _ => runs_move ⟨Grew.refl _, LstV.mono _ _ _ _ hR hB⟩, fun hn => absurd (hd.1 rfl) hn⟩
      · intro u w hR hd; exact ⟨fun _ => runs_call2 enters_rminus rfl rfl (rminus_v hAl (hd.1 rfl) (hd.2.1 rfl)), fun hn => absurd (hd.2.2.2.1 rfl) hn⟩
      · intro u w hR hd; exact ⟨fun _ => runs_len (hd.1 rfl) ⟨Grew.refl _, rfl⟩, fun hn => absurd (hd.2.1 rfl) hn⟩
      · intro u w hR hd; exact ⟨fun _ => runs_eqk (hd.1 rfl) ⟨Grew.refl _, congrArg Value.bool hm0.out⟩, fun hn => absurd (hd.2.1 rfl) hn⟩
      · intro u w hR hd; exact ⟨fun _ => runs_eqb (hd.1 rfl) (hd.2.1 rfl) ⟨Grew.refl _, congrArg Value.bool (beq_self_eq_true _)⟩, fun hn => absurd (hd.2.2.1 rfl) hn⟩
      · intro u w hR hd; exact runs_and (hd.1 rfl) (fun _ => (hd.2.1 rfl)) ⟨Grew.refl _, rfl⟩
      · intro u w hR hd; exact runs_move ⟨Grew.refl _, (hd.1 rfl)⟩
      · intro u w hR hd; exact ⟨fun _ => runs_box rfl (hS.kept hR), fun hn => absurd (hd.1 rfl) hn⟩
      · intro u w hR hd; exact ⟨fun _ => runs_box rfl (hS.kept hR), fun hn => absurd (hd.1 rfl) hn⟩
      · intro u w hR hd; exact ⟨fun _ => runs_call2 enters_equal rfl rfl (equal_v (by simp) (hd.1 rfl) (hd.2.1 rfl)), fun hn => absurd (hd.2.2.1 rfl) hn⟩
      · intro u w hR hd; exact runs_and (hd.1 rfl) (fun _ => (hd.2.1 rfl)) ⟨Grew.refl _, rfl⟩
      · intro u w hR hd; exact runs_move ⟨Grew.refl _, (hd.1 rfl)⟩
      · intro u w hR hd; exact ⟨fun _ => runs_box rfl (hS.kept hR), fun hn => absurd (hd.1 rfl) hn⟩
      · intro u w hR hd; exact ⟨fun _ => runs_box rfl (hS.kept hR), fun hn => absurd (hd.1 rfl) hn⟩
      · intro u w hR hd; exact ⟨fun _ => runs_call2 enters_subset rfl rfl (subset_v (by simp) (hd.1 rfl) (hd.2.1 rfl)), fun hn => absurd (hd.2.2.1 rfl) hn⟩
      · intro u w hR hd; exact runs_and (hd.1 rfl) (fun _ => (hd.2.1 rfl)) ⟨Grew.refl _, rfl⟩
      · intro u w hR hd; exact runs_move ⟨Grew.refl _, (hd.1 rfl)⟩
      · intro u w hR hd; exact ⟨fun _ => runs_box rfl (hS.kept hR), fun hn => absurd (hd.1 rfl) hn⟩
      · intro u w hR hd; exact ⟨fun _ => runs_box rfl (hS.kept hR), fun hn => absurd (hd.1 rfl) hn⟩
      · intro u w hR hd; exact ⟨fun _ => runs_box rfl (hT.kept hR), fun hn => absurd (hd.1 rfl) hn⟩
      · intro u w hR hd; exact ⟨fun _ => runs_call2 enters_union rfl rfl (union_v (hd.1 rfl) (hd.2.1 rfl)), fun hn => absurd (hd.2.2.1 rfl) hn⟩
      · intro u w hR hd; exact ⟨fun _ => runs_call2 enters_subset rfl rfl (subset_v (by simp +contextual) (hd.1 rfl) (hd.2.1 rfl)), fun hn => absurd (hd.2.2.2.1 rfl) hn⟩
      · intro u w hR hd; exact runs_and (hd.1 rfl) (fun _ => (hd.2.1 rfl)) ⟨Grew.refl _, rfl⟩
      · intro u w hR hd; exact runs_assign ⟨Grew.refl _, (hd.1 rfl)⟩
      · intro u w hR h
        have he : u 4 = .bool true := h 35 (by decide)
        simp only [mixA, mixL, cond_true, cond_false]
        rw [he]
        have HB := Below.trans HB (Below.mono (Below.trans (Grew.drew w5) (Below.mono hR (Grew.drew w5).size)) HB.size)
        go_wp2
        go_ret
        exact ⟨rfl, HB⟩
    · have hd2 : decide (l2.length ≤ 60) = false := by simpa using hsm2
      go_enter Tryd.func7, Tryd.ntmps7
      go_wp2_with (first
        | (go_at_call 11; (with_reducible refine (awake_any _ he).mono ?_); rintro e w1 ⟨rfl, hb⟩; replace he := Env.kept he hb; replace HB := HB.trans (hb.mono HB.size); clear hb)
        | (go_at_call 12; (with_reducible refine (small_any _ _ _ _).mono ?_); rintro e _ ⟨rfl, rfl⟩))
      go_ret
      exact ⟨rfl, HB⟩
  · have hd : decide (l.length ≤ 60) = false := by simpa using hsm
    go_enter Tryd.func7, Tryd.ntmps7
    go_wp2_with (first
      | (go_at_call 11; (with_reducible refine (awake_any _ he).mono ?_); rintro e w1 ⟨rfl, hb⟩; replace he := Env.kept he hb; replace HB := HB.trans (hb.mono HB.size); clear hb)
      | (go_at_call 12; (with_reducible refine (small_any _ _ _ _).mono ?_); rintro e _ ⟨rfl, rfl⟩))
    go_ret
    exact ⟨rfl, HB⟩
end Go.Proofs.YtgkjkchhepmakaaDoor
