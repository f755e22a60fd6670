/-
  THE STATEMENT BitsetAlgebra OF LAYER 4 (bitset), WALKED.
-/
import Derived.Test.YtgkjkchhepmakaaDoorBitsetLaws
import Derived.Test.YtgkjkchhepmakaaDoorBitsetVals
namespace Go.Proofs.YtgkjkchhepmakaaDoor
open Go.RowKit Go.IntWalk

theorem lst_of (l : List Int) : ∃ x, Lst (ofl l) x := let ⟨x, _, h⟩ := LstI.of l; ⟨x, h⟩
theorem filter_split (x : List Nat) (g : Nat → Bool) : (x.filter fun n => !g n).length + (x.filter g).length = x.length := by
  induction x with
  | nil => rfl
  | cons a x ih =>
    simp only [List.filter_cons]
    cases g a <;> simp <;> omega
theorem alg0 (f g h : Nat → Bool) : true = true ↔ ∀ x, (f x && !(g x || h x)) = ((f x && !g x) && (f x && !h x)) := ⟨fun _ x => by cases f x <;> cases g x <;> cases h x <;> rfl, fun _ => rfl⟩
theorem alg1 (f g h : Nat → Bool) : true = true ↔ ∀ x, (f x && (g x || h x)) = ((f x && g x) || (f x && h x)) := ⟨fun _ x => by cases f x <;> cases g x <;> cases h x <;> rfl, fun _ => rfl⟩
theorem alg2 (f g h : Nat → Bool) : true = true ↔ ∀ x, (f x || g x) = (g x || f x) := ⟨fun _ x => by cases f x <;> cases g x <;> cases h x <;> rfl, fun _ => rfl⟩

set_option maxRecDepth 20000 in
set_option maxHeartbeats 4000000 in
theorem algebra_walk (p : Option Addr) (n c : Nat) (l : List Int) (q : Option Addr) (m d : Nat) (l2 : List Int) (s : Option Addr) (o e : Nat) (l3 : List Int) (W : World) (hn : l.length = n) (hm : l2.length = m) (ho : l3.length = o) (hl : Rd iv W p c l) (hl2 : Rd iv W q d l2) (hl3 : Rd iv W s e l3) (hwf0 : ∀ x ∈ l, (Lit.int .i64 x).wf = true) (hwf1 : ∀ x ∈ l2, (Lit.int .i64 x).wf = true) (hwf2 : ∀ x ∈ l3, (Lit.int .i64 x).wf = true) (he : Env W) :
    Calls Tryd.prog 10 #[.slice p n c, .slice q m d, .slice s o e] W fun e W' => e = .returned (.bool true) ∧ Below W.heap.size W W' := by
  subst hn hm ho
  have hwf := wf_in hwf0
  replace hwf3 := wf_in hwf2
  have hwf2 := wf_in hwf1
  clear hwf0 hwf1
  have HB := Below.refl W.heap.size W
  by_cases hsm1 : l.length ≤ 60
  · by_cases hsm2 : l2.length ≤ 60
    · by_cases hsm3 : l3.length ≤ 60
      · have hd : decide (l.length ≤ 60) = true := by simpa using hsm1
        have hd2 : decide (l2.length ≤ 60) = true := by simpa using hsm2
        have hd3 : decide (l3.length ≤ 60) = true := by simpa using hsm3
        obtain ⟨x0, hX⟩ := lst_of l
        obtain ⟨x1, hx1⟩ : ∃ x1, x0.filter (fun n => !ofl l2 n) = x1 := ⟨_, rfl⟩
        obtain ⟨x2, hx2⟩ : ∃ x2, x0.filter (fun n => ofl l2 n) = x2 := ⟨_, rfl⟩
        have hX1 : Lst (fun x => (ofl l x && !ofl l2 x)) x1 := hx1 ▸ hX.filter
        have hX2 : Lst (fun x => (ofl l x && ofl l2 x)) x2 := hx2 ▸ hX.filter
        have hsp := filter_split x0 (ofl l2)
        rw [hx1, hx2] at hsp
        have h65 := hX.small (fun n h => ofl_lt l n h)
        have hsum := Lib.hid (show (((x1.length : Int) + (x2.length : Int)) == (x0.length : Int)) = true by rw [beq_iff_eq]; omega)
        obtain ⟨bS, hbS⟩ : ∃ b : Bool, b = true ↔ ∀ n, ofl l n = true → ofl l2 n = true := by
          by_cases h : ∀ n, ofl l n = true → ofl l2 n = true
          · exact ⟨true, by simpa using h⟩
          · exact ⟨false, by simpa using h⟩
        have hm0 := Lib.hid (show ((x1.length : Int) == 0) = bS by
          have h1 : x1.length = 0 ↔ bS = true := by
            rw [hbS, List.length_eq_zero_iff, List.eq_nil_iff_forall_not_mem]
            refine forall_congr' fun n => ?_
            rw [hX1.mem n]
            cases ofl l n <;> cases ofl l2 n <;> simp
          rw [Bool.eq_iff_iff, ← h1]
          simp)
        replace hbS := Lib.hid hbS
        replace hsp := Lib.hid hsp
        have hle1 : x1.length ≤ 65536 := by have := hsp.out; omega
        have hle2 : x2.length ≤ 65536 := by have := hsp.out; omega
        clear hx1 hx2
        go_enter Tryd.func10, Tryd.ntmps10
        go_wp2_with (first
          | (go_at_call 11; (with_reducible refine (awake_any _ he).mono ?_); rintro e w1 ⟨rfl, hb⟩; replace hl := Rd.kept hl hb; replace hl2 := Rd.kept hl2 hb; replace hl3 := Rd.kept hl3 hb; replace he := Env.kept he hb; replace HB := HB.trans (hb.mono HB.size); clear hb)
          | (go_at_call 12; (with_reducible refine (small_any _ _ _ _).mono ?_); rintro e _ ⟨rfl, rfl⟩)
          | (go_at_call 13; (with_reducible refine (of_any _ _ _ l _ rfl hl hwf).mono ?_); rintro e w2 ⟨r, k, j, rfl, -, hs, hb⟩; replace hl := Rd.kept hl hb; replace hl2 := Rd.kept hl2 hb; replace hl3 := Rd.kept hl3 hb; replace he := Env.kept he hb; replace HB := HB.trans (hb.mono HB.size); clear hb)
          | (go_at_call 13; (with_reducible refine (of_any _ _ _ l2 _ rfl hl2 hwf2).mono ?_); rintro e w3 ⟨r2, k2, j2, rfl, -, ht, hb⟩; replace hl := Rd.kept hl hb; replace hl2 := Rd.kept hl2 hb; replace hl3 := Rd.kept hl3 hb; replace he := Env.kept he hb; replace HB := HB.trans (hb.mono HB.size); replace hs := St.kept hs hb; clear hb)
          | (go_at_call 13; (with_reducible refine (of_any _ _ _ l3 _ rfl hl3 hwf3).mono ?_); rintro e w4 ⟨r3, k3, j3, rfl, -, hu, hb⟩; replace hl := Rd.kept hl hb; replace hl2 := Rd.kept hl2 hb; replace hl3 := Rd.kept hl3 hb; replace he := Env.kept he hb; replace HB := HB.trans (hb.mono HB.size); replace hs := St.kept hs hb; replace ht := St.kept ht hb; clear hb))
        generalize hW : World.alloc _ _ = V
        have hb : Below w4.heap.size w4 V := (by rw [← hW]; exact (below3 _ _ _ _))
        have hb1 : V.cell? ⟨w4.heap.size, 0, none⟩ = some (.slice r k j) := (by rw [← hW]; exact cell_alloc (cell_alloc (new_cell _ _ _) _) _)
        have hb2 : V.cell? ⟨w4.heap.size + 1, 0, none⟩ = some (.slice r2 k2 j2) := (by rw [← hW]; exact cell_alloc (new_at _ _ _ _ (by simp)) _)
        have hb3 : V.cell? ⟨w4.heap.size + 1 + 1, 0, none⟩ = some (.slice r3 k3 j3) := (by rw [← hW]; exact new_at _ _ _ _ (by simp))
        clear hW
        replace HB := HB.trans (hb.mono HB.size)
        have hS : BoxV (fun x => ofl l x) w4.heap.size V.drew := BoxV.kept ⟨_, _, _, hb1, hs.kept hb⟩ (Grew.drew _)
        have hT : BoxV (fun x => ofl l2 x) (w4.heap.size + 1) V.drew := BoxV.kept ⟨_, _, _, hb2, ht.kept hb⟩ (Grew.drew _)
        have hU : BoxV (fun x => ofl l3 x) (w4.heap.size + 1 + 1) V.drew := BoxV.kept ⟨_, _, _, hb3, hu.kept hb⟩ (Grew.drew _)
        refine wp_posts [some 31, some 32, some 33, some 34, some 35, some 36, some 37, some 38, some 39, some 40, some 41, some 42, some 43, some 44, some 45, some 46, some 47, some 48, some 49, some 50, some 51, some 52, some 53, some 54, some 55, some 56, some 57, some 58, some 59, some 60, some 61, some 62, some 63, some 64, some 65, some 66, some 67, some 68, some 69, some 70, some 71, some 72, some 73, some 74, some 75, some 76, some 77, some 78, some 79, some 80, some 81, some 82, some 83, some 84, some 85, some 86, some 87, some 88, some 89, some 90, some 91, some 92, some 6] [false, false, false, false, false, false, true, false, false, false, false, false, false, false, false, false, false, false, false, false, false, false, false, false, false, false, false, false, false, false, false, true, true, true, true, true, true, true, true, true, true, true, true, true, true, true, true, true, true, true, true, true, true, true, true, true, true, true, true, true, true, true, true, true, true, true, true, true, true, true, true, true, true, true, true, true, true, true, true, true, true, true, true, true, true, true, true, true, true, true, true, true, true] [fun v w => SetV (fun x => ofl l x) v w, fun v w => SetV (fun x => ofl l2 x) v w, fun v w => SetV (fun x => ofl l3 x) v w, fun v w => SetV (fun x => (ofl l2 x || ofl l3 x)) v w, fun v w => SetV (fun x => (ofl l x && !(ofl l2 x || ofl l3 x))) v w, fun v w => SetV (fun x => ofl l x) v w, fun v w => SetV (fun x => ofl l2 x) v w, fun v w => SetV (fun x => (ofl l x && !ofl l2 x)) v w, fun v w => SetV (fun x => ofl l x) v w, fun v w => SetV (fun x => ofl l3 x) v w, fun v w => SetV (fun x => (ofl l x && !ofl l3 x)) v w, fun v w => SetV (fun x => ((ofl l x && !ofl l2 x) && (ofl l x && !ofl l3 x))) v w, fun v _ => v = .bool true, fun v _ => v = .bool true, fun v w => SetV (fun x => ofl l x) v w, fun v w => SetV (fun x => ofl l2 x) v w, fun v w => SetV (fun x => ofl l3 x) v w, fun v w => SetV (fun x => (ofl l2 x || ofl l3 x)) v w, fun v w => SetV (fun x => (ofl l x && (ofl l2 x || ofl l3 x))) v w, fun v w => SetV (fun x => ofl l x) v w, fun v w => SetV (fun x => ofl l2 x) v w, fun v w => SetV (fun x => (ofl l x && ofl l2 x)) v w, fun v w => SetV (fun x => ofl l x) v w, fun v w => SetV (fun x => ofl l3 x) v w, fun v w => SetV (fun x => (ofl l x && ofl l3 x)) v w, fun v w => SetV (fun x => ((ofl l x && ofl l2 x) || (ofl l x && ofl l3 x))) v w, fun v _ => v = .bool true, fun v _ => v = .bool true, fun v _ => v = .bool true, fun v w => SetV (fun x => ofl l x) v w, fun v w => SetV (fun x => ofl l2 x) v w, fun v w => SetV (fun x => (ofl l x && !ofl l2 x)) v w, fun v _ => v = .int .i64 (x1.length : Int), fun v w => SetV (fun x => ofl l x) v w, fun v w => SetV (fun x => ofl l2 x) v w, fun v w => SetV (fun x => (ofl l x && ofl l2 x)) v w, fun v _ => v = .int .i64 (x2.length : Int), fun v _ => v = .int .i64 ((x1.length : Int) + (x2.length : Int)), fun v w => SetV (fun x => ofl l x) v w, fun v _ => v = .int .i64 (x0.length : Int), fun v _ => v = .bool true, fun v _ => v = .bool true, fun v _ => v = .bool true, fun v w => SetV (fun x => ofl l x) v w, fun v w => SetV (fun x => ofl l2 x) v w, fun v _ => v = .bool bS, fun v w => SetV (fun x => ofl l x) v w, fun v w => SetV (fun x => ofl l2 x) v w, fun v w => SetV (fun x => (ofl l x && !ofl l2 x)) v w, fun v _ => v = .int .i64 (x1.length : Int), fun v _ => v = .bool bS, fun v _ => v = .bool true, fun v _ => v = .bool true, fun v _ => v = .bool true, fun v w => SetV (fun x => ofl l x) v w, fun v w => SetV (fun x => ofl l2 x) v w, fun v w => SetV (fun x => (ofl l x || ofl l2 x)) v w, fun v w => SetV (fun x => ofl l2 x) v w, fun v w => SetV (fun x => ofl l x) v w, fun v w => SetV (fun x => (ofl l2 x || ofl l x)) v w, fun v _ => v = .bool true, fun v _ => v = .bool true, fun v _ => v = .bool true] (by kernel_rfl) (by kernel_rfl) rfl ?_ ⟨?_, ?_, ?_, ?_, ?_, ?_, ?_, ?_, ?_, ?_, ?_, ?_, ?_, ?_, ?_, ?_, ?_, ?_, ?_, ?_, ?_, ?_, ?_, ?_, ?_, ?_, ?_, ?_, ?_, ?_, ?_, ?_, ?_, ?_, ?_, ?_, ?_, ?_, ?_, ?_, ?_, ?_, ?_, ?_, ?_, ?_, ?_, ?_, ?_, ?_, ?_, ?_, ?_, ?_, ?_, ?_, ?_, ?_, ?_, ?_, ?_, ?_, ?_, trivial⟩ ?_
        · exact ⟨SetV.mono _, SetV.mono _, SetV.mono _, SetV.mono _, SetV.mono _, SetV.mono _, SetV.mono _, SetV.mono _, SetV.mono _, SetV.mono _, SetV.mono _, SetV.mono _, mono_eq _, mono_eq _, SetV.mono _, SetV.mono _, SetV.mono _, SetV.mono _, SetV.mono _, SetV.mono _, SetV.mono _, SetV.mono _, SetV.mono _, SetV.mono _, SetV.mono _, SetV.mono _, mono_eq _, mono_eq _, mono_eq _, SetV.mono _, SetV.mono _, SetV.mono _, mono_eq _, SetV.mono _, SetV.mono _, SetV.mono _, mono_eq _, mono_eq _, SetV.mono _, mono_eq _, mono_eq _, mono_eq _, mono_eq _, SetV.mono _, SetV.mono _, mono_eq _, SetV.mono _, SetV.mono _, SetV.mono _, mono_eq _, mono_eq _, mono_eq _, mono_eq _, mono_eq _, SetV.mono _, SetV.mono _, SetV.mono _, SetV.mono _, SetV.mono _, SetV.mono _, mono_eq _, mono_eq _, mono_eq _, trivial⟩
        · intro u w hR hd; exact runs_box rfl (hS.kept hR)
        · intro u w hR hd; exact runs_box rfl (hT.kept hR)
        · intro u w hR hd; exact runs_box rfl (hU.kept hR)
        · intro u w hR hd; exact runs_call2 enters_union rfl rfl (union_v (hd.1 rfl) (hd.2.1 rfl))
        · intro u w hR hd; exact runs_call2 enters_minus rfl rfl (minus_v (hd.1 rfl) (hd.2.1 rfl))
        · intro u w hR hd; exact runs_box rfl (hS.kept hR)
        · intro u w hR hd; exact runs_box rfl (hT.kept hR)
        · intro u w hR hd; exact runs_call2 enters_minus rfl rfl (minus_v (hd.1 rfl) (hd.2.1 rfl))
        · intro u w hR hd; exact runs_box rfl (hS.kept hR)
        · intro u w hR hd; exact runs_box rfl (hU.kept hR)
        · intro u w hR hd; exact runs_call2 enters_minus rfl rfl (minus_v (hd.1 rfl) (hd.2.1 rfl))
        · intro u w hR hd; exact runs_call2 enters_inter rfl rfl (inter_v (hd.1 rfl) (hd.2.1 rfl))
        · intro u w hR hd; exact runs_call2 enters_equal rfl rfl (equal_v (alg0 (ofl l) (ofl l2) (ofl l3)) (hd.1 rfl) (hd.2.1 rfl))
        · intro u w hR hd; exact runs_move ⟨Grew.refl _, (hd.1 rfl)⟩
        · intro u w hR hd; exact ⟨fun _ => runs_box rfl (hS.kept hR), fun hn => absurd (hd.1 rfl) hn⟩
        · intro u w hR hd; exact ⟨fun _ => runs_box rfl (hT.kept hR), fun hn => absurd (hd.1 rfl) hn⟩
        · intro u w hR hd; exact ⟨fun _ => runs_box rfl (hU.kept hR), fun hn => absurd (hd.1 rfl) hn⟩
        · intro u w hR hd; exact ⟨fun _ => runs_call2 enters_union rfl rfl (union_v (hd.1 rfl) (hd.2.1 rfl)), fun hn => absurd (hd.2.2.1 rfl) hn⟩
        · intro u w hR hd; exact ⟨fun _ => runs_call2 enters_inter rfl rfl (inter_v (hd.1 rfl) (hd.2.1 rfl)), fun hn => absurd (hd.2.2.2.1 rfl) hn⟩
        · intro u w hR hd; exact ⟨fun _ => runs_box rfl (hS.kept hR), fun hn => absurd (hd.1 rfl) hn⟩
        · intro u w hR hd; exact ⟨fun _ => runs_box rfl (hT.kept hR), fun hn => absurd (hd.1 rfl) hn⟩
        · intro u w hR hd; exact ⟨fun _ => runs_call2 enters_inter rfl rfl (inter_v (hd.1 rfl) (hd.2.1 rfl)), fun hn => absurd (hd.2.2.2.1 rfl) hn⟩
        · intro u w hR hd; exact ⟨fun _ => runs_box rfl (hS.kept hR), fun hn => absurd (hd.1 rfl) hn⟩
        · intro u w hR hd; exact ⟨fun _ => runs_box rfl (hU.kept hR), fun hn => absurd (hd.1 rfl) hn⟩
        · intro u w hR hd; exact ⟨fun _ => runs_call2 enters_inter rfl rfl (inter_v (hd.1 rfl) (hd.2.1 rfl)), fun hn => absurd (hd.2.2.2.1 rfl) hn⟩
        · intro u w hR hd; exact ⟨fun _ => runs_call2 enters_union rfl rfl (union_v (hd.1 rfl) (hd.2.1 rfl)), fun hn => absurd (hd.2.2.2.1 rfl) hn⟩
        · intro u w hR hd; exact ⟨fun _ => runs_call2 enters_equal rfl rfl (equal_v (alg1 (ofl l) (ofl l2) (ofl l3)) (hd.1 rfl) (hd.2.1 rfl)), fun hn => absurd (hd.2.2.2.1 rfl) hn⟩
        · intro u w hR hd; exact runs_and (hd.1 rfl) (fun _ => (hd.2.1 rfl)) ⟨Grew.refl _, rfl⟩
        · intro u w hR hd; exact runs_move ⟨Grew.refl _, (hd.1 rfl)⟩
        · intro u w hR hd; exact ⟨fun _ => runs_box rfl (hS.kept hR), fun hn => absurd (hd.1 rfl) hn⟩
        · intro u w hR hd; exact ⟨fun _ => runs_box rfl (hT.kept hR), fun hn => absurd (hd.1 rfl) hn⟩
        · intro u w hR hd; exact ⟨fun _ => runs_call2 enters_minus rfl rfl (minus_v (hd.1 rfl) (hd.2.1 rfl)), fun hn => absurd (hd.2.2.1 rfl) hn⟩
        · intro u w hR hd; exact ⟨fun _ => runs_call1 enters_len rfl (len_v hX1 (hd.1 rfl)), fun hn => absurd (hd.2.2.1 rfl) hn⟩
        · intro u w hR hd; exact ⟨fun _ => runs_box rfl (hS.kept hR), fun hn => absurd (hd.1 rfl) hn⟩
        · intro u w hR hd; exact ⟨fun _ => runs_box rfl (hT.kept hR), fun hn => absurd (hd.1 rfl) hn⟩
        · intro u w hR hd; exact ⟨fun _ => runs_call2 enters_inter rfl rfl (inter_v (hd.1 rfl) (hd.2.1 rfl)), fun hn => absurd (hd.2.2.2.1 rfl) hn⟩
        · intro u w hR hd; exact ⟨fun _ => runs_call1 enters_len rfl (len_v hX2 (hd.1 rfl)), fun hn => absurd (hd.2.2.1 rfl) hn⟩
        · intro u w hR hd; exact ⟨fun _ => runs_add (hd.1 rfl) (hd.2.1 rfl) (by omega) ⟨Grew.refl _, rfl⟩, fun hn => absurd (hd.2.2.1 rfl) hn⟩
        · intro u w hR hd; exact ⟨fun _ => runs_box rfl (hS.kept hR), fun hn => absurd (hd.1 rfl) hn⟩
        · intro u w hR hd; exact ⟨fun _ => runs_call1 enters_len rfl (len_v hX (hd.1 rfl)), fun hn => absurd (hd.2.2.1 rfl) hn⟩
        · intro u w hR hd; exact ⟨fun _ => runs_eqi (hd.1 rfl) (hd.2.1 rfl) ⟨Grew.refl _, congrArg Value.bool hsum.out⟩, fun hn => absurd (hd.2.2.1 rfl) hn⟩
        · intro u w hR hd; exact runs_and (hd.1 rfl) (fun _ => (hd.2.1 rfl)) ⟨Grew.refl _, rfl⟩
        · intro u w hR hd; exact runs_move ⟨Grew.refl _, (hd.1 rfl)⟩
        · intro u w hR hd; exact ⟨fun _ => runs_box rfl (hS.kept hR), fun hn => absurd (hd.1 rfl) hn⟩
        · intro u w hR hd; exact ⟨fun _ => runs_box rfl (hT.kept hR), fun hn => absurd (hd.1 rfl) hn⟩
        · intro u w hR hd; exact ⟨fun _ => runs_call2 enters_subset rfl rfl (subset_v hbS.out (hd.1 rfl) (hd.2.1 rfl)), fun hn => absurd (hd.2.2.1 rfl) hn⟩
        · intro u w hR hd; exact ⟨fun _ => runs_box rfl (hS.kept hR), fun hn => absurd (hd.1 rfl) hn⟩
        · intro u w hR hd; exact ⟨fun _ => runs_box rfl (hT.kept hR), fun hn => absurd (hd.1 rfl) hn⟩
        · intro u w hR hd; exact ⟨fun _ => runs_call2 enters_minus rfl rfl (minus_v (hd.1 rfl) (hd.2.1 rfl)), fun hn => absurd (hd.2.2.2.1 rfl) hn⟩
        · intro u w hR hd; exact ⟨fun _ => runs_call1 enters_len rfl (len_v hX1 (hd.1 rfl)), fun hn => absurd (hd.2.2.1 rfl) hn⟩
        · intro u w hR hd; exact ⟨fun _ => runs_eqk (hd.1 rfl) ⟨Grew.refl _, congrArg Value.bool hm0.out⟩, fun hn => absurd (hd.2.1 rfl) hn⟩
        · intro u w hR hd; exact ⟨fun _ => runs_eqb (hd.1 rfl) (hd.2.1 rfl) ⟨Grew.refl _, congrArg Value.bool (beq_self_eq_true _)⟩, fun hn => absurd (hd.2.2.1 rfl) hn⟩
        · intro u w hR hd; exact runs_and (hd.1 rfl) (fun _ => (hd.2.1 rfl)) ⟨Grew.refl _, rfl⟩
        · intro u w hR hd; exact runs_move ⟨Grew.refl _, (hd.1 rfl)⟩
        · intro u w hR hd; exact ⟨fun _ => runs_box rfl (hS.kept hR), fun hn => absurd (hd.1 rfl) hn⟩
        · intro u w hR hd; exact ⟨fun _ => runs_box rfl (hT.kept hR), fun hn => absurd (hd.1 rfl) hn⟩
        · intro u w hR hd; exact ⟨fun _ => runs_call2 enters_union rfl rfl (union_v (hd.1 rfl) (hd.2.1 rfl)), fun hn => absurd (hd.2.2.1 rfl) hn⟩
        · intro u w hR hd; exact ⟨fun _ => runs_box rfl (hT.kept hR), fun hn => absurd (hd.1 rfl) hn⟩
        · intro u w hR hd; exact ⟨fun _ => runs_box rfl (hS.kept hR), fun hn => absurd (hd.1 rfl) hn⟩
        · intro u w hR hd; exact ⟨fun _ => runs_call2 enters_union rfl rfl (union_v (hd.1 rfl) (hd.2.1 rfl)), fun hn => absurd (hd.2.2.2.1 rfl) hn⟩
        · intro u w hR hd; exact ⟨fun _ => runs_call2 enters_equal rfl rfl (equal_v (alg2 (ofl l) (ofl l2) (ofl l3)) (hd.1 rfl) (hd.2.1 rfl)), fun hn => absurd (hd.2.2.2.1 rfl) hn⟩
        · intro u w hR hd; exact runs_and (hd.1 rfl) (fun _ => (hd.2.1 rfl)) ⟨Grew.refl _, rfl⟩
        · intro u w hR hd; exact runs_assign ⟨Grew.refl _, (hd.1 rfl)⟩
        · intro u w hR h
          have he : u 6 = .bool true := h 62 (by decide)
          simp only [mixA, mixL, cond_true, cond_false]
          rw [he]
          have HB := Below.trans HB (Below.mono (Below.trans (Grew.drew V) (Below.mono hR (Grew.drew V).size)) HB.size)
          go_wp2
          go_ret
          exact ⟨rfl, HB⟩
      · have hd1 : decide (l.length ≤ 60) = true := by simpa using hsm1
        have hd2 : decide (l2.length ≤ 60) = true := by simpa using hsm2
        have hd3 : decide (l3.length ≤ 60) = false := by simpa using hsm3
        go_enter Tryd.func10, Tryd.ntmps10
        go_wp2_with (first
          | (go_at_call 11; (with_reducible refine (awake_any _ he).mono ?_); rintro e w1 ⟨rfl, hb⟩; replace he := Env.kept he hb; replace HB := HB.trans (hb.mono HB.size); clear hb)
          | (go_at_call 12; (with_reducible refine (small_any _ _ _ _).mono ?_); rintro e _ ⟨rfl, rfl⟩))
        go_ret
        exact ⟨rfl, HB⟩
    · have hd1 : decide (l.length ≤ 60) = true := by simpa using hsm1
      have hd2 : decide (l2.length ≤ 60) = false := by simpa using hsm2
      go_enter Tryd.func10, Tryd.ntmps10
      go_wp2_with (first
        | (go_at_call 11; (with_reducible refine (awake_any _ he).mono ?_); rintro e w1 ⟨rfl, hb⟩; replace he := Env.kept he hb; replace HB := HB.trans (hb.mono HB.size); clear hb)
        | (go_at_call 12; (with_reducible refine (small_any _ _ _ _).mono ?_); rintro e _ ⟨rfl, rfl⟩))
      go_ret
      exact ⟨rfl, HB⟩
  · have hd1 : decide (l.length ≤ 60) = false := by simpa using hsm1
    go_enter Tryd.func10, Tryd.ntmps10
    go_wp2_with (first
      | (go_at_call 11; (with_reducible refine (awake_any _ he).mono ?_); rintro e w1 ⟨rfl, hb⟩; replace he := Env.kept he hb; replace HB := HB.trans (hb.mono HB.size); clear hb)
      | (go_at_call 12; (with_reducible refine (small_any _ _ _ _).mono ?_); rintro e _ ⟨rfl, rfl⟩))
    go_ret
    exact ⟨rfl, HB⟩
end Go.Proofs.YtgkjkchhepmakaaDoor
