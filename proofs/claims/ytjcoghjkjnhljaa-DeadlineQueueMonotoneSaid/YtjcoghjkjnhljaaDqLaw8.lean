/-
  LAYER 6 (deadlinequeue): the statements' Monotone.
-/
import Derived.Test.YtjcoghjkjnhljaaDqMono
namespace Go.Proofs.Ytjcoghjkjnhljaa
open Go Go.RowKit Go.IntWalk Go.Sort
set_option maxRecDepth 8000
set_option linter.unusedSimpArgs false

section
variable {dst : Option Tmp} {ty : TypeId} {pos : String} {after : Array Edge} {g : Option (Nat × Bool)} {a : Act} {w : World} {T : Value → World → Prop}
theorem runs_litO {B : Nat} (hB : B ≤ w.heap.size) (h : ∀ w', Grew w w' → OwI w' B 32 (.slice (some ⟨w.heap.size, 0, none⟩) 0 0) [] → T (.slice (some ⟨w.heap.size, 0, none⟩) 0 0) w') : Runs Try.prog ⟨dst, .buildSlice 39 0 #[], ty, pos, after, g⟩ a w T := by
  refine Runs.value (v := .slice (some ⟨w.heap.size, 0, none⟩) 0 0) (w' := w.alloc (.cells #[] 32)) ?_ (h _ ((Grew.refl w).alloc _) (OwI.lit w [] 0 B 32 #[] rfl rfl (by omega) hB))
  simp only [execOp]
  go_simp
end
set_option maxHeartbeats 8000000 in
theorem monotone_any (t : Int) (p : Option Addr) (n c : Nat) (xs : List It) (q : Option Addr) (m d : Nat) (ds : List Int) (dr : Int) (w : World) (hl : xs.length = n) (hl2 : ds.length = m) (hJ : JobsOk w p c xs q d ds) (ht : In64 t) (hdr : 0 ≤ dr ∧ dr ≤ 255) :
    Calls Try.prog 8 #[.int .i64 t, .agg #[.slice p n c, .slice q m d], .int .u8 dr] w fun e w' => e = .returned (.bool true) ∧ Grew w w' := by
  by_cases hn : n ≤ 40
  rotate_left
  · clear hJ hl hl2
    have hn' : ((40 : Int) < (n : Int)) := by omega
    clear hn
    go_enter Try.func8, Try.ntmps8
    go_wp2_with (go_at_call 11; (with_reducible refine (examples_any _).mono ?_); rintro e w5 ⟨rfl, g5⟩; have G5 := Lib.hid ((Grew.alloc (Grew.refl w) _).trans g5); clear g5)
    go_ret
    exact ⟨rfl, G5.out⟩
  have hn' : ¬ ((40 : Int) < (n : Int)) := by omega
  by_cases hn0 : n = 0
  · subst hn0
    clear hJ hl hl2 hn hn'
    go_enter Try.func8, Try.ntmps8
    go_wp2_with (go_at_call 11; (with_reducible refine (examples_any _).mono ?_); rintro e w5 ⟨rfl, g5⟩; have G5 := Lib.hid ((Grew.alloc (Grew.refl w) _).trans g5); clear g5)
    go_ret
    exact ⟨rfl, G5.out⟩
  have hn1 : ((n : Int) == 0) = false := by rw [beq_eq_false_iff_ne]; omega
  by_cases ht1 : t < 1
  · clear hJ hl hl2 hn hn0
    go_enter Try.func8, Try.ntmps8
    go_wp2_with (go_at_call 11; (with_reducible refine (examples_any _).mono ?_); rintro e w5 ⟨rfl, g5⟩; have G5 := Lib.hid ((Grew.alloc (Grew.refl w) _).trans g5); clear g5)
    go_ret
    exact ⟨rfl, G5.out⟩
  have HD : Hid (∀ W, Grew w W → Calls Try.prog 24 #[.agg #[.slice p n c, .slice q m d]] W fun e w' => ∃ b, e = .returned (.map (some b)) ∧ Dur w' b (durG xs ds) ∧ Grew W w') := Lib.hid (by rw [← hl, ← hl2]; exact hJ.dur (by omega))
  have HF0 : Hid (∀ t' b W, Grew w W → Dur W b (durG xs ds) → Calls Try.prog 23 #[.int .i64 t', .slice p n c, .map (some b)] W fun e w' => e = .returned (.tuple #[.int .i64 (feas (durG xs ds) t' xs).1, .int .i64 (feas (durG xs ds) t' xs).2]) ∧ Grew W w') :=
    Lib.hid fun t' b W hW hb => feasible_any t' p _ c b xs _ W hl (by omega) (hJ.rd.kept hW) hJ.ok hb
  have HF := Lib.hid (HF0.out t)
  have hc := feas_cases (durG xs ds) t xs
  have hls : ∀ t' ys, ys.Sublist xs → 0 ≤ t' → t' ≤ t → (feas (durG xs ds) t xs).2 = 0 → (feas (durG xs ds) t' ys).2 = 0 := fun t' ys hs h0 h1 h2 => feas_less hs h0 h1 h2
  have HL := Lib.hid hls
  have HJ := Lib.hid hJ
  clear hJ hls hl2
  generalize durG xs ds = g at HD HF HF0 hc HL
  generalize hr : feas g t xs = r at HF hc HL
  obtain ⟨r1, r2⟩ := r
  simp only [] at HF hc HL
  clear hr
  rcases hc with rfl | rfl | ⟨rfl, _, _⟩
  · clear HF0 HL
    go_enter Try.func8, Try.ntmps8
    go_wp2_with (first
      | (go_at_call 24; (with_reducible refine (HD.out _ (Grew.alloc (Grew.refl w) _)).mono ?_); rintro e w1 ⟨b, rfl, hb, g1⟩; have B1 := Lib.hid hb; have G1 := Lib.hid ((Grew.alloc (Grew.refl w) _).trans g1); have z1 := (Cel.grew ⟨show (w.alloc (.cells #[.slice p n c, .slice q m d] 50)).cell? ⟨w.heap.size, 0, none⟩ = some (.slice p n c) by go_simp⟩ g1).c; have Z1 := Lib.hid z1; clear hb g1)
      | (go_at_call 23; (with_reducible refine (HF.out _ _ G1.out B1.out).mono ?_); rintro e w2 ⟨rfl, g2⟩; have G2 := Lib.hid (G1.out.trans g2); have B2 := Lib.hid (B1.out.grew g2); have z2 := (Cel.grew ⟨Z1.out⟩ g2).c; have Z2 := Lib.hid z2; clear g2)
      | (go_at_call 11; (with_reducible refine (examples_any _).mono ?_); rintro e w9 ⟨rfl, g9⟩; have G9 := Lib.hid (G2.out.trans g9); clear g9))
    go_ret
    exact ⟨rfl, G9.out⟩
  · go_enter Try.func8, Try.ntmps8
    go_wp2_with (first
      | (go_at_call 24; (with_reducible refine (HD.out _ (Grew.alloc (Grew.refl w) _)).mono ?_); rintro e w1 ⟨b, rfl, hb, g1⟩; have B1 := Lib.hid hb; have G1 := Lib.hid ((Grew.alloc (Grew.refl w) _).trans g1); have z1 := (Cel.grew ⟨show (w.alloc (.cells #[.slice p n c, .slice q m d] 50)).cell? ⟨w.heap.size, 0, none⟩ = some (.slice p n c) by go_simp⟩ g1).c; have Z1 := Lib.hid z1; clear hb g1)
      | (go_at_call 23; (with_reducible refine (HF.out _ _ G1.out B1.out).mono ?_); rintro e w2 ⟨rfl, g2⟩; have G2 := Lib.hid (G1.out.trans g2); have B2 := Lib.hid (B1.out.grew g2); have z2 := (Cel.grew ⟨Z1.out⟩ g2).c; have Z2 := Lib.hid z2; clear g2))
    have hdn : (0 : Int) < (n : Int) := by omega
    obtain ⟨k, hk⟩ : ∃ k : Nat, dr % (n : Int) = (k : Int) := ⟨(dr % (n : Int)).toNat, by have := Int.emod_nonneg dr (by omega : (n : Int) ≠ 0); omega⟩
    have hkn0 : k < n := by have := Int.emod_lt_of_pos dr hdn; omega
    rw [hk]
    have hI1 : RdI w2.drew p c xs := HJ.out.rd.kept (Below.trans G2.out ((Below.refl _ _).drew))
    have hnc : n ≤ c := by rw [← hl]; exact hI1.cap
    have hkn : k ≤ n := by omega
    have hkn1 : k + 1 ≤ n := by omega
    have hlk : (xs.take k).length = k := by simp; omega
    have hZ : Cel w.heap.size 0 (.slice p n c) w2.drew := Cel.grew ⟨z2⟩ (Grew.drew w2)
    obtain ⟨B, hBe⟩ : ∃ B, B = w2.heap.size := ⟨_, rfl⟩
    have hBz : ∀ {w' : World}, Grew w2.drew w' → B ≤ w'.heap.size := fun hg => by rw [hBe]; exact (Below.size hg : w2.drew.heap.size ≤ _)
    have HS9 := Lib.hid (HL.out (t - 1) xs (List.Sublist.refl _) (by omega) (by omega) trivial)
    have HSt := Lib.hid (HL.out t (xs.take k ++ xs.drop (k + 1)) (cut_sub xs k) (by omega) (by omega) trivial)
    have hyl : (xs.take k ++ xs.drop (k + 1)).length = k + (n - (k + 1)) := by simp; omega
    have HF9 : Hid (∀ W, Grew w W → Dur W b g → Calls Try.prog 23 #[.int .i64 (t - 1), .slice p n c, .map (some b)] W fun e w' => ∃ y, e = .returned (.tuple #[.int .i64 y, .int .i64 0]) ∧ Grew W w') :=
      Lib.hid fun W hW hb => (HF0.out (t - 1) b W hW hb).mono fun e w' ⟨e1, e2⟩ => ⟨(feas g (t - 1) xs).1, by rw [e1, HS9.out], e2⟩
    have HFl : Hid (∀ p2 c2 W, RdI W p2 c2 (xs.take k ++ xs.drop (k + 1)) → Dur W b g → Calls Try.prog 23 #[.int .i64 t, .slice p2 (k + (n - (k + 1))) c2, .map (some b)] W fun e w' => ∃ y, e = .returned (.tuple #[.int .i64 y, .int .i64 0]) ∧ Grew W w') :=
      Lib.hid fun p2 c2 W hR hb => (feasible_any t p2 _ c2 b _ g W hyl (by omega) hR (fun x hx => HJ.out.ok x ((cut_sub xs k).subset hx)) hb).mono fun e w' ⟨e1, e2⟩ => ⟨(feas g t (xs.take k ++ xs.drop (k + 1))).1, by rw [e1, HSt.out], e2⟩
    have hid1 : RdI w2.drew p c xs := hI1
    clear HF0 HF HL HD hyl hdn z2
    generalize w.heap.size = S at hZ ⊢
    refine wp_region_tail 11 [some 50, some 51, some 52, some 53, some 54, some 55, some 56, some 57, some 58, some 59, some 60] [false, false, false, false, false, false, false, false, false, false, false, false, false, false, false, false, false, false, false, false, false, false, false, false, false, false, false, false, false, false, false, false, false, false, false, false, false, false, false, false, false, false, false, false, false, false, false, false, false, false, true, true, true, true, true, true, true, true, true, true, true, false, false, false, false, false, false, false, false, false, false, false, false, false, false, false, false, false, false, false, false, false, false, false, false, false, false] Grew (postAt [fun v w => ∃ S0, v = .slice (some ⟨S0, 0, none⟩) 0 0 ∧ OwI w B 32 (.slice (some ⟨S0, 0, none⟩) 0 0) [], fun v _ => v = .pointer (some ⟨S, 0, none⟩), fun v _ => v = .slice p n c, fun v _ => v = .int .i64 ((k : Nat) : Int), fun v _ => v = .slice p k c, fun v w => ∃ p1 c1, v = .slice p1 k c1 ∧ OwI w B 32 (.slice p1 k c1) (xs.take k), fun v _ => v = .pointer (some ⟨S, 0, none⟩), fun v _ => v = .slice p n c, fun v _ => v = .int .i64 ((k : Nat) : Int), fun v _ => v = .int .i64 (((k + 1 : Nat)) : Int), fun v _ => v = .slice (if c = k + 1 then p else p.map (·.add ((k + 1) * 2))) (n - (k + 1)) (c - (k + 1))]) (by kernel_rfl) (by kernel_rfl) (by kernel_rfl) rfl Grew.refl Grew.trans (Monos.at ?_) ⟨?_, ?_, ?_, ?_, ?_, ?_, ?_, ?_, ?_, ?_, ?_, trivial⟩ ?_
    · exact ⟨fun _ _ _ hg ⟨S0, h1, h2⟩ => ⟨S0, h1, h2.kept hg⟩, fun _ _ _ _ h => h, fun _ _ _ _ h => h, fun _ _ _ _ h => h, fun _ _ _ _ h => h, fun _ _ _ hg ⟨p1, c1, h1, h2⟩ => ⟨p1, c1, h1, h2.kept hg⟩, fun _ _ _ _ h => h, fun _ _ _ _ h => h, fun _ _ _ _ h => h, fun _ _ _ _ h => h, fun _ _ _ _ h => h, trivial⟩
    · intro u w hR hd; exact runs_litO (hBz hR) fun w' hg ho => ⟨hg, _, rfl, ho⟩
    · intro u w hR hd; exact runs_fld50_0 (ev rfl) ⟨Grew.refl _, rfl⟩
    · intro u w hR hd; exact runs_ld39 (ev (hd.1 rfl)) (hZ.kept hR) ⟨Grew.refl _, rfl⟩
    · intro u w hR hd; exact runs_mv (ev rfl) ⟨Grew.refl _, rfl⟩
    · intro u w hR hd; exact runs_top (ev (hd.1 rfl)) (ev (hd.2.1 rfl)) hkn hnc ⟨Grew.refl _, rfl⟩
    · intro u w hR hd; exact match (hd.1 rfl) with | ⟨S0, e0, o0⟩ => runs_appE (ev e0) (ev (hd.2.1 rfl)) ((hI1.kept hR).upto k (by rw [hl]; exact hkn)) o0 hlk (by omega) (hBz hR) fun p' c' w' ho hg => ⟨hg, _, _, rfl, ho⟩
    · intro u w hR hd; exact runs_fld50_0 (ev rfl) ⟨Grew.refl _, rfl⟩
    · intro u w hR hd; exact runs_ld39 (ev (hd.1 rfl)) (hZ.kept hR) ⟨Grew.refl _, rfl⟩
    · intro u w hR hd; exact runs_mv (ev rfl) ⟨Grew.refl _, rfl⟩
    · intro u w hR hd; exact runs_add3 (ev (hd.1 rfl)) rfl (by omega) ⟨Grew.refl _, congrArg (Value.int .i64) (by omega)⟩
    · intro u w hR hd; exact runs_tl (ev (hd.1 rfl)) (ev (hd.2.1 rfl)) hkn1 ⟨Grew.refl _, rfl⟩
    · intro u w3 hR h
      obtain ⟨p1, c1, e5, o5⟩ : ∃ p1 c1, u 55 = .slice p1 k c1 ∧ OwI w3 B 32 (.slice p1 k c1) (xs.take k) := h 5 (by decide)
      have e10 : u 60 = .slice (if c = k + 1 then p else p.map (·.add ((k + 1) * 2))) (n - (k + 1)) (c - (k + 1)) := h 10 (by decide)
      have hR2 := (hI1.kept hR).from (k + 1) (by rw [hl]; exact hkn1)
      refine wpAny_one (i := 11) (some 61) (by kernel_rfl) rfl rfl rfl (runs_appendI (ev e5) (ev e10) o5 hR2 (by simp; omega) (by simp; omega) (hBz hR) fun p4 c4 w4 ho hg _ => ?_)
      have hgr := Lib.hid (show Grew w2.drew w4 from Below.trans hR (o5.grown_below (N := w2.drew.heap.size) hg (by rw [hBe]; exact Nat.le_refl _) (Below.size hR)))
      refine wpAny_one (i := 12) (some 11) (by kernel_rfl) rfl rfl rfl (runs_mva (v := .slice p4 (k + (n - (k + 1))) c4) (ev rfl) ?_)
      refine wpAny_done (by kernel_rfl) ?_ _
      have HY := Lib.hid (OwI.rd ho).2
      have G4 := Lib.hid (G2.out.trans ((Grew.drew w2).trans hgr.out))
      have B4 := Lib.hid ((B2.out.grew (Grew.drew w2)).grew hgr.out)
      have z4 := (hZ.grew hgr.out).c
      clear h hR hZ hI1 hid1 hR2 ho hg hgr e5 e10 o5 hBz hBe hk hn hn1 hnc hkn hkn1 hlk
      simp only [Act.put, mixA, mixL, cond_true, cond_false, List.setIfInBounds_toArray, List.set_cons_succ, List.set_cons_zero]
      have hw : RowKit.wrap64 (t - 1) = t - 1 := by have h1 := ht.1; have h2 := ht.2; unfold RowKit.wrap64; omega
      go_wp2_with (first
        | (go_at_call 23; (with_reducible refine (HF9.out _ G4.out B4.out).mono ?_); rintro e w5 ⟨y, rfl, g5⟩; have G5 := Lib.hid (G4.out.trans g5); have B5 := Lib.hid (B4.out.grew g5); have Y5 := Lib.hid (HY.out.kept g5); clear g5 HF9 B4 G4 HY)
        | (go_at_call 23; (with_reducible refine (HFl.out _ _ _ Y5.out B5.out).mono ?_); rintro e w6 ⟨y2, rfl, g6⟩; have G6 := Lib.hid (G5.out.trans g6); clear g6 HFl)
        | (go_at_call 11; (with_reducible refine (examples_any _).mono ?_); rintro e w9 ⟨rfl, g9⟩; have G9 := Lib.hid (G6.out.trans g9); clear g9))
      go_ret
      exact ⟨rfl, G9.out⟩
  · clear HF0 HL
    go_enter Try.func8, Try.ntmps8
    go_wp2_with (first
      | (go_at_call 24; (with_reducible refine (HD.out _ (Grew.alloc (Grew.refl w) _)).mono ?_); rintro e w1 ⟨b, rfl, hb, g1⟩; have B1 := Lib.hid hb; have G1 := Lib.hid ((Grew.alloc (Grew.refl w) _).trans g1); have z1 := (Cel.grew ⟨show (w.alloc (.cells #[.slice p n c, .slice q m d] 50)).cell? ⟨w.heap.size, 0, none⟩ = some (.slice p n c) by go_simp⟩ g1).c; have Z1 := Lib.hid z1; clear hb g1)
      | (go_at_call 23; (with_reducible refine (HF.out _ _ G1.out B1.out).mono ?_); rintro e w2 ⟨rfl, g2⟩; have G2 := Lib.hid (G1.out.trans g2); have B2 := Lib.hid (B1.out.grew g2); have z2 := (Cel.grew ⟨Z1.out⟩ g2).c; have Z2 := Lib.hid z2; clear g2)
      | (go_at_call 11; (with_reducible refine (examples_any _).mono ?_); rintro e w9 ⟨rfl, g9⟩; have G9 := Lib.hid (G2.out.trans g9); clear g9))
    go_ret
    exact ⟨rfl, G9.out⟩
end Go.Proofs.Ytjcoghjkjnhljaa
