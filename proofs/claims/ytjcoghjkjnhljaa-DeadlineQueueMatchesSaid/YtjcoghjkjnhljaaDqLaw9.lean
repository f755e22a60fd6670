/-
  LAYER 6 (deadlinequeue): the statements' Matches.
-/
import Derived.Test.YtjcoghjkjnhljaaDqLaw6
namespace Go.Proofs.Ytjcoghjkjnhljaa
open Go Go.RowKit Go.IntWalk Go.Sort
set_option maxRecDepth 8000
set_option linter.unusedSimpArgs false

theorem enters_Len : Enters Try.prog 14 := fun args w => by go_simp
theorem enters_Same : Enters Try.prog 15 := fun args w => by go_simp
set_option maxHeartbeats 16000000 in
theorem matches_any (p : Option Addr) (n c : Nat) (xs : List Opx) (w : World) (hl : xs.length = n) (h : RdO w p c xs) (hok : opOk xs) :
    Calls Try.prog 3 #[.slice p n c] w fun e w' => e = .returned (.bool true) ∧ Below w.heap.size w w' := by
  subst hl
  have HO := Lib.hid h
  have Hok := Lib.hid hok
  clear h hok
  by_cases hn : xs.length ≤ 60
  · have hn' : ¬ ((60 : Int) < (xs.length : Int)) := by omega
    go_enter Try.func3, Try.ntmps3
    go_wp2_with (go_at_call 10; (with_reducible refine (new_any _).mono ?_); rintro e w1 ⟨rfl, q1, g1⟩; have Q1 := Lib.hid q1; have G1 := Lib.hid g1; clear q1 g1)
    obtain ⟨q, hq⟩ : ∃ q, q = w.heap.size := ⟨_, rfl⟩
    rw [← hq] at Q1 ⊢
    have Hq := Lib.hid hq
    clear hq hn'
    go_loopg [4, 25] xs.length (fun gg lv iv wr => ∃ (k c' : Nat) (p' : Option Addr) (L : List It), lv = .slice p' L.length c' ∧ iv = .int .i64 (k : Int) ∧ k ≤ xs.length ∧ gg = xs.length - k ∧ L.length ≤ k ∧ Hid (St wr q p' c' L) ∧ Hid (Below w.heap.size w wr))
    case atStart => exact ⟨0, 0, none, [], rfl, rfl, Nat.zero_le _, rfl, Nat.le_refl _, Lib.hid (St.start Q1.out), G1⟩
    case round =>
      obtain ⟨k, c', p', L, rfl, rfl, hk, rfl, hLk, hS, hB⟩ := hrel
      by_cases hlt : k < xs.length
      · have hrk := HO.out.kept hB.out
        obtain ⟨bb, o, rfl, hx0, hx1, hx2⟩ := hrk.at hlt
        have Hin := Lib.hid (Hok.out.at hlt).1
        generalize xs.getD k (0, 0, 0) = x at hx0 hx1 hx2 Hin
        obtain ⟨x1, x2, x3⟩ := x
        simp only [] at hx0 hx1 hx2 Hin
        have hqs := hS.out.rep.lt
        clear hrk
        have hKl := stepL_len L x1 x2 x3
        go_wp2_with (go_at_call 12; (with_reducible refine (do_any q L p' c' x1 x2 x3 _ (hS.out.grew (Grew.alloc (Grew.refl wr) _)) Hin.out (by omega)).mono ?_); rintro e w2 ⟨p2, c2, rfl, s2, o2⟩; have S2 := Lib.hid s2; have B2 := Lib.hid ((Below.alloc hB.out (Below.size hB.out) _).trans ((hS.out.grew (Grew.alloc (Grew.refl wr) _)).rep.below o2 (Nat.le_trans (Below.size hB.out) (by simp)) (by rw [← Hq.out]; exact Nat.le_refl _))); clear s2 o2)
        generalize stepL L x1 x2 x3 = K at S2 hKl ⊢
        clear hx0 hx1 hx2 Hin hqs hS hB
        obtain ⟨l, hle⟩ : ∃ l, l = K.length := ⟨_, rfl⟩
        rw [← hle] at hKl ⊢
        have hl64 : l ≤ 64 := by omega
        have HLn : ∀ W, Grew w2 W → Calls Try.prog 14 #[.pointer (some ⟨q, 0, none⟩)] W fun e w' => e = .returned (.int .i64 ((l : Nat) : Int)) ∧ Grew W w' := fun W hW => (len_any q K W (S2.out.rep.grew hW)).mono fun e w' ⟨e1, e2⟩ => ⟨by rw [e1, hle], by rw [← e2]; exact Grew.refl _⟩
        have HIt : ∀ W, Grew w2 W → Calls Try.prog 17 #[.pointer (some ⟨q, 0, none⟩)] W fun e w' => ∃ p3 c3, e = .returned (.slice p3 l c3) ∧ RdI w' p3 c3 K ∧ Grew W w' := fun W hW => (items_any q K W (S2.out.rep.grew hW) (by omega)).mono fun e w' ⟨p3, c3, e1, e2, e3⟩ => ⟨p3, c3, by rw [e1, hle], e2.rd, e3⟩
        have HTo : ∀ p3 c3 W, RdI W p3 c3 K → Calls Try.prog 16 #[.slice p3 l c3] W fun e w' => ∃ p4 c4, e = .returned (.slice p4 l c4) ∧ RdI w' p4 c4 K ∧ Grew W w' := fun p3 c3 W hW => (toref_any p3 l c3 K W hle.symm (by omega) hW).mono fun e w' ⟨p4, c4, e1, e2, e3⟩ => ⟨p4, c4, e1, (OwI.rd e2).2, e3⟩
        have HSa : ∀ p3 c3 W, RdI W p3 c3 K → Grew w2 W → Calls Try.prog 15 #[.slice p3 l c3, .slice p2 l c2] W fun e w' => e = .returned (.bool true) ∧ Grew W w' := fun p3 c3 W hW hg => by have := same_any p3 l c3 K p2 l c2 K W hle.symm hle.symm (by omega) hW (S2.out.rd.kept hg); simpa using this
        have HLn' := Lib.hid HLn
        have HIt' := Lib.hid HIt
        have HTo' := Lib.hid HTo
        have HSa' := Lib.hid HSa
        clear HLn HIt HTo HSa
        have hpk := peek_any q K w2 S2.out.rep
        rcases K with _ | ⟨x, K'⟩
        · have hl0 : l = 0 := by rw [hle]; rfl
          have HP := Lib.hid hpk
          have Hl0 := Lib.hid hl0
          have Hle := Lib.hid hle
          clear hpk hl0 hle
          go_wp2_with (go_at_call 13; (with_reducible refine (HP.out).mono ?_); rintro e w3 ⟨rfl, g3⟩; have G3 := Lib.hid g3; clear g3; simp only [first, List.headD_nil, List.isEmpty_nil, Bool.not_true])
          have hXb0 : Bx w3.heap.size 0 ((0 : Int), (0 : Int)) (w3.alloc (.cells #[.int .i64 0, .int .i64 0] 32)) := ⟨by go_simp, by go_simp⟩
          have hV0 : Grew w2 (w3.alloc (.cells #[.int .i64 0, .int .i64 0] 32)) := Grew.trans G3.out ((Grew.refl w3).alloc _)
          generalize World.alloc w3 _ = V at hXb0 hV0 ⊢
          generalize w3.heap.size = S at hXb0 ⊢
          have hXb := hXb0.grew (Grew.drew V)
          have hV := hV0.trans (Grew.drew V)
          clear hXb0 hV0
          have HLn := HLn'.out
          have HIt := HIt'.out
          have HTo := HTo'.out
          have HSa := HSa'.out
          have hl0 := Hl0.out
          have hle := Hle.out
          generalize hKe : ([] : List It) = K at *
          refine wp_posts [some 41, some 42, some 43, some 44, some 45, some 46, some 47, some 48, some 49, some 50, some 51, some 52, some 53, some 54, some 55, some 56, some 57, some 58, some 59, some 60, some 61, some 62, some 63, some 64, some 65, some 66, some 67, some 68, some 69, some 70, some 71, some 72, some 73, some 74, some 75, some 76, some 77, some 78, some 79, some 80, some 81, some 82, some 83, some 84, some 85, some 86, some 87, some 88, some 89, some 90, some 91, some 92, some 93, some 94] [false, false, false, false, false, false, false, false, false, false, false, false, false, false, false, false, false, false, false, false, false, false, false, false, false, false, false, false, false, false, false, false, false, false, false, false, false, false, false, false, false, true, true, true, true, true, true, true, true, true, true, true, true, true, true, true, true, true, true, true, true, true, true, true, true, true, true, true, true, true, true, true, true, true, true, true, true, true, true, true, true, true, true, true, true, true, true, true, true, true, true, true, true, true, true, false, false] [fun v _ => v = .bool (true), fun v _ => v = .bool (false), fun v _ => v = .bool (false), fun v _ => v = .pointer (some ⟨q, 0, none⟩), fun v _ => v = .int .i64 (((l : Nat) : Int)), fun v _ => v = .slice p2 l c2, fun v _ => v = .int .i64 (((l : Nat) : Int)), fun v _ => v = .bool (false), fun v _ => v = .bool (false), fun v _ => v = .bool (false), fun v _ => v = .bool (false), fun v _ => v = .slice p2 l c2, fun v _ => v = .int .i64 (((l : Nat) : Int)), fun v _ => v = .bool (false), fun v _ => v = .bool (false), fun v _ => v = .bool (false), fun v _ => v = .bool (false), fun v _ => v = .bool (false), fun v _ => v = .bool (false), fun v _ => v = undef, fun v _ => v = undef, fun v _ => v = undef, fun v _ => v = undef, fun v _ => v = undef, fun v _ => v = undef, fun v _ => v = undef, fun v _ => v = undef, fun v _ => v = undef, fun v _ => v = undef, fun v _ => v = undef, fun v _ => v = undef, fun v _ => v = undef, fun v _ => v = undef, fun v _ => v = undef, fun v _ => v = undef, fun v _ => v = .bool (false), fun v _ => v = .bool (false), fun v _ => v = .bool (false), fun v _ => v = .bool (false), fun v _ => v = .bool (true), fun v _ => v = .bool (true), fun v _ => v = itv (((0 : Int), (0 : Int))), fun v _ => v = itv ((0 : Int), (0 : Int)), fun v _ => v = .bool (false), fun v _ => v = .bool (false), fun v _ => v = .bool (false), fun v _ => v = .bool (false), fun v _ => v = .pointer (some ⟨q, 0, none⟩), fun v w => ∃ p3 c3, v = .slice p3 l c3 ∧ RdI w p3 c3 K, fun v w => ∃ p3 c3, v = .slice p3 l c3 ∧ RdI w p3 c3 K, fun v _ => v = .slice p2 l c2, fun v _ => v = .bool true, fun v _ => v = .bool (false), fun v _ => v = .bool (false)] (by kernel_rfl) (by kernel_rfl) rfl ?_ ⟨?_, ?_, ?_, ?_, ?_, ?_, ?_, ?_, ?_, ?_, ?_, ?_, ?_, ?_, ?_, ?_, ?_, ?_, ?_, ?_, ?_, ?_, ?_, ?_, ?_, ?_, ?_, ?_, ?_, ?_, ?_, ?_, ?_, ?_, ?_, ?_, ?_, ?_, ?_, ?_, ?_, ?_, ?_, ?_, ?_, ?_, ?_, ?_, ?_, ?_, ?_, ?_, ?_, ?_, trivial⟩ ?_
          · exact ⟨fun _ _ _ _ h => h, fun _ _ _ _ h => h, fun _ _ _ _ h => h, fun _ _ _ _ h => h, fun _ _ _ _ h => h, fun _ _ _ _ h => h, fun _ _ _ _ h => h, fun _ _ _ _ h => h, fun _ _ _ _ h => h, fun _ _ _ _ h => h, fun _ _ _ _ h => h, fun _ _ _ _ h => h, fun _ _ _ _ h => h, fun _ _ _ _ h => h, fun _ _ _ _ h => h, fun _ _ _ _ h => h, fun _ _ _ _ h => h, fun _ _ _ _ h => h, fun _ _ _ _ h => h, fun _ _ _ _ h => h, fun _ _ _ _ h => h, fun _ _ _ _ h => h, fun _ _ _ _ h => h, fun _ _ _ _ h => h, fun _ _ _ _ h => h, fun _ _ _ _ h => h, fun _ _ _ _ h => h, fun _ _ _ _ h => h, fun _ _ _ _ h => h, fun _ _ _ _ h => h, fun _ _ _ _ h => h, fun _ _ _ _ h => h, fun _ _ _ _ h => h, fun _ _ _ _ h => h, fun _ _ _ _ h => h, fun _ _ _ _ h => h, fun _ _ _ _ h => h, fun _ _ _ _ h => h, fun _ _ _ _ h => h, fun _ _ _ _ h => h, fun _ _ _ _ h => h, fun _ _ _ _ h => h, fun _ _ _ _ h => h, fun _ _ _ _ h => h, fun _ _ _ _ h => h, fun _ _ _ _ h => h, fun _ _ _ _ h => h, fun _ _ _ _ h => h, fun _ _ _ hg ⟨p3, c3, h1, h2⟩ => ⟨p3, c3, h1, h2.kept hg⟩, fun _ _ _ hg ⟨p3, c3, h1, h2⟩ => ⟨p3, c3, h1, h2.kept hg⟩, fun _ _ _ _ h => h, fun _ _ _ _ h => h, fun _ _ _ _ h => h, fun _ _ _ _ h => h, trivial⟩
          · intro u w hR hd; exact runs_mv (ev rfl) ⟨Grew.refl _, rfl⟩
          · intro u w hR hd; exact runs_nt (ev (hd.1 rfl)) ⟨Grew.refl _, rfl⟩
          · intro u w hR hd; exact runs_mv (ev (hd.1 rfl)) ⟨Grew.refl _, rfl⟩
          · intro u w hR hd; exact ⟨fun _ => runs_mv (ev rfl) ⟨Grew.refl _, rfl⟩, fun hn => absurd (hd.1 rfl) hn⟩
          · intro u w hR hd; exact ⟨fun _ => runs_c1 enters_Len (ev (hd.1 rfl)) (callp (fun _ e => e) (HLn w (hV.trans hR))), fun hn => absurd (hd.2.1 rfl) hn⟩
          · intro u w hR hd; exact ⟨fun _ => runs_mv (ev rfl) ⟨Grew.refl _, rfl⟩, fun hn => absurd (hd.1 rfl) hn⟩
          · intro u w hR hd; exact ⟨fun _ => runs_len26 (ev (hd.1 rfl)) ⟨Grew.refl _, rfl⟩, fun hn => absurd (hd.2.1 rfl) hn⟩
          · intro u w hR hd; exact ⟨fun _ => runs_neq3 (ev (hd.1 rfl)) (ev (hd.2.1 rfl)) ⟨Grew.refl _, (congrArg Value.bool (bne_self_eq_false _))⟩, fun hn => absurd (hd.2.2.1 rfl) hn⟩
          · intro u w hR hd; exact runs_or2 (ev (hd.1 rfl)) (fun hb => ev ((hd.2.1 rfl))) ⟨Grew.refl _, rfl⟩
          · intro u w hR hd; exact runs_mv (ev (hd.1 rfl)) ⟨Grew.refl _, rfl⟩
          · intro u w hR hd; exact ⟨fun _ => runs_mv (ev rfl) ⟨Grew.refl _, rfl⟩, fun hn => absurd (hd.1 rfl) hn⟩
          · intro u w hR hd; exact ⟨fun _ => runs_mv (ev rfl) ⟨Grew.refl _, rfl⟩, fun hn => absurd (hd.1 rfl) hn⟩
          · intro u w hR hd; exact ⟨fun _ => runs_len26 (ev (hd.1 rfl)) ⟨Grew.refl _, rfl⟩, fun hn => absurd (hd.2.1 rfl) hn⟩
          · intro u w hR hd; exact ⟨fun _ => runs_gtr3 (ev (hd.1 rfl)) rfl ⟨Grew.refl _, (congrArg Value.bool (by rw [hl0]; rfl))⟩, fun hn => absurd (hd.2.1 rfl) hn⟩
          · intro u w hR hd; exact ⟨fun _ => runs_neq4 (ev (hd.1 rfl)) (ev (hd.2.1 rfl)) ⟨Grew.refl _, (congrArg Value.bool (rfl))⟩, fun hn => absurd (hd.2.2.1 rfl) hn⟩
          · intro u w hR hd; exact runs_or2 (ev (hd.1 rfl)) (fun hb => ev ((hd.2.1 rfl))) ⟨Grew.refl _, rfl⟩
          · intro u w hR hd; exact runs_mv (ev (hd.1 rfl)) ⟨Grew.refl _, rfl⟩
          · intro u w hR hd; exact ⟨fun _ => runs_mv (ev rfl) ⟨Grew.refl _, rfl⟩, fun hn => absurd (hd.1 rfl) hn⟩
          · intro u w hR hd; exact ⟨fun _ => runs_mv (ev (hd.1 rfl)) ⟨Grew.refl _, rfl⟩, fun hn => absurd (hd.2.1 rfl) hn⟩
          · intro u w hR hd; exact ⟨fun hg => absurd ((hd.1 rfl).symm.trans hg) (fun h => by first | cases h | (simp [undef] at h)), fun _ => rfl⟩
          · intro u w hR hd; exact ⟨fun hg => absurd ((hd.2.1 rfl).symm.trans hg) (fun h => by first | cases h | (simp [undef] at h)), fun _ => rfl⟩
          · intro u w hR hd; exact ⟨fun hg => absurd ((hd.1 rfl).symm.trans hg) (fun h => by first | cases h | (simp [undef] at h)), fun _ => rfl⟩
          · intro u w hR hd; exact ⟨fun hg => absurd ((hd.2.1 rfl).symm.trans hg) (fun h => by first | cases h | (simp [undef] at h)), fun _ => rfl⟩
          · intro u w hR hd; exact ⟨fun hg => absurd ((hd.2.1 rfl).symm.trans hg) (fun h => by first | cases h | (simp [undef] at h)), fun _ => rfl⟩
          · intro u w hR hd; exact ⟨fun hg => absurd ((hd.2.1 rfl).symm.trans hg) (fun h => by first | cases h | (simp [undef] at h)), fun _ => rfl⟩
          · intro u w hR hd; exact ⟨fun hg => absurd ((hd.2.2.1 rfl).symm.trans hg) (fun h => by first | cases h | (simp [undef] at h)), fun _ => rfl⟩
          · intro u w hR hd; exact ⟨fun hg => absurd ((hd.2.1 rfl).symm.trans hg) (fun h => by first | cases h | (simp [undef] at h)), fun _ => rfl⟩
          · intro u w hR hd; exact ⟨fun hg => absurd ((hd.1 rfl).symm.trans hg) (fun h => by first | cases h | (simp [undef] at h)), fun _ => rfl⟩
          · intro u w hR hd; exact ⟨fun hg => absurd ((hd.2.1 rfl).symm.trans hg) (fun h => by first | cases h | (simp [undef] at h)), fun _ => rfl⟩
          · intro u w hR hd; exact ⟨fun hg => absurd ((hd.1 rfl).symm.trans hg) (fun h => by first | cases h | (simp [undef] at h)), fun _ => rfl⟩
          · intro u w hR hd; exact ⟨fun hg => absurd ((hd.2.1 rfl).symm.trans hg) (fun h => by first | cases h | (simp [undef] at h)), fun _ => rfl⟩
          · intro u w hR hd; exact ⟨fun hg => absurd ((hd.2.1 rfl).symm.trans hg) (fun h => by first | cases h | (simp [undef] at h)), fun _ => rfl⟩
          · intro u w hR hd; exact ⟨fun hg => absurd ((hd.2.1 rfl).symm.trans hg) (fun h => by first | cases h | (simp [undef] at h)), fun _ => rfl⟩
          · intro u w hR hd; exact ⟨fun hg => absurd ((hd.2.2.1 rfl).symm.trans hg) (fun h => by first | cases h | (simp [undef] at h)), fun _ => rfl⟩
          · intro u w hR hd; exact ⟨fun hg => absurd ((hd.2.2.1 rfl).symm.trans hg) (fun h => by first | cases h | (simp [undef] at h)), fun _ => rfl⟩
          · intro u w hR hd; exact ⟨fun _ => runs_andF (ev (hd.1 rfl)) ⟨Grew.refl _, rfl⟩, fun hn => absurd (hd.2.2.1 rfl) hn⟩
          · intro u w hR hd; exact runs_or2 (ev (hd.1 rfl)) (fun hb => ev ((hd.2.1 rfl))) ⟨Grew.refl _, rfl⟩
          · intro u w hR hd; exact runs_mv (ev (hd.1 rfl)) ⟨Grew.refl _, rfl⟩
          · intro u w hR hd; exact ⟨fun _ => runs_mv (ev rfl) ⟨Grew.refl _, rfl⟩, fun hn => absurd (hd.1 rfl) hn⟩
          · intro u w hR hd; exact ⟨fun _ => runs_nt (ev (hd.1 rfl)) ⟨Grew.refl _, rfl⟩, fun hn => absurd (hd.2.1 rfl) hn⟩
          · intro u w hR hd; exact ⟨fun _ => runs_mv (ev (hd.1 rfl)) ⟨Grew.refl _, rfl⟩, fun hn => absurd (hd.2.1 rfl) hn⟩
          · intro u w hR hd; exact ⟨fun _ => runs_bx32 (ev rfl) (hXb.kept hR) ⟨Grew.refl _, rfl⟩, fun hn => absurd (hd.1 rfl) hn⟩
          · intro u w hR hd; exact ⟨fun _ => runs_bldz32 ⟨Grew.refl _, rfl⟩, fun hn => absurd (hd.1 rfl) hn⟩
          · intro u w hR hd; exact ⟨fun _ => runs_neq32 (ev (hd.1 rfl)) (ev (hd.2.1 rfl)) ⟨Grew.refl _, (congrArg Value.bool (by decide))⟩, fun hn => absurd (hd.2.2.1 rfl) hn⟩
          · intro u w hR hd; exact ⟨fun _ => runs_an (ev (hd.1 rfl)) (fun hb => ev ((hd.2.1 rfl))) ⟨Grew.refl _, rfl⟩, fun hn => absurd (hd.2.2.1 rfl) hn⟩
          · intro u w hR hd; exact runs_or2 (ev (hd.1 rfl)) (fun hb => ev ((hd.2.1 rfl))) ⟨Grew.refl _, rfl⟩
          · intro u w hR hd; exact runs_mv (ev (hd.1 rfl)) ⟨Grew.refl _, rfl⟩
          · intro u w hR hd; exact ⟨fun _ => runs_mv (ev rfl) ⟨Grew.refl _, rfl⟩, fun hn => absurd (hd.1 rfl) hn⟩
          · intro u w hR hd; exact ⟨fun _ => runs_c1 enters_Items (ev (hd.1 rfl)) ((HIt w (hV.trans hR)).mono fun _ _ ⟨p3, c3, e1, h1, h2⟩ => ⟨_, e1, h2, p3, c3, rfl, h1⟩), fun hn => absurd (hd.2.1 rfl) hn⟩
          · intro u w hR hd; exact ⟨fun _ => match (hd.1 rfl) with | ⟨p3, c3, e0, h0⟩ => runs_c1 enters_items (ev e0) ((HTo p3 c3 w h0).mono fun _ _ ⟨p4, c4, e1, h1, h2⟩ => ⟨_, e1, h2, p4, c4, rfl, h1⟩), fun hn => absurd (hd.2.2.1 rfl) hn⟩
          · intro u w hR hd; exact ⟨fun _ => runs_mv (ev rfl) ⟨Grew.refl _, rfl⟩, fun hn => absurd (hd.1 rfl) hn⟩
          · intro u w hR hd; exact ⟨fun _ => match (hd.1 rfl) with | ⟨p3, c3, e0, h0⟩ => runs_c2 enters_Same (ev e0) (ev (hd.2.1 rfl)) (callp (fun _ e => e) (HSa p3 c3 w h0 (hV.trans hR))), fun hn => absurd (hd.2.2.2.1 rfl) hn⟩
          · intro u w hR hd; exact ⟨fun _ => runs_nt (ev (hd.1 rfl)) ⟨Grew.refl _, rfl⟩, fun hn => absurd (hd.2.1 rfl) hn⟩
          · intro u w hR hd; exact runs_or2 (ev (hd.1 rfl)) (fun hb => ev ((hd.2.1 rfl))) ⟨Grew.refl _, rfl⟩
          · intro u w4 hR h
            have e94 : u 94 = .bool false := h 53 (by decide)
            have HV4 := Lib.hid (hV.trans hR)
            simp only [mixA, mixL, cond_true, cond_false]
            rw [e94]
            clear h hR hV e94 HLn HIt HTo HSa hXb HLn' HIt' HTo' HSa' Hl0 hl0 hKe
            have S4 := Lib.hid (S2.out.grew HV4.out)
            have B4 := Lib.hid (B2.out.trans (Below.mono HV4.out (Below.size B2.out)))
            subst hle
            go_wp2
            go_roundg (xs.length - (k + 1))
            case measure => omega
            case rel => exact ⟨k + 1, c2, _, K, rfl, by go_num, by omega, rfl, by omega, S4, B4⟩
        · obtain ⟨bb, o, hpe, hcs⟩ := S2.out.rd.cells (by simp)
          have hy := hcs 0 x rfl
          simp only [Nat.zero_mul, Nat.add_zero] at hy
          obtain ⟨x1, x2⟩ := x
          simp only [] at hy
          subst hpe
          have hlp : 0 < l := by rw [hle]; simp
          have HP := Lib.hid hpk
          have Hle := Lib.hid hle
          have HY0 := Lib.hid hy.1
          have HY1 := Lib.hid hy.2
          have Hlp := Lib.hid hlp
          clear hpk hle hy hcs hlp
          go_wp2_with (go_at_call 13; (with_reducible refine (HP.out).mono ?_); rintro e w3 ⟨rfl, g3⟩; have G3 := Lib.hid g3; clear g3; simp only [first, List.headD_cons, List.isEmpty_cons, Bool.not_false])
          have hX00 : Cel w3.heap.size 0 (.int .i64 x1) (w3.alloc (.cells #[.int .i64 x1, .int .i64 x2] 32)) := ⟨by go_simp⟩
          have hX10 : Cel w3.heap.size 1 (.int .i64 x2) (w3.alloc (.cells #[.int .i64 x1, .int .i64 x2] 32)) := ⟨by go_simp⟩
          have hV0 : Grew w2 (w3.alloc (.cells #[.int .i64 x1, .int .i64 x2] 32)) := Grew.trans G3.out ((Grew.refl w3).alloc _)
          generalize World.alloc w3 _ = V at hX00 hX10 hV0 ⊢
          generalize w3.heap.size = S at hX00 hX10 ⊢
          have hX := hX00.grew (Grew.drew V)
          have hX1 := hX10.grew (Grew.drew V)
          have hV := hV0.trans (Grew.drew V)
          have hY : Cel bb o (.int .i64 x1) V.drew := Cel.grew ⟨HY0.out⟩ hV
          have hY1 : Cel bb (o + 1) (.int .i64 x2) V.drew := Cel.grew ⟨HY1.out⟩ hV
          clear hX00 hX10 hV0
          have HLn := HLn'.out
          have HIt := HIt'.out
          have HTo := HTo'.out
          have HSa := HSa'.out
          have hlp := Hlp.out
          have hle := Hle.out
          generalize hKe : ((x1, x2) :: K' : List It) = K at *
          refine wp_posts [some 41, some 42, some 43, some 44, some 45, some 46, some 47, some 48, some 49, some 50, some 51, some 52, some 53, some 54, some 55, some 56, some 57, some 58, some 59, some 60, some 61, some 62, some 63, some 64, some 65, some 66, some 67, some 68, some 69, some 70, some 71, some 72, some 73, some 74, some 75, some 76, some 77, some 78, some 79, some 80, some 81, some 82, some 83, some 84, some 85, some 86, some 87, some 88, some 89, some 90, some 91, some 92, some 93, some 94] [false, false, false, false, false, false, false, false, false, false, false, false, false, false, false, false, false, false, false, false, false, false, false, false, false, false, false, false, false, false, false, false, false, false, false, false, false, false, false, false, false, true, true, true, true, true, true, true, true, true, true, true, true, true, true, true, true, true, true, true, true, true, true, true, true, true, true, true, true, true, true, true, true, true, true, true, true, true, true, true, true, true, true, true, true, true, true, true, true, true, true, true, true, true, true, false, false] [fun v _ => v = .bool (true), fun v _ => v = .bool (false), fun v _ => v = .bool (false), fun v _ => v = .pointer (some ⟨q, 0, none⟩), fun v _ => v = .int .i64 (((l : Nat) : Int)), fun v _ => v = .slice (some ⟨bb, o, none⟩) (l) (c2), fun v _ => v = .int .i64 (((l : Nat) : Int)), fun v _ => v = .bool (false), fun v _ => v = .bool (false), fun v _ => v = .bool (false), fun v _ => v = .bool (true), fun v _ => v = .slice (some ⟨bb, o, none⟩) (l) (c2), fun v _ => v = .int .i64 (((l : Nat) : Int)), fun v _ => v = .bool (true), fun v _ => v = .bool (false), fun v _ => v = .bool (false), fun v _ => v = .bool (false), fun v _ => v = .bool (true), fun v _ => v = .bool (true), fun v _ => v = .pointer (some ⟨S, 0, none⟩), fun v _ => v = .int .i64 (x1), fun v _ => v = .slice (some ⟨bb, o, none⟩) (l) (c2), fun v _ => v = .pointer (some ⟨bb, o, none⟩), fun v _ => v = .pointer (some ⟨bb, o, none⟩), fun v _ => v = .int .i64 (x1), fun v _ => v = .bool (false), fun v _ => v = .bool (false), fun v _ => v = .pointer (some ⟨S, 1, none⟩), fun v _ => v = .int .i64 (x2), fun v _ => v = .slice (some ⟨bb, o, none⟩) (l) (c2), fun v _ => v = .pointer (some ⟨bb, o, none⟩), fun v _ => v = .pointer (some ⟨bb, o + 1, none⟩), fun v _ => v = .int .i64 (x2), fun v _ => v = .bool (false), fun v _ => v = .bool (false), fun v _ => v = .bool (false), fun v _ => v = .bool (false), fun v _ => v = .bool (false), fun v _ => v = .bool (true), fun v _ => v = .bool (false), fun v _ => v = .bool (false), fun v _ => v = undef, fun v _ => v = undef, fun v _ => v = undef, fun v _ => v = .bool (false), fun v _ => v = .bool (false), fun v _ => v = .bool (false), fun v _ => v = .pointer (some ⟨q, 0, none⟩), fun v w => ∃ p3 c3, v = .slice p3 l c3 ∧ RdI w p3 c3 K, fun v w => ∃ p3 c3, v = .slice p3 l c3 ∧ RdI w p3 c3 K, fun v _ => v = .slice (some ⟨bb, o, none⟩) (l) (c2), fun v _ => v = .bool true, fun v _ => v = .bool (false), fun v _ => v = .bool (false)] (by kernel_rfl) (by kernel_rfl) rfl ?_ ⟨?_, ?_, ?_, ?_, ?_, ?_, ?_, ?_, ?_, ?_, ?_, ?_, ?_, ?_, ?_, ?_, ?_, ?_, ?_, ?_, ?_, ?_, ?_, ?_, ?_, ?_, ?_, ?_, ?_, ?_, ?_, ?_, ?_, ?_, ?_, ?_, ?_, ?_, ?_, ?_, ?_, ?_, ?_, ?_, ?_, ?_, ?_, ?_, ?_, ?_, ?_, ?_, ?_, ?_, trivial⟩ ?_
          · exact ⟨fun _ _ _ _ h => h, fun _ _ _ _ h => h, fun _ _ _ _ h => h, fun _ _ _ _ h => h, fun _ _ _ _ h => h, fun _ _ _ _ h => h, fun _ _ _ _ h => h, fun _ _ _ _ h => h, fun _ _ _ _ h => h, fun _ _ _ _ h => h, fun _ _ _ _ h => h, fun _ _ _ _ h => h, fun _ _ _ _ h => h, fun _ _ _ _ h => h, fun _ _ _ _ h => h, fun _ _ _ _ h => h, fun _ _ _ _ h => h, fun _ _ _ _ h => h, fun _ _ _ _ h => h, fun _ _ _ _ h => h, fun _ _ _ _ h => h, fun _ _ _ _ h => h, fun _ _ _ _ h => h, fun _ _ _ _ h => h, fun _ _ _ _ h => h, fun _ _ _ _ h => h, fun _ _ _ _ h => h, fun _ _ _ _ h => h, fun _ _ _ _ h => h, fun _ _ _ _ h => h, fun _ _ _ _ h => h, fun _ _ _ _ h => h, fun _ _ _ _ h => h, fun _ _ _ _ h => h, fun _ _ _ _ h => h, fun _ _ _ _ h => h, fun _ _ _ _ h => h, fun _ _ _ _ h => h, fun _ _ _ _ h => h, fun _ _ _ _ h => h, fun _ _ _ _ h => h, fun _ _ _ _ h => h, fun _ _ _ _ h => h, fun _ _ _ _ h => h, fun _ _ _ _ h => h, fun _ _ _ _ h => h, fun _ _ _ _ h => h, fun _ _ _ _ h => h, fun _ _ _ hg ⟨p3, c3, h1, h2⟩ => ⟨p3, c3, h1, h2.kept hg⟩, fun _ _ _ hg ⟨p3, c3, h1, h2⟩ => ⟨p3, c3, h1, h2.kept hg⟩, fun _ _ _ _ h => h, fun _ _ _ _ h => h, fun _ _ _ _ h => h, fun _ _ _ _ h => h, trivial⟩
          · intro u w hR hd; exact runs_mv (ev rfl) ⟨Grew.refl _, rfl⟩
          · intro u w hR hd; exact runs_nt (ev (hd.1 rfl)) ⟨Grew.refl _, rfl⟩
          · intro u w hR hd; exact runs_mv (ev (hd.1 rfl)) ⟨Grew.refl _, rfl⟩
          · intro u w hR hd; exact ⟨fun _ => runs_mv (ev rfl) ⟨Grew.refl _, rfl⟩, fun hn => absurd (hd.1 rfl) hn⟩
          · intro u w hR hd; exact ⟨fun _ => runs_c1 enters_Len (ev (hd.1 rfl)) (callp (fun _ e => e) (HLn w (hV.trans hR))), fun hn => absurd (hd.2.1 rfl) hn⟩
          · intro u w hR hd; exact ⟨fun _ => runs_mv (ev rfl) ⟨Grew.refl _, rfl⟩, fun hn => absurd (hd.1 rfl) hn⟩
          · intro u w hR hd; exact ⟨fun _ => runs_len26 (ev (hd.1 rfl)) ⟨Grew.refl _, rfl⟩, fun hn => absurd (hd.2.1 rfl) hn⟩
          · intro u w hR hd; exact ⟨fun _ => runs_neq3 (ev (hd.1 rfl)) (ev (hd.2.1 rfl)) ⟨Grew.refl _, (congrArg Value.bool (bne_self_eq_false _))⟩, fun hn => absurd (hd.2.2.1 rfl) hn⟩
          · intro u w hR hd; exact runs_or2 (ev (hd.1 rfl)) (fun hb => ev ((hd.2.1 rfl))) ⟨Grew.refl _, rfl⟩
          · intro u w hR hd; exact runs_mv (ev (hd.1 rfl)) ⟨Grew.refl _, rfl⟩
          · intro u w hR hd; exact ⟨fun _ => runs_mv (ev rfl) ⟨Grew.refl _, rfl⟩, fun hn => absurd (hd.1 rfl) hn⟩
          · intro u w hR hd; exact ⟨fun _ => runs_mv (ev rfl) ⟨Grew.refl _, rfl⟩, fun hn => absurd (hd.1 rfl) hn⟩
          · intro u w hR hd; exact ⟨fun _ => runs_len26 (ev (hd.1 rfl)) ⟨Grew.refl _, rfl⟩, fun hn => absurd (hd.2.1 rfl) hn⟩
          · intro u w hR hd; exact ⟨fun _ => runs_gtr3 (ev (hd.1 rfl)) rfl ⟨Grew.refl _, (congrArg Value.bool (by simp; omega))⟩, fun hn => absurd (hd.2.1 rfl) hn⟩
          · intro u w hR hd; exact ⟨fun _ => runs_neq4 (ev (hd.1 rfl)) (ev (hd.2.1 rfl)) ⟨Grew.refl _, (congrArg Value.bool (rfl))⟩, fun hn => absurd (hd.2.2.1 rfl) hn⟩
          · intro u w hR hd; exact runs_or2 (ev (hd.1 rfl)) (fun hb => ev ((hd.2.1 rfl))) ⟨Grew.refl _, rfl⟩
          · intro u w hR hd; exact runs_mv (ev (hd.1 rfl)) ⟨Grew.refl _, rfl⟩
          · intro u w hR hd; exact ⟨fun _ => runs_mv (ev rfl) ⟨Grew.refl _, rfl⟩, fun hn => absurd (hd.1 rfl) hn⟩
          · intro u w hR hd; exact ⟨fun _ => runs_mv (ev (hd.1 rfl)) ⟨Grew.refl _, rfl⟩, fun hn => absurd (hd.2.1 rfl) hn⟩
          · intro u w hR hd; exact ⟨fun _ => runs_fld32_0 (ev rfl) ⟨Grew.refl _, rfl⟩, fun hn => absurd (hd.1 rfl) hn⟩
          · intro u w hR hd; exact ⟨fun _ => runs_ld3 (ev (hd.1 rfl)) (hX.kept hR) ⟨Grew.refl _, rfl⟩, fun hn => absurd (hd.2.1 rfl) hn⟩
          · intro u w hR hd; exact ⟨fun _ => runs_mv (ev rfl) ⟨Grew.refl _, rfl⟩, fun hn => absurd (hd.1 rfl) hn⟩
          · intro u w hR hd; exact ⟨fun _ => runs_ixz26 (ev (hd.1 rfl)) rfl (by omega) ⟨Grew.refl _, rfl⟩, fun hn => absurd (hd.2.1 rfl) hn⟩
          · intro u w hR hd; exact ⟨fun _ => runs_fld36_0 (ev (hd.1 rfl)) ⟨Grew.refl _, rfl⟩, fun hn => absurd (hd.2.1 rfl) hn⟩
          · intro u w hR hd; exact ⟨fun _ => runs_ld3 (ev (hd.1 rfl)) (hY.kept hR) ⟨Grew.refl _, rfl⟩, fun hn => absurd (hd.2.1 rfl) hn⟩
          · intro u w hR hd; exact ⟨fun _ => runs_neq3 (ev (hd.1 rfl)) (ev (hd.2.1 rfl)) ⟨Grew.refl _, (congrArg Value.bool (bne_self_eq_false _))⟩, fun hn => absurd (hd.2.2.1 rfl) hn⟩
          · intro u w hR hd; exact ⟨fun _ => runs_mv (ev (hd.1 rfl)) ⟨Grew.refl _, rfl⟩, fun hn => absurd (hd.2.1 rfl) hn⟩
          · intro u w hR hd; exact ⟨fun _ => runs_fld32_1 (ev rfl) ⟨Grew.refl _, rfl⟩, fun hn => absurd (hd.1 rfl) hn⟩
          · intro u w hR hd; exact ⟨fun _ => runs_ld2 (ev (hd.1 rfl)) (hX1.kept hR) ⟨Grew.refl _, rfl⟩, fun hn => absurd (hd.2.1 rfl) hn⟩
          · intro u w hR hd; exact ⟨fun _ => runs_mv (ev rfl) ⟨Grew.refl _, rfl⟩, fun hn => absurd (hd.1 rfl) hn⟩
          · intro u w hR hd; exact ⟨fun _ => runs_ixz26 (ev (hd.1 rfl)) rfl (by omega) ⟨Grew.refl _, rfl⟩, fun hn => absurd (hd.2.1 rfl) hn⟩
          · intro u w hR hd; exact ⟨fun _ => runs_fld36_1 (ev (hd.1 rfl)) ⟨Grew.refl _, rfl⟩, fun hn => absurd (hd.2.1 rfl) hn⟩
          · intro u w hR hd; exact ⟨fun _ => runs_ld2 (ev (hd.1 rfl)) (hY1.kept hR) ⟨Grew.refl _, rfl⟩, fun hn => absurd (hd.2.1 rfl) hn⟩
          · intro u w hR hd; exact ⟨fun _ => runs_neq2 (ev (hd.1 rfl)) (ev (hd.2.1 rfl)) ⟨Grew.refl _, (congrArg Value.bool (bne_self_eq_false _))⟩, fun hn => absurd (hd.2.2.1 rfl) hn⟩
          · intro u w hR hd; exact ⟨fun _ => runs_or2 (ev (hd.1 rfl)) (fun hb => ev ((hd.2.1 rfl))) ⟨Grew.refl _, rfl⟩, fun hn => absurd (hd.2.2.1 rfl) hn⟩
          · intro u w hR hd; exact ⟨fun _ => runs_an (ev (hd.1 rfl)) (fun hb => ev ((hd.2.1 rfl))) ⟨Grew.refl _, rfl⟩, fun hn => absurd (hd.2.2.1 rfl) hn⟩
          · intro u w hR hd; exact runs_or2 (ev (hd.1 rfl)) (fun hb => ev ((hd.2.1 rfl))) ⟨Grew.refl _, rfl⟩
          · intro u w hR hd; exact runs_mv (ev (hd.1 rfl)) ⟨Grew.refl _, rfl⟩
          · intro u w hR hd; exact ⟨fun _ => runs_mv (ev rfl) ⟨Grew.refl _, rfl⟩, fun hn => absurd (hd.1 rfl) hn⟩
          · intro u w hR hd; exact ⟨fun _ => runs_nt (ev (hd.1 rfl)) ⟨Grew.refl _, rfl⟩, fun hn => absurd (hd.2.1 rfl) hn⟩
          · intro u w hR hd; exact ⟨fun _ => runs_mv (ev (hd.1 rfl)) ⟨Grew.refl _, rfl⟩, fun hn => absurd (hd.2.1 rfl) hn⟩
          · intro u w hR hd; exact ⟨fun hg => absurd ((hd.1 rfl).symm.trans hg) (fun h => by first | cases h | (simp [undef] at h)), fun _ => rfl⟩
          · intro u w hR hd; exact ⟨fun hg => absurd ((hd.1 rfl).symm.trans hg) (fun h => by first | cases h | (simp [undef] at h)), fun _ => rfl⟩
          · intro u w hR hd; exact ⟨fun hg => absurd ((hd.2.2.1 rfl).symm.trans hg) (fun h => by first | cases h | (simp [undef] at h)), fun _ => rfl⟩
          · intro u w hR hd; exact ⟨fun _ => runs_andF (ev (hd.1 rfl)) ⟨Grew.refl _, rfl⟩, fun hn => absurd (hd.2.2.1 rfl) hn⟩
          · intro u w hR hd; exact runs_or2 (ev (hd.1 rfl)) (fun hb => ev ((hd.2.1 rfl))) ⟨Grew.refl _, rfl⟩
          · intro u w hR hd; exact runs_mv (ev (hd.1 rfl)) ⟨Grew.refl _, rfl⟩
          · intro u w hR hd; exact ⟨fun _ => runs_mv (ev rfl) ⟨Grew.refl _, rfl⟩, fun hn => absurd (hd.1 rfl) hn⟩
          · intro u w hR hd; exact ⟨fun _ => runs_c1 enters_Items (ev (hd.1 rfl)) ((HIt w (hV.trans hR)).mono fun _ _ ⟨p3, c3, e1, h1, h2⟩ => ⟨_, e1, h2, p3, c3, rfl, h1⟩), fun hn => absurd (hd.2.1 rfl) hn⟩
          · intro u w hR hd; exact ⟨fun _ => match (hd.1 rfl) with | ⟨p3, c3, e0, h0⟩ => runs_c1 enters_items (ev e0) ((HTo p3 c3 w h0).mono fun _ _ ⟨p4, c4, e1, h1, h2⟩ => ⟨_, e1, h2, p4, c4, rfl, h1⟩), fun hn => absurd (hd.2.2.1 rfl) hn⟩
          · intro u w hR hd; exact ⟨fun _ => runs_mv (ev rfl) ⟨Grew.refl _, rfl⟩, fun hn => absurd (hd.1 rfl) hn⟩
          · intro u w hR hd; exact ⟨fun _ => match (hd.1 rfl) with | ⟨p3, c3, e0, h0⟩ => runs_c2 enters_Same (ev e0) (ev (hd.2.1 rfl)) (callp (fun _ e => e) (HSa p3 c3 w h0 (hV.trans hR))), fun hn => absurd (hd.2.2.2.1 rfl) hn⟩
          · intro u w hR hd; exact ⟨fun _ => runs_nt (ev (hd.1 rfl)) ⟨Grew.refl _, rfl⟩, fun hn => absurd (hd.2.1 rfl) hn⟩
          · intro u w hR hd; exact runs_or2 (ev (hd.1 rfl)) (fun hb => ev ((hd.2.1 rfl))) ⟨Grew.refl _, rfl⟩
          · intro u w4 hR h
            have e94 : u 94 = .bool false := h 53 (by decide)
            have HV4 := Lib.hid (hV.trans hR)
            simp only [mixA, mixL, cond_true, cond_false]
            rw [e94]
            clear h hR hV e94 HLn HIt HTo HSa hX hX1 hY hY1 HLn' HIt' HTo' HSa' Hlp hlp hKe
            have S4 := Lib.hid (S2.out.grew HV4.out)
            have B4 := Lib.hid (B2.out.trans (Below.mono HV4.out (Below.size B2.out)))
            subst hle
            go_wp2
            go_roundg (xs.length - (k + 1))
            case measure => omega
            case rel => exact ⟨k + 1, c2, _, K, rfl, by go_num, by omega, rfl, by omega, S4, B4⟩
      · obtain rfl : k = xs.length := by omega
        clear HO Hok hS
        go_wp2_with (go_at_call 11; (with_reducible refine (examples_any _).mono ?_); rintro e w9 ⟨rfl, g9⟩; have G9 := Lib.hid g9; clear g9)
        go_ret
        exact ⟨rfl, hB.out.trans (Below.mono G9.out (Below.size hB.out))⟩
  · have hn' : ((60 : Int) < (xs.length : Int)) := by omega
    clear hn HO Hok
    generalize xs.length = n at hn' ⊢
    go_enter Try.func3, Try.ntmps3
    go_wp2_with (first
      | (go_at_call 10; (with_reducible refine (new_any _).mono ?_); rintro e w1 ⟨rfl, q1, g1⟩; have G1 := Lib.hid g1; clear q1 g1)
      | (go_at_call 11; (with_reducible refine (examples_any _).mono ?_); rintro e w5 ⟨rfl, g5⟩; have G5 := Lib.hid (G1.out.trans g5); clear g5))
    go_ret
    exact ⟨rfl, G5.out⟩
end Go.Proofs.Ytjcoghjkjnhljaa
