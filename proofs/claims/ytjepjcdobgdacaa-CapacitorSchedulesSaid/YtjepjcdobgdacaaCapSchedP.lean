/-
  LAYER 8 (capacitor): Schedule.
-/
import Derived.Test.YtjepjcdobgdacaaCapTick
import Derived.Test.YtjepjcdobgdacaaCapRight
namespace Go.Proofs.Ytjepjcdobgdacaa
open Go Go.RowKit Go.IntWalk
set_option linter.unusedSimpArgs false
set_option maxRecDepth 8000

theorem cf_cells {c o f : Int} {w w' : World} {ob : Obj} (g : Grew ((w.alloc (.cells #[.int .i64 c, .int .i64 o, .int .i64 f] 30)).alloc ob) w') :
    w'.cell? ⟨w.heap.size, 0, none⟩ = some (.int .i64 c) ∧ w'.cell? ⟨w.heap.size, 1, none⟩ = some (.int .i64 o) ∧ w'.cell? ⟨w.heap.size, 2, none⟩ = some (.int .i64 f) ∧ w.heap.size < w'.heap.size := by
  have h0 : ((w.alloc (.cells #[.int .i64 c, .int .i64 o, .int .i64 f] 30)).alloc ob).heap[w.heap.size]? = some (.cells #[.int .i64 c, .int .i64 o, .int .i64 f] 30) := by
    exact ((Grew.refl _).al ob).heap (heap_alloc_new w _)
  have h := g.heap h0
  refine ⟨?_, ?_, ?_, lt_of_heap h⟩ <;> rw [cells_of_heap h] <;> rfl
theorem run_next {ld : Int} {xs : List It} {k : Nat} (hk : k < xs.length) (s : Sm) : run ld (xs.take (k + 1)) s = tkN ld (xs[k]).1 (xs[k]).2.toNat (run ld (xs.take k) s) := by
  rw [take_snoc hk, run_snoc]
theorem tn_next {xs : List It} {k : Nat} (hk : k < xs.length) : tn (xs.take (k + 1)) = tn (xs.take k) + (xs[k]).2.toNat := by
  rw [take_snoc hk, tn_append]
  simp [tn]
theorem wp_at6 {P : Program} {c : Code} {Q : Exit → Act → World → Prop} {a : Act} {w : World} (F : World → Prop) (hF : F w) (h : ∀ W, F W → c.wp P Q a W) : c.wp P Q a w := h w hF
set_option maxHeartbeats 8000000 in
theorem sched_bad (c o f ld : Int) (p : Option Addr) (n cap : Nat) (xs : List It) (w0 : World) (hl : xs.length = n) (hx : RdI w0 p cap xs) (hS : okS c o f ld xs = false) :
    Calls Try.prog 22 #[cfv c o f, .int .i64 ld, .slice p n cap] w0 fun e w' => e = .returned (.tuple #[.slice none 0 0, .int .i64 1]) ∧ Grew w0 w' := by
  have HV := Lib.hid fun W => valid_at c o f W
  have HS : Hid (∀ W : World, Grew w0 W → Calls Try.prog 30 #[.slice p n cap] W fun e w' => e = .returned (.bool (okV xs)) ∧ Grew W w') := Lib.hid fun W hg => steps_any p n cap xs W hl (hx.kept hg)
  have hcap := hl ▸ hx.cap
  clear hx hl
  have hS : okC c o f = false ∨ (okC c o f = true ∧ (ld < 1 ∨ (1 ≤ ld ∧ 1048576 < ld))) ∨ (okC c o f = true ∧ 1 ≤ ld ∧ ld ≤ 1048576 ∧ okV xs = false) := by
    rw [okS_eq] at hS
    cases h1 : okC c o f with
    | false => exact .inl rfl
    | true =>
      rw [h1] at hS
      by_cases h2 : 1 ≤ ld
      · by_cases h3 : ld ≤ 1048576
        · refine .inr (.inr ⟨rfl, h2, h3, ?_⟩)
          simpa [h2, h3] using hS
        · exact .inr (.inl ⟨rfl, .inr ⟨h2, by omega⟩⟩)
      · exact .inr (.inl ⟨rfl, .inl (by omega)⟩)
  rcases hS with h1 | ⟨h1, h2 | ⟨h2, h3⟩⟩ | ⟨h1, h2, h3, h4⟩
  · rw [h1] at HV
    clear h1
    go_enter Try.func22, Try.ntmps22
    go_wp2_with (first
      | (go_at_call 26; (with_reducible refine (HV.out _).mono ?_); rintro e w1 ⟨rfl, rfl⟩))
    go_ret2
    exact ⟨rfl, ((Grew.refl _).al _).al _⟩
  · rw [h1] at HV
    clear h1
    go_enter Try.func22, Try.ntmps22
    go_wp2_with (first
      | (go_at_call 26; (with_reducible refine (HV.out _).mono ?_); rintro e w1 ⟨rfl, rfl⟩))
    go_ret2
    exact ⟨rfl, ((Grew.refl _).al _).al _⟩
  · rw [h1] at HV
    clear h1
    go_enter Try.func22, Try.ntmps22
    go_wp2_with (first
      | (go_at_call 26; (with_reducible refine (HV.out _).mono ?_); rintro e w1 ⟨rfl, rfl⟩))
    go_ret2
    exact ⟨rfl, ((Grew.refl _).al _).al _⟩
  · rw [h1] at HV
    rw [h4] at HS
    clear h1 h4
    go_enter Try.func22, Try.ntmps22
    go_wp2_with (first
      | (go_at_call 26; (with_reducible refine (HV.out _).mono ?_); rintro e w1 ⟨rfl, rfl⟩)
      | (go_at_call 30; (with_reducible refine (HS.out _ ((Grew.refl _).al _ |>.al _)).mono ?_); rintro e w2 ⟨rfl, g2⟩; have HG := Lib.hid (((Grew.refl _).al _ |>.al _).trans g2); obtain ⟨q0, q1, q2, ql⟩ := cf_cells g2; clear g2))
    go_ret2
    exact ⟨rfl, HG.out⟩
set_option maxHeartbeats 8000000 in
theorem sched_ok (c o f ld : Int) (p : Option Addr) (n cap : Nat) (xs : List It) (w0 : World) (hl : xs.length = n) (hx : RdI w0 p cap xs) (hS : okS c o f ld xs = true) :
    Calls Try.prog 22 #[cfv c o f, .int .i64 ld, .slice p n cap] w0 fun e w' => ∃ q d, e = .returned (.tuple #[.slice q (run ld xs (sm0 c o f)).L.length d, .int .i64 0]) ∧ RdI w' q d (run ld xs (sm0 c o f)).L ∧ Grew w0 w' := by
  subst hl
  rw [okS_eq] at hS
  simp only [Bool.and_eq_true, decide_eq_true_eq] at hS
  obtain ⟨⟨h1, h2, h3⟩, h4⟩ := hS
  have hV4 := h4
  simp only [okV, Bool.and_eq_true, decide_eq_true_eq] at hV4
  obtain ⟨⟨h5, h6⟩, h7⟩ := hV4
  have HL := Lib.hid h6
  have htn : tn xs ≤ 65536 := by have := tot_tn h6; omega
  have HTN := Lib.hid htn
  have HX := Lib.hid hx
  have HG0 : Hid (Gd 0 ld 0 (sm0 c o f)) := Lib.hid (gd0 ld h1)
  have HV := Lib.hid fun W => valid_at c o f W
  have HS : Hid (∀ W : World, Grew w0 W → Calls Try.prog 30 #[.slice p xs.length cap] W fun e w' => e = .returned (.bool (okV xs)) ∧ Grew W w') := Lib.hid fun W hg => steps_any p xs.length cap xs W rfl (hx.kept hg)
  have hcap := hx.cap
  have hmax := hx.max
  rw [h1] at HV
  rw [h4] at HS
  clear hx h1 h4 h6 h7 htn
  have HGd : Hid (∀ k j : Nat, ∀ hk : k < xs.length, j ≤ (xs[k]).2.toNat → Gd (tn (xs.take k) + j) ld (0 + hs (xs.take k) + (xs[k]).1 * j) (tkN ld (xs[k]).1 j (run ld (xs.take k) (sm0 c o f)))) := Lib.hid fun k j hk hj => by
    have g1 := Gd.run ⟨h2, h3⟩ (xs.take k) HG0.out (okL_take HL.out k)
    rw [Nat.zero_add] at g1
    exact g1.tkN (okL_iff.1 HL.out _ (List.getElem_mem hk)).1 ⟨h2, h3⟩ j
  have HTk : Hid (∀ k j : Nat, ∀ hk : k < xs.length, j ≤ (xs[k]).2.toNat → tn (xs.take k) + j ≤ 65536) := Lib.hid fun k j hk hj => by
    have h1 := tn_next hk
    have h2 := tn_take xs (k + 1)
    have h3 := HTN.out
    omega
  go_enter Try.func22, Try.ntmps22
  go_wp2_with (first
    | (go_at_call 26; (with_reducible refine (HV.out _).mono ?_); rintro e w1 ⟨rfl, rfl⟩)
    | (go_at_call 30; (with_reducible refine (HS.out _ ((Grew.refl _).al _ |>.al _)).mono ?_); rintro e w2 ⟨rfl, g2⟩; have HG := Lib.hid (((Grew.refl _).al _ |>.al _).trans g2); obtain ⟨q0, q1, q2, ql⟩ := cf_cells g2; clear g2))
  obtain ⟨S, hS⟩ : ∃ S, S = w2.heap.size := ⟨_, rfl⟩
  rw [← hS]
  refine wp_at6 (fun W => SimS w0.heap.size S ld (sm0 c o f) W ∧ Grew w0 W) ⟨⟨⟨none, 0, by rw [hS]; exact heap_alloc_new w2 _, OwI.nil _ _ _⟩, by rw [hS]; exact HG.out.size⟩, HG.out.al _⟩ ?_
  intro W hW
  have HW := Lib.hid hW
  clear hS hW HG HV HS HG0 q0 q1 q2 ql
  go_loopg [33] xs.length (fun gg iv wr => ∃ k : Nat, iv = .int .i64 (k : Int) ∧ k ≤ xs.length ∧ gg = xs.length - k ∧ Hid (SimS w0.heap.size S ld (run ld (xs.take k) (sm0 c o f)) wr ∧ Grew w0 wr))
  case atStart => exact ⟨0, rfl, Nat.zero_le _, rfl, HW⟩
  clear HW
  case round =>
    obtain ⟨k, rfl, hk, rfl, HW⟩ := hrel
    by_cases hlt : k < xs.length
    · obtain ⟨b', o', rfl, hcc⟩ := (HX.out.kept HW.out.2).cells (by omega)
      obtain ⟨d0, d1⟩ := hcc k xs[k] (by simp [hlt])
      have hlb : b' < wr.heap.size := World.block_lt_of_cell? _ _ d0
      have HLT := Lib.hid (Nat.succ_le_of_lt hlt)
      have HGk := Lib.hid fun j hj => HGd.out k j hlt hj
      have HTj := Lib.hid fun j hj => HTk.out k j hlt hj
      have HRN := Lib.hid (run_next hlt (ld := ld) (sm0 c o f))
      have HOK := Lib.hid (okL_iff.1 HL.out _ (List.getElem_mem hlt))
      have y20 := (okT_iff.1 HOK.out.2).1
      have y21 := (okT_iff.1 HOK.out.2).2
      generalize xs[k] = y at d0 d1 HGk HTj HRN HOK y20 y21
      obtain ⟨y1, y2⟩ := y
      simp only at d0 d1 HGk HTj HRN HOK y20 y21
      obtain ⟨m, rfl⟩ : ∃ m : Nat, y2 = (m : Int) := ⟨y2.toNat, by omega⟩
      simp only [Int.toNat_natCast] at HGk HTj HRN
      clear hcc
      obtain ⟨T, hT⟩ : ∃ T, T = wr.heap.size := ⟨_, rfl⟩
      have HWA : Hid (∀ s1 : Sm, s1 = run ld (xs.take k) (sm0 c o f) → SimS w0.heap.size S ld s1 (wr.alloc (.cells #[.int .i64 y1, .int .i64 (m : Int)] 53)) ∧ Grew w0 (wr.alloc (.cells #[.int .i64 y1, .int .i64 (m : Int)] 53)) ∧ (wr.alloc (.cells #[.int .i64 y1, .int .i64 (m : Int)] 53)).heap[T]? = some (.cells #[.int .i64 y1, .int .i64 (m : Int)] 53)) := Lib.hid fun s1 hs1 => by
        rw [hs1, hT]
        obtain ⟨⟨⟨p1, c1, e1, e2⟩, e3⟩, e4⟩ := HW.out
        exact ⟨⟨⟨p1, c1, e1.grew ((Grew.refl wr).al _), OwI.kept e2 ((Grew.refl wr).al _)⟩, e3⟩, e4.al _, heap_alloc_new wr _⟩
      have HK0 := Lib.hid hT
      clear hT
      go_wp2
      rw [← HK0.out]
      refine wp_at6 (fun W => SimS w0.heap.size S ld (tkN ld y1 0 (run ld (xs.take k) (sm0 c o f))) W ∧ Grew w0 W ∧ W.heap[T]? = some (.cells #[.int .i64 y1, .int .i64 (m : Int)] 53)) (HWA.out _ rfl) ?_
      intro W2 hW2
      have HW2 := Lib.hid hW2
      clear hW2 HWA HW HK0 hlb d0 d1
      go_loopg [39] m (fun gg jv wr => ∃ j : Nat, jv = .int .i64 (j : Int) ∧ j ≤ m ∧ gg = m - j ∧ Hid (SimS w0.heap.size S ld (tkN ld y1 j (run ld (xs.take k) (sm0 c o f))) wr ∧ Grew w0 wr ∧ wr.heap[T]? = some (.cells #[.int .i64 y1, .int .i64 (m : Int)] 53)))
      case atStart => exact ⟨0, rfl, Nat.zero_le _, rfl, HW2⟩
      clear HW2
      case round =>
        obtain ⟨j, rfl, hj, rfl, HW⟩ := hrel
        by_cases hjl : j < m
        · have HJL := Lib.hid (Nat.succ_le_of_lt hjl)
          have b0 : wr.cell? ⟨T, 0, none⟩ = some (.int .i64 y1) := by rw [cells_of_heap HW.out.2.2]; rfl
          have bl := lt_of_heap HW.out.2.2
          have HTI := Lib.hid (tick_any w0.heap.size S ld _ y1 _ _ wr HW.out.1 (HGk.out j hj) (HTj.out j hj) HOK.out.1 ⟨h2, h3⟩ HW.out.2.1.size)
          go_wp2_with (first
            | (go_at_call 31; (with_reducible refine (HTI.out).mono ?_); rintro e w3 ⟨rfl, s3, k3⟩; have HS3 := Lib.hid s3; have HK3 := Lib.hid k3; clear s3 k3))
          go_roundg (m - (j + 1))
          case measure => have := HJL.out; omega
          case rel => exact ⟨j + 1, by go_num, HJL.out, rfl, Lib.hid ⟨HS3.out, Below.trans (show Below w0.heap.size w0 wr from HW.out.2.1) HK3.out.below, HK3.out.other T _ _ HW.out.2.2 (by decide) (by decide)⟩⟩
        · obtain rfl : j = m := by omega
          have HWE := Lib.hid (And.intro (HRN.out ▸ HW.out.1) HW.out.2.1)
          go_wp2
          go_roundg (xs.length - (k + 1))
          case measure => have := HLT.out; omega
          case rel => exact ⟨k + 1, by go_num, HLT.out, rfl, HWE⟩
    · obtain rfl : k = xs.length := by omega
      rw [List.take_length] at HW
      obtain ⟨⟨⟨p1, c1, e1, e2⟩, e3⟩, e4⟩ := HW.out
      have t7 : wr.cell? ⟨S, 7, none⟩ = some (.slice p1 (run ld xs (sm0 c o f)).L.length c1) := e1.rest 2
      have HE := Lib.hid (And.intro e2.rd.2 e4)
      clear e1 e2 e3 e4
      go_wp2
      go_ret2
      exact ⟨p1, c1, rfl, HE.out.1, HE.out.2⟩
end Go.Proofs.Ytjepjcdobgdacaa
