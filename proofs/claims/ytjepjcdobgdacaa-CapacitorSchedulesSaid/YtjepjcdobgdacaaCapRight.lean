/-
  LAYER 8 (capacitor): whether the arguments of a schedule are valid: validSteps, the reference's Right.
-/
import Derived.Test.YtjepjcdobgdacaaCapSim
namespace Go.Proofs.Ytjepjcdobgdacaa
open Go Go.RowKit Go.IntWalk
set_option linter.unusedSimpArgs false
set_option maxRecDepth 8000

def okV (xs : List It) : Bool := decide (xs.length ≤ 64) && okL xs && decide (tot xs ≤ 65536)
theorem okS_eq (c o f ld : Int) (xs : List It) : okS c o f ld xs = (okC c o f && (decide (1 ≤ ld) && decide (ld ≤ 1048576)) && okV xs) := rfl
theorem okL_bad {xs : List It} {k : Nat} (hk : k < xs.length) (h : (okP (xs[k]).1 && okT (xs[k]).2) = false) : okL xs = false := by
  cases ho : okL xs with
  | false => rfl
  | true =>
    have := okL_iff.1 ho xs[k] (List.getElem_mem hk)
    rw [this.1, this.2] at h
    cases h
theorem okV_bad {xs : List It} {k : Nat} (hk : k < xs.length) (h : (okP (xs[k]).1 && okT (xs[k]).2) = false) : okV xs = false := by simp [okV, okL_bad hk h]
theorem okL_next {xs : List It} {k : Nat} (hk : k < xs.length) (h : okL (xs.take k) = true) (h' : (okP (xs[k]).1 && okT (xs[k]).2) = true) : okL (xs.take (k + 1)) = true := by
  rw [take_snoc hk, okL_snoc, h, h']
  rfl
theorem tot_next {xs : List It} {k : Nat} (hk : k < xs.length) : tot (xs.take (k + 1)) = tot (xs.take k) + (xs[k]).2 := by
  rw [take_snoc hk, tot_append]
  simp [tot]
set_option maxHeartbeats 4000000 in
theorem steps_any (p : Option Addr) (n cap : Nat) (xs : List It) (w0 : World) (hl : xs.length = n) (hx : RdI w0 p cap xs) :
    Calls Try.prog 30 #[.slice p n cap] w0 fun e w' => e = .returned (.bool (okV xs)) ∧ Grew w0 w' := by
  subst hl
  have HX := Lib.hid hx
  have hcap := hx.cap
  have hmax := hx.max
  clear hx
  rcases Nat.lt_or_ge 64 xs.length with h64 | h64
  · rw [show okV xs = false by simp [okV]; omega]
    go_enter Try.func30, Try.ntmps30
    go_wp2
    go_ret
    exact ⟨rfl, Grew.refl _⟩
  · obtain ⟨V, hV⟩ : ∃ V, V = okV xs := ⟨_, rfl⟩
    have HVb : Hid (∀ k, ∀ hk : k < xs.length, (okP (xs[k]).1 && okT (xs[k]).2) = false → V = false) := Lib.hid fun k hk h => by rw [hV]; exact okV_bad hk h
    have HVt : Hid (okL xs = true → V = decide (tot xs ≤ 65536)) := Lib.hid fun h => by rw [hV]; simp [okV, h, h64]
    rw [← hV]
    clear hV
    go_enter Try.func30, Try.ntmps30
    go_wp2
    go_loopg [3, 11] xs.length (fun gg tv iv wr => ∃ (k : Nat) (z : Int), tv = .int .i64 z ∧ iv = .int .i64 (k : Int) ∧ k ≤ xs.length ∧ gg = xs.length - k ∧ 0 ≤ z ∧ z ≤ 70368744177664 ∧ Hid (z = tot (xs.take k)) ∧ Hid (okL (xs.take k) = true) ∧ Hid (Grew w0 wr))
    case atStart => exact ⟨0, 0, rfl, rfl, Nat.zero_le _, rfl, by omega, by omega, Lib.hid rfl, Lib.hid rfl, Lib.hid (Grew.refl _)⟩
    case round =>
      obtain ⟨k, z, rfl, rfl, hk, rfl, z0, z1, HZ, HO, HG⟩ := hrel
      by_cases hlt : k < xs.length
      · obtain ⟨b', o', rfl, hcc⟩ := (HX.out.kept HG.out).cells (by omega)
        obtain ⟨d0, d1⟩ := hcc k xs[k] (by simp [hlt])
        have hlb : b' < wr.heap.size := World.block_lt_of_cell? _ _ d0
        have HLT := Lib.hid (Nat.succ_le_of_lt hlt)
        have HB := Lib.hid (HVb.out k hlt)
        have HN := Lib.hid (fun h => okL_next hlt HO.out h)
        have HTN := Lib.hid (tot_next hlt)
        generalize xs[k] = y at d0 d1 HB HN HTN
        obtain ⟨y1, y2⟩ := y
        simp only at d0 d1 HB HN HTN
        clear hcc
        have HP := Lib.hid fun W => power_any y1 W
        have HT := Lib.hid fun W => ticks_any y2 W
        cases hp : okP y1 with
        | false =>
          rw [hp] at HP
          obtain rfl : V = false := HB.out (by rw [hp]; rfl)
          clear hp
          go_wp2_with (first
            | (go_at_call 27; (with_reducible refine (HP.out _).mono ?_); rintro e _ ⟨rfl, rfl⟩))
          go_ret
          exact ⟨rfl, HG.out.al _⟩
        | true =>
          rw [hp] at HP
          cases ht : okT y2 with
          | false =>
            rw [ht] at HT
            obtain rfl : V = false := HB.out (by rw [hp, ht]; rfl)
            clear hp ht
            go_wp2_with (first
              | (go_at_call 27; (with_reducible refine (HP.out _).mono ?_); rintro e _ ⟨rfl, rfl⟩)
              | (go_at_call 28; (with_reducible refine (HT.out _).mono ?_); rintro e _ ⟨rfl, rfl⟩))
            go_ret
            exact ⟨rfl, HG.out.al _⟩
          | true =>
            rw [ht] at HT
            have hO2 := HN.out (by rw [hp, ht]; rfl)
            have HO2 := Lib.hid hO2
            obtain ⟨y20, y21⟩ := okT_iff.1 ht
            have hb2 := tot_bound hO2
            have hl2 : (xs.take (k + 1)).length ≤ 64 := by simp; omega
            have HZ2 : Hid (z + y2 = tot (xs.take (k + 1))) := Lib.hid (by rw [HTN.out, HZ.out])
            have hz2 : z + y2 ≤ 70368744177664 := by rw [HZ2.out]; omega
            have hw : IntKind.i64.wrap (z + y2) = z + y2 := IntWalk.i64_in _ (by omega)
            clear hp ht hO2 hb2 hl2
            go_wp2_with (first
              | (go_at_call 27; (with_reducible refine (HP.out _).mono ?_); rintro e _ ⟨rfl, rfl⟩)
              | (go_at_call 28; (with_reducible refine (HT.out _).mono ?_); rintro e _ ⟨rfl, rfl⟩))
            go_roundg (xs.length - (k + 1))
            case measure => have := HLT.out; omega
            case rel => exact ⟨k + 1, z + y2, rfl, by go_num, HLT.out, rfl, by omega, hz2, HZ2, HO2, Lib.hid (HG.out.al _)⟩
      · obtain rfl : k = xs.length := by omega
        have hz : z = tot xs := by rw [HZ.out, List.take_length]
        have hV : V = decide (z ≤ 65536) := by rw [hz]; exact HVt.out (by have := HO.out; rwa [List.take_length] at this)
        have HVV := Lib.hid hV
        clear hz hV
        go_wp2
        go_ret
        refine ⟨?_, HG.out⟩
        rw [HVV.out]
        rfl
set_option maxHeartbeats 4000000 in
theorem right_any (c o f ld : Int) (p : Option Addr) (n cap : Nat) (xs : List It) (w0 : World) (hl : xs.length = n) (hx : RdI w0 p cap xs) :
    Calls Try.prog 21 #[cfv c o f, .int .i64 ld, .slice p n cap] w0 fun e w' => e = .returned (.bool (okS c o f ld xs)) ∧ Grew w0 w' := by
  subst hl
  have HX := Lib.hid hx
  have hcap := hx.cap
  have hmax := hx.max
  clear hx
  obtain ⟨V, hV⟩ : ∃ V, V = okS c o f ld xs := ⟨_, rfl⟩
  have HVb : Hid (∀ k, ∀ hk : k < xs.length, (okP (xs[k]).1 && okT (xs[k]).2) = false → V = false) := Lib.hid fun k hk h => by rw [hV, okS_eq, okV_bad hk h]; simp
  have HVt : Hid (okL xs = true → V = (okC c o f && (decide (1 ≤ ld) && decide (ld ≤ 1048576)) && (decide (xs.length ≤ 64) && decide (tot xs ≤ 65536)))) := Lib.hid fun h => by rw [hV]; simp [okS, h]
  rw [← hV]
  clear hV
  have hg1 := (Grew.refl w0).al (.cells #[.int .i64 c, .int .i64 o, .int .i64 f] 23)
  have HQ : Hid (Grew w0 (w0.alloc (.cells #[.int .i64 c, .int .i64 o, .int .i64 f] 23)) ∧ (w0.alloc (.cells #[.int .i64 c, .int .i64 o, .int .i64 f] 23)).heap[w0.heap.size]? = some (.cells #[.int .i64 c, .int .i64 o, .int .i64 f] 23)) := Lib.hid ⟨hg1, heap_alloc_new w0 _⟩
  clear hg1
  go_enter Try.func21, Try.ntmps21
  go_wp2
  go_loopg [7, 12] xs.length (fun gg tv iv wr => ∃ (k : Nat) (z : Int), tv = .int .i64 z ∧ iv = .int .i64 (k : Int) ∧ k ≤ xs.length ∧ gg = xs.length - k ∧ 0 ≤ z ∧ z ≤ 2199023255552 ∧ Hid (z = min (tot (xs.take k)) 2199023255552) ∧ Hid (okL (xs.take k) = true) ∧ Hid (Grew w0 wr ∧ wr.heap[w0.heap.size]? = some (.cells #[.int .i64 c, .int .i64 o, .int .i64 f] 23)))
  case atStart => exact ⟨0, 0, rfl, rfl, Nat.zero_le _, rfl, by omega, by omega, Lib.hid rfl, Lib.hid rfl, HQ⟩
  case round =>
    obtain ⟨k, z, rfl, rfl, hk, rfl, z0, z1, HZ, HO, HGQ⟩ := hrel
    have HG := Lib.hid HGQ.out.1
    by_cases hlt : k < xs.length
    · obtain ⟨b', o', rfl, hcc⟩ := (HX.out.kept HG.out).cells (by omega)
      obtain ⟨d0, d1⟩ := hcc k xs[k] (by simp [hlt])
      have hlb : b' < wr.heap.size := World.block_lt_of_cell? _ _ d0
      have HLT := Lib.hid (Nat.succ_le_of_lt hlt)
      have HB := Lib.hid (HVb.out k hlt)
      have HN := Lib.hid (fun h => okL_next hlt HO.out h)
      have HTN := Lib.hid (tot_next hlt)
      generalize xs[k] = y at d0 d1 HB HN HTN
      obtain ⟨y1, y2⟩ := y
      simp only at d0 d1 HB HN HTN
      clear hcc
      have HS := Lib.hid fun W => supply_any y1 y2 W
      cases hs : okP y1 && okT y2 with
      | false =>
        rw [hs] at HS
        obtain rfl : V = false := HB.out hs
        clear hs
        go_wp2_with (first
          | (go_at_call 29; (with_reducible refine (HS.out _).mono ?_); rintro e _ ⟨rfl, rfl⟩))
        go_ret
        exact ⟨rfl, HG.out.al _⟩
      | true =>
        rw [hs] at HS
        have HO2 := Lib.hid (HN.out hs)
        obtain ⟨y20, y21⟩ := okT_iff.1 (Bool.and_eq_true_iff.1 hs).2
        have hnn := tot_nonneg HO.out
        have HGN : Hid (∀ o1 : Obj, Grew w0 (wr.alloc o1) ∧ (wr.alloc o1).heap[w0.heap.size]? = some (.cells #[.int .i64 c, .int .i64 o, .int .i64 f] 23)) := Lib.hid fun o1 => ⟨HG.out.al _, ((Grew.refl wr).al o1).heap HGQ.out.2⟩
        have hw : IntKind.i64.wrap (z + y2) = z + y2 := IntWalk.i64_in _ (by omega)
        clear hs
        rcases Int.lt_or_le 2199023255552 (z + y2) with hz | hz
        · have HZ2 : Hid ((2199023255552 : Int) = min (tot (xs.take (k + 1))) 2199023255552) := Lib.hid (by
            have h1 := HTN.out
            have h2 := HZ.out
            omega)
          go_wp2_with (first
            | (go_at_call 29; (with_reducible refine (HS.out _).mono ?_); rintro e _ ⟨rfl, rfl⟩))
          go_roundg (xs.length - (k + 1))
          case measure => have := HLT.out; omega
          case rel => exact ⟨k + 1, 2199023255552, rfl, by go_num, HLT.out, rfl, by omega, by omega, HZ2, HO2, Lib.hid (HGN.out _)⟩
        · have HZ2 : Hid (z + y2 = min (tot (xs.take (k + 1))) 2199023255552) := Lib.hid (by
            have h1 := HTN.out
            have h2 := HZ.out
            omega)
          go_wp2_with (first
            | (go_at_call 29; (with_reducible refine (HS.out _).mono ?_); rintro e _ ⟨rfl, rfl⟩))
          go_roundg (xs.length - (k + 1))
          case measure => have := HLT.out; omega
          case rel => exact ⟨k + 1, z + y2, rfl, by go_num, HLT.out, rfl, by omega, by omega, HZ2, HO2, Lib.hid (HGN.out _)⟩
    · obtain rfl : k = xs.length := by omega
      obtain ⟨q0, q1, q2⟩ : wr.cell? ⟨w0.heap.size, 0, none⟩ = some (.int .i64 c) ∧ wr.cell? ⟨w0.heap.size, 1, none⟩ = some (.int .i64 o) ∧ wr.cell? ⟨w0.heap.size, 2, none⟩ = some (.int .i64 f) := by
        refine ⟨?_, ?_, ?_⟩ <;> rw [cells_of_heap HGQ.out.2] <;> rfl
      have ql := lt_of_heap HGQ.out.2
      have hV : V = (okC c o f && (decide (1 ≤ ld) && decide (ld ≤ 1048576)) && (decide (xs.length ≤ 64) && decide (z ≤ 65536))) := by
        have h1 : okL xs = true := by have := HO.out; rwa [List.take_length] at this
        have h2 : z = min (tot xs) 2199023255552 := by have := HZ.out; rwa [List.take_length] at this
        rw [HVt.out h1]
        congr 2
        simp only [decide_eq_decide]
        omega
      have HVV := Lib.hid hV
      clear hV
      have HV := Lib.hid fun W => rvalid_any c o f W
      generalize okC c o f = C at HV HVV
      cases C with
      | false =>
        obtain rfl : V = false := by rw [HVV.out]; rfl
        go_wp2_with (first
          | (go_at_call 12; (with_reducible refine (HV.out _).mono ?_); rintro e w9 ⟨rfl, g0⟩; have HG9 := Lib.hid (HG.out.trans g0); clear g0))
        go_ret
        exact ⟨rfl, HG9.out⟩
      | true =>
        go_wp2_with (first
          | (go_at_call 12; (with_reducible refine (HV.out _).mono ?_); rintro e w9 ⟨rfl, g0⟩; have HG9 := Lib.hid (HG.out.trans g0); clear g0))
        all_goals go_ret
        all_goals (refine ⟨?_, HG9.out⟩; rw [HVV.out]; simp_all)
        all_goals (intros; omega)
end Go.Proofs.Ytjepjcdobgdacaa
