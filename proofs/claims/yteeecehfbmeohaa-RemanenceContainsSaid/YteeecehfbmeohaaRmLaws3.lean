/-
  THE STATEMENTS OF LAYER 9 (remanence), WALKED: Clock, Order and Restore.
-/
import Derived.Test.YteeecehfbmeohaaRmLaws2
namespace Go.Proofs.Yteeecehfbmeohaa
open Go Go.RowKit Go.IntWalk
set_option linter.unusedSimpArgs false
set_option maxRecDepth 8000

abbrev opc (a : Op9) : List Value := [.int .i64 a.1, .int .i64 a.2.1, .int .i64 a.2.2.1, .int .i64 a.2.2.2]
/-- What a round keeps: the clock at b and the reference's in the box S are s. -/
structure Dg (w0 : World) (b S : Nat) (s : Ck) (w : World) : Prop where
  ck : Blk b (ckc s) 36 w
  mo : Blk S (ckc s) 38 w
  grew : Grew w0 w
  far : w0.heap.size ≤ b
  farS : w0.heap.size ≤ S
theorem Dg.on {w0 w w' : World} {b S : Nat} {s : Ck} (h : Dg w0 b S s w) (hg : Grew w w') : Dg w0 b S s w' := ⟨h.ck.grew hg, h.mo.grew hg, h.grew.trans hg, h.far, h.farS⟩
theorem Dg.to {w0 w w' : World} {b S : Nat} {s z : Ck} (h : Dg w0 b S s w) (h1 : Blk b (ckc z) 36 w') (h2 : Blk S (ckc z) 38 w') (c : Chg w w' (fun j => j = b ∨ j = S)) : Dg w0 b S z w' :=
  ⟨h1, h2, grew_lift h.grew c (fun _ hk => hk.elim (fun e => e ▸ h.far) (fun e => e ▸ h.farS)), h.far, h.farS⟩
theorem Cg.zero : Cg ⟨0, 0, 0⟩ 0 := ⟨rfl, Int.le_refl _, Int.le_refl _⟩
set_option maxHeartbeats 4000000 in
theorem clock_law (p : Option Addr) (n cap : Nat) (xs : List Op9) (w0 : World) (hl : xs.length = n) (hx : RdL 4 opc w0 p cap xs) (hok : True) :
    Calls Try.prog 4 #[.slice p n cap] w0 fun e w' => e = .returned (.bool true) ∧ Grew w0 w' := by
  subst hl
  have HX := Lib.hid hx
  have HO := Lib.hid hok
  have hcap := hx.cap
  have hmax := hx.max
  clear hx hok
  have tkx := Lib.hid trivial
  go_enter Try.func4, Try.ntmps4
  go_wp2_with (first
    | (go_at_call 13; (with_reducible refine (examples_any _).mono ?_); rintro e w1 ⟨rfl, g1⟩; clear tkx; have HB := Lib.hid g1; clear g1)
    | (go_at_call 13; (with_reducible refine (examples_any _).mono ?_); rintro e w2 ⟨rfl, g2⟩; replace HB := Lib.hid (HB.out.trans g2); clear g2))
  · go_ret
    exact ⟨rfl, HB.out⟩
  obtain ⟨b, hb⟩ : ∃ b, b = w1.heap.size := ⟨_, rfl⟩
  rw [← hb]
  refine wp_at9 (fun W => Dg w0 b (b + 1) ⟨0, 0, 0⟩ W) ⟨Blk.grew (w := w1.alloc (.cells #[.int .i64 0, .int .i64 0, .int .i64 0] 36)) (by rw [hb]; exact Blk.new w1 _ _) ((Grew.refl _).alloc _), by rw [hb]; simpa using Blk.new (w1.alloc (.cells #[.int .i64 0, .int .i64 0, .int .i64 0] 36)) (ckc ⟨0, 0, 0⟩) 38, (HB.out.alloc _).alloc _, by rw [hb]; exact HB.out.size, by have := HB.out.size; show w0.heap.size ≤ b + 1; omega⟩ ?_
  intro W hW
  have HS := Lib.hid hW
  generalize b + 1 = S at HS ⊢
  clear hb hW HB
  go_loopg [17] xs.length (fun gg iv wr => ∃ (k : Nat) (s : Ck), iv = .int .i64 (k : Int) ∧ k ≤ xs.length ∧ gg = xs.length - k ∧ Hid (Cg s (k)) ∧ Hid (Dg w0 b S s wr))
  case atStart => exact ⟨0, ⟨0, 0, 0⟩, rfl, Nat.zero_le _, rfl, Lib.hid Cg.zero, HS⟩
  clear HS
  case round =>
    obtain ⟨k, s, rfl, hk, rfl, HG, HR⟩ := hrel
    by_cases hlt : k < xs.length
    · obtain ⟨b', o', rfl, hcc⟩ := (HX.out.kept HR.out.grew).cells (by omega)
      have hc1 := hcc k xs[k] (by simp [hlt])
      have hlb : b' < wr.heap.size := World.block_lt_of_cell? _ _ (hc1 0 _ rfl)
      have HLT := Lib.hid (Nat.succ_le_of_lt hlt)
      generalize xs[k] = a at hc1
      have d0 : wr.cell? ⟨b', o' + k * 4, none⟩ = some (.int .i64 a.1) := by simpa using hc1 0 _ rfl
      have d1 : wr.cell? ⟨b', o' + k * 4 + 1, none⟩ = some (.int .i64 a.2.1) := hc1 1 _ rfl
      have d2 : wr.cell? ⟨b', o' + k * 4 + 2, none⟩ = some (.int .i64 a.2.2.1) := hc1 2 _ rfl
      have d3 : wr.cell? ⟨b', o' + k * 4 + 3, none⟩ = some (.int .i64 a.2.2.2) := hc1 3 _ rfl
      have HGU : Hid (Cg s 4611686018427387904) := Lib.hid (HG.out.up (by omega))
      have HGN : Hid (Cg (stp s a) ((k + 1 : Nat))) := Lib.hid ((HG.out.stp a).up (by omega))
      have HRA : Hid (∀ ob, Dg w0 b S s (wr.alloc ob)) := Lib.hid fun ob => HR.out.on ((Grew.refl wr).alloc ob)
      clear hcc hc1
      go_wp2_with (go_at_call 14; (with_reducible refine (do_any b S s a _ (HRA.out _).ck (HRA.out _).mo HGU.out).mono ?_); rintro e w3 ⟨rfl, h1, h2, c1⟩; have HD : Hid (Dg w0 b S (stp s a) w3) := Lib.hid ((HRA.out _).to h1 h2 c1); clear h1 h2 c1)
      go_roundg (xs.length - (k + 1))
      case measure => have := HLT.out; omega
      case rel => exact ⟨k + 1, stp s a, by go_num, HLT.out, rfl, HGN, HD⟩
    · obtain rfl : k = xs.length := by omega
      go_wp2
      go_ret
      exact ⟨rfl, HR.out.grew⟩
theorem stp_order {s : Ck} (h : va s.lo s.hi = true) (a : Op9) : s.lo ≤ (stp s a).lo ∧ (stp s a).lo ≤ (stp s a).hi ∧ s.ep ≤ (stp s a).ep ∧ ((stp s a).ep = s.ep → s.hi ≤ (stp s a).hi ∧ ((stp s a).hi < 1099511627776 → s.hi - s.lo ≤ (stp s a).hi - (stp s a).lo)) := by
  have v := va_iff.1 h
  have off : ∀ x y, s.lo ≤ (offc s x y).lo ∧ (offc s x y).lo ≤ (offc s x y).hi ∧ s.ep ≤ (offc s x y).ep ∧ ((offc s x y).ep = s.ep → s.hi ≤ (offc s x y).hi ∧ ((offc s x y).hi < 1099511627776 → s.hi - s.lo ≤ (offc s x y).hi - (offc s x y).lo)) := fun x y => by
    cases hv : va x y
    · rw [offc_no hv]; omega
    · have u := va_iff.1 hv
      rw [offc_yes hv]
      simp only
      unfold cl
      omega
  unfold stp
  split
  · exact off _ _
  · split
    · exact off _ _
    · split
      · cases hv : va a.2.2.1 a.2.2.2
        · rw [satc_no hv]; omega
        · have u := va_iff.1 hv
          rw [satc_yes hv]
          simp only
          unfold cl
          omega
      · omega
set_option maxHeartbeats 8000000 in
theorem order_law (p : Option Addr) (n cap : Nat) (xs : List Op9) (w0 : World) (hl : xs.length = n) (hx : RdL 4 opc w0 p cap xs) (hok : True) :
    Calls Try.prog 9 #[.slice p n cap] w0 fun e w' => e = .returned (.bool true) ∧ Grew w0 w' := by
  subst hl
  have HX := Lib.hid hx
  have HO := Lib.hid hok
  have hcap := hx.cap
  have hmax := hx.max
  clear hx hok
  have tkx := Lib.hid trivial
  go_enter Try.func9, Try.ntmps9
  go_wp2_with (first
    | (go_at_call 13; (with_reducible refine (examples_any _).mono ?_); rintro e w1 ⟨rfl, g1⟩; clear tkx; have HB := Lib.hid g1; clear g1)
    | (go_at_call 13; (with_reducible refine (examples_any _).mono ?_); rintro e w2 ⟨rfl, g2⟩; replace HB := Lib.hid (HB.out.trans g2); clear g2))
  · go_ret
    exact ⟨rfl, HB.out⟩
  obtain ⟨b, hb⟩ : ∃ b, b = w1.heap.size := ⟨_, rfl⟩
  rw [← hb]
  refine wp_at9 (fun W => Dg w0 b (b + 1) ⟨0, 0, 0⟩ W) ⟨Blk.grew (w := w1.alloc (.cells #[.int .i64 0, .int .i64 0, .int .i64 0] 36)) (by rw [hb]; exact Blk.new w1 _ _) ((Grew.refl _).alloc _), by rw [hb]; simpa using Blk.new (w1.alloc (.cells #[.int .i64 0, .int .i64 0, .int .i64 0] 36)) (ckc ⟨0, 0, 0⟩) 38, (HB.out.alloc _).alloc _, by rw [hb]; exact HB.out.size, by have := HB.out.size; show w0.heap.size ≤ b + 1; omega⟩ ?_
  intro W hW
  have HS := Lib.hid hW
  generalize b + 1 = S at HS ⊢
  clear hb hW HB
  go_loopg [20] xs.length (fun gg iv wr => ∃ (k : Nat) (s : Ck), iv = .int .i64 (k : Int) ∧ k ≤ xs.length ∧ gg = xs.length - k ∧ Hid (Cg s (k)) ∧ Hid (Dg w0 b S s wr))
  case atStart => exact ⟨0, ⟨0, 0, 0⟩, rfl, Nat.zero_le _, rfl, Lib.hid Cg.zero, HS⟩
  clear HS
  case round =>
    obtain ⟨k, s, rfl, hk, rfl, HG, HR⟩ := hrel
    by_cases hlt : k < xs.length
    · obtain ⟨b', o', rfl, hcc⟩ := (HX.out.kept HR.out.grew).cells (by omega)
      have hc1 := hcc k xs[k] (by simp [hlt])
      have hlb : b' < wr.heap.size := World.block_lt_of_cell? _ _ (hc1 0 _ rfl)
      have HLT := Lib.hid (Nat.succ_le_of_lt hlt)
      generalize xs[k] = a at hc1
      have d0 : wr.cell? ⟨b', o' + k * 4, none⟩ = some (.int .i64 a.1) := by simpa using hc1 0 _ rfl
      have d1 : wr.cell? ⟨b', o' + k * 4 + 1, none⟩ = some (.int .i64 a.2.1) := hc1 1 _ rfl
      have d2 : wr.cell? ⟨b', o' + k * 4 + 2, none⟩ = some (.int .i64 a.2.2.1) := hc1 2 _ rfl
      have d3 : wr.cell? ⟨b', o' + k * 4 + 3, none⟩ = some (.int .i64 a.2.2.2) := hc1 3 _ rfl
      have HGU : Hid (Cg s 4611686018427387904) := Lib.hid (HG.out.up (by omega))
      have HGN : Hid (Cg (stp s a) ((k + 1 : Nat))) := Lib.hid ((HG.out.stp a).up (by omega))
      have HRA : Hid (∀ ob, Dg w0 b S s (wr.alloc ob)) := Lib.hid fun ob => HR.out.on ((Grew.refl wr).alloc ob)
      clear hcc hc1
      have hz := stp_order HG.out.v a
      obtain ⟨z0, z1, z2, z3⟩ := hz
      have v0 := va_iff.1 HG.out.v
      have v1 := va_iff.1 (HG.out.stp a).v
      have tka := Lib.hid trivial
      have tkb := Lib.hid trivial
      have tkc := Lib.hid trivial
      have HZ : Hid (stp s a = stp s a) := Lib.hid rfl
      have hw1 : IntKind.i64.wrap ((stp s a).hi - (stp s a).lo) = (stp s a).hi - (stp s a).lo := IntWalk.i64_in _ (by omega)
      have hw2 : IntKind.i64.wrap (s.hi - s.lo) = s.hi - s.lo := IntWalk.i64_in _ (by omega)
      by_cases hE : (stp s a).ep = s.ep
      · obtain ⟨y0, y1⟩ := z3 hE
        clear z3
        by_cases hM : (stp s a).hi < 1099511627776
        · have y2 := y1 hM
          clear y1
          go_wp2_with (first
            | (go_at_call 18; (with_reducible refine (now_any b s _ (HRA.out _).ck).mono ?_); rintro e w3 ⟨rfl, g3⟩; clear tka; have HR3 : Hid (Dg w0 b S s w3) := Lib.hid ((HRA.out _).on g3); have HA3 : Hid (Blk wr.heap.size (opc a) 40 w3) := Lib.hid (Blk.grew (Blk.new wr _ _) g3); clear g3; have e0 := HA3.out.cell 0; have e1 := HA3.out.cell 1; have e2 := HA3.out.cell 2; have e3 := HA3.out.cell 3; simp only [List.getElem?_cons_zero, List.getElem?_cons_succ] at e0 e1 e2 e3; have el := HA3.out.lt)
            | (go_at_call 19; (with_reducible refine (epoch_st b s _ HR3.out.ck).mono ?_); rintro e w9 ⟨rfl, hw9⟩; clear tkb; subst w9)
            | (go_at_call 14; (with_reducible refine (do_any b S s a _ (HR3.out.on ((Grew.refl _).alloc _)).ck (HR3.out.on ((Grew.refl _).alloc _)).mo HGU.out).mono ?_); rintro e w4 ⟨rfl, h1, h2, c1⟩; clear tkc; have HD4 : Hid (Dg w0 b S (stp s a) w4) := Lib.hid ((HR3.out.on ((Grew.refl _).alloc _)).to h1 h2 c1); have HW4 : Hid (Blk w3.heap.size [.int .i64 s.lo, .int .i64 s.hi] 25 w4) := Lib.hid (Blk.chg (Blk.new w3 [.int .i64 s.lo, .int .i64 s.hi] _) c1 (fun h => h.elim (Blk.ne (Blk.new w3 [.int .i64 s.lo, .int .i64 s.hi] 25) (HR3.out.on ((Grew.refl _).alloc _)).ck (by decide)) (Blk.ne (Blk.new w3 [.int .i64 s.lo, .int .i64 s.hi] 25) (HR3.out.on ((Grew.refl _).alloc _)).mo (by decide)))); clear h1 h2 c1 e0 e1 e2 e3 el)
            | (go_at_call 18; (with_reducible refine (now_any b (stp s a) _ HD4.out.ck).mono ?_); rintro e w5 ⟨rfl, g5⟩; have HD : Hid (Dg w0 b S (stp s a) w5) := Lib.hid (HD4.out.on g5); have HW5 := Lib.hid (HW4.out.grew g5); clear g5; have e0 := HW5.out.cell 0; have e1 := HW5.out.cell 1; simp only [List.getElem?_cons_zero, List.getElem?_cons_succ] at e0 e1; have el := HW5.out.lt)
            | (go_at_call 19; (with_reducible refine (epoch_st b (stp s a) _ (HD.out.on ((Grew.refl _).alloc _)).ck).mono ?_); rintro e w9 ⟨rfl, hw9⟩; subst w9))
          go_roundg (xs.length - (k + 1))
          case measure => have := HLT.out; omega
          case rel => exact ⟨k + 1, stp s a, by go_num, HLT.out, rfl, HGN, Lib.hid (HD.out.on ((Grew.refl _).alloc _))⟩
        · clear y1
          go_wp2_with (first
            | (go_at_call 18; (with_reducible refine (now_any b s _ (HRA.out _).ck).mono ?_); rintro e w3 ⟨rfl, g3⟩; clear tka; have HR3 : Hid (Dg w0 b S s w3) := Lib.hid ((HRA.out _).on g3); have HA3 : Hid (Blk wr.heap.size (opc a) 40 w3) := Lib.hid (Blk.grew (Blk.new wr _ _) g3); clear g3; have e0 := HA3.out.cell 0; have e1 := HA3.out.cell 1; have e2 := HA3.out.cell 2; have e3 := HA3.out.cell 3; simp only [List.getElem?_cons_zero, List.getElem?_cons_succ] at e0 e1 e2 e3; have el := HA3.out.lt)
            | (go_at_call 19; (with_reducible refine (epoch_st b s _ HR3.out.ck).mono ?_); rintro e w9 ⟨rfl, hw9⟩; clear tkb; subst w9)
            | (go_at_call 14; (with_reducible refine (do_any b S s a _ (HR3.out.on ((Grew.refl _).alloc _)).ck (HR3.out.on ((Grew.refl _).alloc _)).mo HGU.out).mono ?_); rintro e w4 ⟨rfl, h1, h2, c1⟩; clear tkc; have HD4 : Hid (Dg w0 b S (stp s a) w4) := Lib.hid ((HR3.out.on ((Grew.refl _).alloc _)).to h1 h2 c1); have HW4 : Hid (Blk w3.heap.size [.int .i64 s.lo, .int .i64 s.hi] 25 w4) := Lib.hid (Blk.chg (Blk.new w3 [.int .i64 s.lo, .int .i64 s.hi] _) c1 (fun h => h.elim (Blk.ne (Blk.new w3 [.int .i64 s.lo, .int .i64 s.hi] 25) (HR3.out.on ((Grew.refl _).alloc _)).ck (by decide)) (Blk.ne (Blk.new w3 [.int .i64 s.lo, .int .i64 s.hi] 25) (HR3.out.on ((Grew.refl _).alloc _)).mo (by decide)))); clear h1 h2 c1 e0 e1 e2 e3 el)
            | (go_at_call 18; (with_reducible refine (now_any b (stp s a) _ HD4.out.ck).mono ?_); rintro e w5 ⟨rfl, g5⟩; have HD : Hid (Dg w0 b S (stp s a) w5) := Lib.hid (HD4.out.on g5); have HW5 := Lib.hid (HW4.out.grew g5); clear g5; have e0 := HW5.out.cell 0; have e1 := HW5.out.cell 1; simp only [List.getElem?_cons_zero, List.getElem?_cons_succ] at e0 e1; have el := HW5.out.lt)
            | (go_at_call 19; (with_reducible refine (epoch_st b (stp s a) _ (HD.out.on ((Grew.refl _).alloc _)).ck).mono ?_); rintro e w9 ⟨rfl, hw9⟩; subst w9))
          go_roundg (xs.length - (k + 1))
          case measure => have := HLT.out; omega
          case rel => exact ⟨k + 1, stp s a, by go_num, HLT.out, rfl, HGN, Lib.hid (HD.out.on ((Grew.refl _).alloc _))⟩
      · clear z3
        go_wp2_with (first
          | (go_at_call 18; (with_reducible refine (now_any b s _ (HRA.out _).ck).mono ?_); rintro e w3 ⟨rfl, g3⟩; clear tka; have HR3 : Hid (Dg w0 b S s w3) := Lib.hid ((HRA.out _).on g3); have HA3 : Hid (Blk wr.heap.size (opc a) 40 w3) := Lib.hid (Blk.grew (Blk.new wr _ _) g3); clear g3; have e0 := HA3.out.cell 0; have e1 := HA3.out.cell 1; have e2 := HA3.out.cell 2; have e3 := HA3.out.cell 3; simp only [List.getElem?_cons_zero, List.getElem?_cons_succ] at e0 e1 e2 e3; have el := HA3.out.lt)
          | (go_at_call 19; (with_reducible refine (epoch_st b s _ HR3.out.ck).mono ?_); rintro e w9 ⟨rfl, hw9⟩; clear tkb; subst w9)
          | (go_at_call 14; (with_reducible refine (do_any b S s a _ (HR3.out.on ((Grew.refl _).alloc _)).ck (HR3.out.on ((Grew.refl _).alloc _)).mo HGU.out).mono ?_); rintro e w4 ⟨rfl, h1, h2, c1⟩; clear tkc; have HD4 : Hid (Dg w0 b S (stp s a) w4) := Lib.hid ((HR3.out.on ((Grew.refl _).alloc _)).to h1 h2 c1); have HW4 : Hid (Blk w3.heap.size [.int .i64 s.lo, .int .i64 s.hi] 25 w4) := Lib.hid (Blk.chg (Blk.new w3 [.int .i64 s.lo, .int .i64 s.hi] _) c1 (fun h => h.elim (Blk.ne (Blk.new w3 [.int .i64 s.lo, .int .i64 s.hi] 25) (HR3.out.on ((Grew.refl _).alloc _)).ck (by decide)) (Blk.ne (Blk.new w3 [.int .i64 s.lo, .int .i64 s.hi] 25) (HR3.out.on ((Grew.refl _).alloc _)).mo (by decide)))); clear h1 h2 c1 e0 e1 e2 e3 el)
          | (go_at_call 18; (with_reducible refine (now_any b (stp s a) _ HD4.out.ck).mono ?_); rintro e w5 ⟨rfl, g5⟩; have HD : Hid (Dg w0 b S (stp s a) w5) := Lib.hid (HD4.out.on g5); have HW5 := Lib.hid (HW4.out.grew g5); clear g5; have e0 := HW5.out.cell 0; have e1 := HW5.out.cell 1; simp only [List.getElem?_cons_zero, List.getElem?_cons_succ] at e0 e1; have el := HW5.out.lt)
          | (go_at_call 19; (with_reducible refine (epoch_st b (stp s a) _ (HD.out.on ((Grew.refl _).alloc _)).ck).mono ?_); rintro e w9 ⟨rfl, hw9⟩; subst w9))
        go_roundg (xs.length - (k + 1))
        case measure => have := HLT.out; omega
        case rel => exact ⟨k + 1, stp s a, by go_num, HLT.out, rfl, HGN, Lib.hid (HD.out.on ((Grew.refl _).alloc _))⟩
    · obtain rfl : k = xs.length := by omega
      go_wp2
      go_ret
      exact ⟨rfl, HR.out.grew⟩
theorem rvalid_g (x y : Int) (w : World) : Calls Try.prog 24 #[iv x y] w fun e w' => e = .returned (.bool (va x y)) ∧ Grew w w' := (rvalid_any x y w).mono fun _ _ h => ⟨h.1, by rw [h.2]; exact (bx_grew _ _ _).drw⟩
theorem restore_yes (x y n : Int) (w : World) (hv : va x y = true) (h0 : 0 ≤ n) (h1 : n ≤ 2147483647) :
    Calls Try.prog 23 #[iv x y, .int .i64 n] w fun e w' => ∃ b, e = .returned (.tuple #[.pointer (some ⟨b, 0, none⟩), .int .i64 0]) ∧ (Blk b [.int .i64 x, .int .i64 y, .int .i64 n] 36 w' ∧ w.heap.size ≤ b) ∧ Grew w w' :=
  (restore_ok x y n w hv h0 h1).mono fun _ _ ⟨b, h1, h2, h3, h4⟩ => ⟨b, h1, ⟨h2, h4⟩, h3⟩
set_option maxHeartbeats 8000000 in
theorem restore_law (x y n : Int) (p : Option Addr) (m cap : Nat) (xs : List Op9) (w0 : World) (hl : xs.length = m) (hx : RdL 4 opc w0 p cap xs) :
    Calls Try.prog 8 #[iv x y, .int .i64 n, .slice p m cap] w0 fun e w' => e = .returned (.bool true) ∧ Grew w0 w' := by
  subst hl
  have HX := Lib.hid hx
  have hcap := hx.cap
  have hmax := hx.max
  clear hx
  have HB := Lib.hid (Grew.refl w0)
  have tk0 := Lib.hid trivial
  have tk1 := Lib.hid trivial
  have tk2 := Lib.hid trivial
  have tk3 := Lib.hid trivial
  cases hv : va x y && decide (0 ≤ n ∧ n ≤ 2147483647) with
  | false =>
    have HN := Lib.hid hv
    cases hv1 : va x y with
    | false =>
      clear hv
      go_enter Try.func8, Try.ntmps8
      go_wp2_with (first
        | (go_at_call 13; clear tk0; generalize hW : World.alloc _ _ = V; have p : Blk (w0.heap.size) [.int .i64 x, .int .i64 y] 25 V := (by subst hW; exact Blk.grew (w := (w0.alloc (.cells #[.int .i64 x, .int .i64 y] 25))) (by simpa using Blk.new w0 [.int .i64 x, .int .i64 y] 25) (by repeat (first | with_reducible exact Grew.refl _ | with_reducible refine Grew.alloc ?_ _ | with_reducible refine Grew.drw ?_ | with_reducible refine Grew.drwN ?_ _ | with_reducible refine Grew.sc ?_ (by first | omega | (simp <;> omega)) _ _))); have hv : Grew w0 V := (by subst hW; repeat (first | with_reducible exact Grew.refl _ | with_reducible refine Grew.alloc ?_ _ | with_reducible refine Grew.drw ?_ | with_reducible refine Grew.drwN ?_ _ | with_reducible refine Grew.sc ?_ (by first | omega | (simp <;> omega)) _ _)); clear hW; replace HB := Lib.hid (HB.out.trans hv); clear hv; (with_reducible refine (examples_any _).mono ?_); rintro e w1 ⟨rfl, g1⟩; replace p := p.grew g1; have p0 := p.cell 0; have p1 := p.cell 1; have pf := p.free; have pl := p.lt; simp only [List.getElem?_cons_zero, List.getElem?_cons_succ] at p0 p1 pl; replace HB := Lib.hid (HB.out.trans g1); clear g1)
        | (go_at_call 23; clear tk1; (with_reducible refine (restore_bad x y n _ HN.out).mono ?_); rintro e w2 ⟨rfl, g1⟩; clear p0 p1 pf pl; replace p := p.grew g1; have p0 := p.cell 0; have p1 := p.cell 1; have pf := p.free; have pl := p.lt; simp only [List.getElem?_cons_zero, List.getElem?_cons_succ] at p0 p1 pl; replace HB := Lib.hid (HB.out.trans g1); clear g1)
        | (go_at_call 24; clear tk2; (with_reducible refine (rvalid_g x y _).mono ?_); rintro e w3 ⟨rfl, g1⟩; clear p0 p1 pf pl; replace p := p.grew g1; have p0 := p.cell 0; have p1 := p.cell 1; have pf := p.free; have pl := p.lt; simp only [List.getElem?_cons_zero, List.getElem?_cons_succ] at p0 p1 pl; replace HB := Lib.hid (HB.out.trans g1); clear g1)
        | (go_at_call 13; (with_reducible refine (examples_any _).mono ?_); rintro e w4 ⟨rfl, g1⟩; clear tk3; replace HB := Lib.hid (HB.out.trans g1); clear g1))
      all_goals go_ret
      all_goals exact ⟨rfl, HB.out⟩
    | true =>
      have ht : ¬ (0 ≤ n ∧ n ≤ 2147483647) := fun hc => by rw [hv1, Bool.true_and, decide_eq_false_iff_not] at hv; exact hv hc
      clear hv
      go_enter Try.func8, Try.ntmps8
      go_wp2_with (first
        | (go_at_call 13; clear tk0; generalize hW : World.alloc _ _ = V; have p : Blk (w0.heap.size) [.int .i64 x, .int .i64 y] 25 V := (by subst hW; exact Blk.grew (w := (w0.alloc (.cells #[.int .i64 x, .int .i64 y] 25))) (by simpa using Blk.new w0 [.int .i64 x, .int .i64 y] 25) (by repeat (first | with_reducible exact Grew.refl _ | with_reducible refine Grew.alloc ?_ _ | with_reducible refine Grew.drw ?_ | with_reducible refine Grew.drwN ?_ _ | with_reducible refine Grew.sc ?_ (by first | omega | (simp <;> omega)) _ _))); have hv : Grew w0 V := (by subst hW; repeat (first | with_reducible exact Grew.refl _ | with_reducible refine Grew.alloc ?_ _ | with_reducible refine Grew.drw ?_ | with_reducible refine Grew.drwN ?_ _ | with_reducible refine Grew.sc ?_ (by first | omega | (simp <;> omega)) _ _)); clear hW; replace HB := Lib.hid (HB.out.trans hv); clear hv; (with_reducible refine (examples_any _).mono ?_); rintro e w1 ⟨rfl, g1⟩; replace p := p.grew g1; have p0 := p.cell 0; have p1 := p.cell 1; have pf := p.free; have pl := p.lt; simp only [List.getElem?_cons_zero, List.getElem?_cons_succ] at p0 p1 pl; replace HB := Lib.hid (HB.out.trans g1); clear g1)
        | (go_at_call 23; clear tk1; (with_reducible refine (restore_bad x y n _ HN.out).mono ?_); rintro e w2 ⟨rfl, g1⟩; clear p0 p1 pf pl; replace p := p.grew g1; have p0 := p.cell 0; have p1 := p.cell 1; have pf := p.free; have pl := p.lt; simp only [List.getElem?_cons_zero, List.getElem?_cons_succ] at p0 p1 pl; replace HB := Lib.hid (HB.out.trans g1); clear g1)
        | (go_at_call 24; clear tk2; (with_reducible refine (rvalid_g x y _).mono ?_); rintro e w3 ⟨rfl, g1⟩; clear p0 p1 pf pl; replace p := p.grew g1; have p0 := p.cell 0; have p1 := p.cell 1; have pf := p.free; have pl := p.lt; simp only [List.getElem?_cons_zero, List.getElem?_cons_succ] at p0 p1 pl; replace HB := Lib.hid (HB.out.trans g1); clear g1)
        | (go_at_call 13; (with_reducible refine (examples_any _).mono ?_); rintro e w4 ⟨rfl, g1⟩; clear tk3; replace HB := Lib.hid (HB.out.trans g1); clear g1))
      all_goals first | (exfalso; omega) | skip
      all_goals go_ret
      all_goals exact ⟨rfl, HB.out⟩
  | true =>
    obtain ⟨hv1, hn⟩ := Bool.and_eq_true_iff.1 hv
    obtain ⟨n0, n1⟩ := of_decide_eq_true hn
    have HN := Lib.hid (And.intro hv1 (And.intro n0 n1))
    clear hv hn
    by_cases hbig : 1073741824 < n
    · go_enter Try.func8, Try.ntmps8
      go_wp2_with (first
        | (go_at_call 13; clear tk0; generalize hW : World.alloc _ _ = V; have p : Blk (w0.heap.size) [.int .i64 x, .int .i64 y] 25 V := (by subst hW; exact Blk.grew (w := (w0.alloc (.cells #[.int .i64 x, .int .i64 y] 25))) (by simpa using Blk.new w0 [.int .i64 x, .int .i64 y] 25) (by repeat (first | with_reducible exact Grew.refl _ | with_reducible refine Grew.alloc ?_ _ | with_reducible refine Grew.drw ?_ | with_reducible refine Grew.drwN ?_ _ | with_reducible refine Grew.sc ?_ (by first | omega | (simp <;> omega)) _ _))); have hv : Grew w0 V := (by subst hW; repeat (first | with_reducible exact Grew.refl _ | with_reducible refine Grew.alloc ?_ _ | with_reducible refine Grew.drw ?_ | with_reducible refine Grew.drwN ?_ _ | with_reducible refine Grew.sc ?_ (by first | omega | (simp <;> omega)) _ _)); clear hW; replace HB := Lib.hid (HB.out.trans hv); clear hv; (with_reducible refine (examples_any _).mono ?_); rintro e w1 ⟨rfl, g1⟩; replace p := p.grew g1; have p0 := p.cell 0; have p1 := p.cell 1; have pf := p.free; have pl := p.lt; simp only [List.getElem?_cons_zero, List.getElem?_cons_succ] at p0 p1 pl; replace HB := Lib.hid (HB.out.trans g1); clear g1; have HB0 := Lib.hid HB.out.size)
        | (go_at_call 23; clear tk1; (with_reducible refine (restore_yes x y n _ HN.out.1 HN.out.2.1 HN.out.2.2).mono ?_); rintro e w2 ⟨b, rfl, ⟨hk, hb⟩, g1⟩; clear p0 p1 pf pl; replace p := p.grew g1; have p0 := p.cell 0; have p1 := p.cell 1; have pf := p.free; have pl := p.lt; simp only [List.getElem?_cons_zero, List.getElem?_cons_succ] at p0 p1 pl; replace HB := Lib.hid (HB.out.trans g1); clear g1; have HFB : Hid (w0.heap.size ≤ b) := Lib.hid (Nat.le_trans HB0.out hb); clear hb; have hk0 := hk.cell 0; have hk1 := hk.cell 1; have hk2 := hk.cell 2; have hkf := hk.free; have hkl := hk.lt; simp only [List.getElem?_cons_zero, List.getElem?_cons_succ] at hk0 hk1 hk2 hkl)
        | (go_at_call 24; clear tk2; (with_reducible refine (rvalid_g x y _).mono ?_); rintro e w3 ⟨rfl, g1⟩; clear p0 p1 pf pl; replace p := p.grew g1; have p0 := p.cell 0; have p1 := p.cell 1; have pf := p.free; have pl := p.lt; simp only [List.getElem?_cons_zero, List.getElem?_cons_succ] at p0 p1 pl; clear hk0 hk1 hk2 hkf hkl; replace hk := hk.grew g1; have hk0 := hk.cell 0; have hk1 := hk.cell 1; have hk2 := hk.cell 2; have hkf := hk.free; have hkl := hk.lt; simp only [List.getElem?_cons_zero, List.getElem?_cons_succ] at hk0 hk1 hk2 hkl; replace HB := Lib.hid (HB.out.trans g1); clear g1)
        | (go_at_call 13; (with_reducible refine (examples_any _).mono ?_); rintro e w4 ⟨rfl, g1⟩; clear tk3; replace HB := Lib.hid (HB.out.trans g1); clear g1))
      all_goals go_ret
      all_goals exact ⟨rfl, HB.out⟩
    · go_enter Try.func8, Try.ntmps8
      go_wp2_with (first
        | (go_at_call 13; clear tk0; generalize hW : World.alloc _ _ = V; have p : Blk (w0.heap.size) [.int .i64 x, .int .i64 y] 25 V := (by subst hW; exact Blk.grew (w := (w0.alloc (.cells #[.int .i64 x, .int .i64 y] 25))) (by simpa using Blk.new w0 [.int .i64 x, .int .i64 y] 25) (by repeat (first | with_reducible exact Grew.refl _ | with_reducible refine Grew.alloc ?_ _ | with_reducible refine Grew.drw ?_ | with_reducible refine Grew.drwN ?_ _ | with_reducible refine Grew.sc ?_ (by first | omega | (simp <;> omega)) _ _))); have hv : Grew w0 V := (by subst hW; repeat (first | with_reducible exact Grew.refl _ | with_reducible refine Grew.alloc ?_ _ | with_reducible refine Grew.drw ?_ | with_reducible refine Grew.drwN ?_ _ | with_reducible refine Grew.sc ?_ (by first | omega | (simp <;> omega)) _ _)); clear hW; replace HB := Lib.hid (HB.out.trans hv); clear hv; (with_reducible refine (examples_any _).mono ?_); rintro e w1 ⟨rfl, g1⟩; replace p := p.grew g1; have p0 := p.cell 0; have p1 := p.cell 1; have pf := p.free; have pl := p.lt; simp only [List.getElem?_cons_zero, List.getElem?_cons_succ] at p0 p1 pl; replace HB := Lib.hid (HB.out.trans g1); clear g1; have HB0 := Lib.hid HB.out.size)
        | (go_at_call 23; clear tk1; (with_reducible refine (restore_yes x y n _ HN.out.1 HN.out.2.1 HN.out.2.2).mono ?_); rintro e w2 ⟨b, rfl, ⟨hk, hb⟩, g1⟩; clear p0 p1 pf pl; replace p := p.grew g1; have p0 := p.cell 0; have p1 := p.cell 1; have pf := p.free; have pl := p.lt; simp only [List.getElem?_cons_zero, List.getElem?_cons_succ] at p0 p1 pl; replace HB := Lib.hid (HB.out.trans g1); clear g1; have HFB : Hid (w0.heap.size ≤ b) := Lib.hid (Nat.le_trans HB0.out hb); clear hb; have hk0 := hk.cell 0; have hk1 := hk.cell 1; have hk2 := hk.cell 2; have hkf := hk.free; have hkl := hk.lt; simp only [List.getElem?_cons_zero, List.getElem?_cons_succ] at hk0 hk1 hk2 hkl)
        | (go_at_call 24; clear tk2; (with_reducible refine (rvalid_g x y _).mono ?_); rintro e w3 ⟨rfl, g1⟩; clear p0 p1 pf pl; replace p := p.grew g1; have p0 := p.cell 0; have p1 := p.cell 1; have pf := p.free; have pl := p.lt; simp only [List.getElem?_cons_zero, List.getElem?_cons_succ] at p0 p1 pl; clear hk0 hk1 hk2 hkf hkl; replace hk := hk.grew g1; have hk0 := hk.cell 0; have hk1 := hk.cell 1; have hk2 := hk.cell 2; have hkf := hk.free; have hkl := hk.lt; simp only [List.getElem?_cons_zero, List.getElem?_cons_succ] at hk0 hk1 hk2 hkl; replace HB := Lib.hid (HB.out.trans g1); clear g1)
        | (go_at_call 13; (with_reducible refine (examples_any _).mono ?_); rintro e w4 ⟨rfl, g1⟩; clear tk3; replace HB := Lib.hid (HB.out.trans g1); clear g1))
      · go_ret
        exact ⟨rfl, HB.out⟩
      have HP := Lib.hid hk
      clear p p0 p1 pf pl hk0 hk1 hk2 hkf hkl hk
      obtain ⟨S, hS⟩ : ∃ S, S = w3.heap.size := ⟨_, rfl⟩
      rw [← hS]
      refine wp_at9 (fun W => Dg w0 b S ⟨x, y, n⟩ W) ⟨HP.out.grew ((Grew.refl _).alloc _), by rw [hS]; exact Blk.new w3 _ _, HB.out.alloc _, HFB.out, by rw [hS]; exact HB.out.size⟩ ?_
      intro W hW
      have HS := Lib.hid hW
      have HC : Hid (Cg ⟨x, y, n⟩ n) := Lib.hid ⟨hv1, n0, Int.le_refl _⟩
      clear hW HB HP hS HN HFB hv1
      go_loopg [64] xs.length (fun gg iv wr => ∃ (k : Nat) (s : Ck), iv = .int .i64 (k : Int) ∧ k ≤ xs.length ∧ gg = xs.length - k ∧ Hid (Cg s (n + k)) ∧ Hid (Dg w0 b S s wr))
      case atStart => exact ⟨0, ⟨x, y, n⟩, rfl, Nat.zero_le _, rfl, Lib.hid (by simpa using HC.out), HS⟩
      clear HS
      case round =>
        obtain ⟨k, s, rfl, hk, rfl, HG, HR⟩ := hrel
        by_cases hlt : k < xs.length
        · obtain ⟨b', o', rfl, hcc⟩ := (HX.out.kept HR.out.grew).cells (by omega)
          have hc1 := hcc k xs[k] (by simp [hlt])
          have hlb : b' < wr.heap.size := World.block_lt_of_cell? _ _ (hc1 0 _ rfl)
          have HLT := Lib.hid (Nat.succ_le_of_lt hlt)
          generalize xs[k] = a at hc1
          have d0 : wr.cell? ⟨b', o' + k * 4, none⟩ = some (.int .i64 a.1) := by simpa using hc1 0 _ rfl
          have d1 : wr.cell? ⟨b', o' + k * 4 + 1, none⟩ = some (.int .i64 a.2.1) := hc1 1 _ rfl
          have d2 : wr.cell? ⟨b', o' + k * 4 + 2, none⟩ = some (.int .i64 a.2.2.1) := hc1 2 _ rfl
          have d3 : wr.cell? ⟨b', o' + k * 4 + 3, none⟩ = some (.int .i64 a.2.2.2) := hc1 3 _ rfl
          have HGU : Hid (Cg s 4611686018427387904) := Lib.hid (HG.out.up (by omega))
          have HGN : Hid (Cg (stp s a) (n + (k + 1 : Nat))) := Lib.hid ((HG.out.stp a).up (by omega))
          have HRA : Hid (∀ ob, Dg w0 b S s (wr.alloc ob)) := Lib.hid fun ob => HR.out.on ((Grew.refl wr).alloc ob)
          clear hcc hc1
          go_wp2_with (go_at_call 14; (with_reducible refine (do_any b S s a _ (HRA.out _).ck (HRA.out _).mo HGU.out).mono ?_); rintro e w3 ⟨rfl, h1, h2, c1⟩; have HD : Hid (Dg w0 b S (stp s a) w3) := Lib.hid ((HRA.out _).to h1 h2 c1); clear h1 h2 c1)
          go_roundg (xs.length - (k + 1))
          case measure => have := HLT.out; omega
          case rel => exact ⟨k + 1, stp s a, by go_num, HLT.out, rfl, HGN, HD⟩
        · obtain rfl : k = xs.length := by omega
          go_wp2
          have HZ := HR.out
          have hb : Blk b (ckc s) 36 wr.drew := HZ.ck.grew (Grew.refl _).drw
          have hm : Blk S (ckc s) 38 wr.drew := HZ.mo.grew (Grew.refl _).drw
          have m0 : Atv ⟨S, 0, none⟩ (.int .i64 s.lo) wr.drew := hm.atv 0 rfl
          have m1 : Atv ⟨S, 1, none⟩ (.int .i64 s.hi) wr.drew := hm.atv 1 rfl
          have m2 : Atv ⟨S, 2, none⟩ (.int .i64 s.ep) wr.drew := hm.atv 2 rfl
          generalize s = z at hb hm m0 m1 m2
          refine wp_posts [some 73, some 74, some 75, some 76, some 77, some 78, some 79, some 80, some 81, some 82, some 83, some 84, some 6] [false, false, false, false, false, false, true, false, false, false, false, false, false, false, false, false, false, false, false, false, false, false, false, false, false, false, false, false, false, false, false, false, false, false, false, false, false, false, false, false, false, false, false, false, false, false, false, false, false, false, false, false, false, false, false, false, false, false, false, false, false, false, false, false, false, false, false, false, false, false, false, false, false, true, true, true, true, true, true, true, true, true, true, true, true] [fun v _ => v = .pointer (some ⟨b, 0, none⟩), fun v _ => v = .agg #[.int .i64 (z.lo), .int .i64 (z.hi)], fun v _ => v = .pointer (some ⟨S, 0, none⟩), fun v _ => v = .agg #[.int .i64 (z.lo), .int .i64 (z.hi)], fun v _ => v = .bool (true), fun v _ => v = .bool (true), fun v _ => v = .pointer (some ⟨b, 0, none⟩), fun v _ => v = .int .i64 (z.ep), fun v _ => v = .pointer (some ⟨S, 2, none⟩), fun v _ => v = .int .i64 (z.ep), fun v _ => v = .bool (true), fun v _ => v = .bool (true), fun v _ => v = .bool (true)] (by kernel_rfl) (by kernel_rfl) rfl ?_ ⟨?_, ?_, ?_, ?_, ?_, ?_, ?_, ?_, ?_, ?_, ?_, ?_, ?_, trivial⟩ ?_
          · exact ⟨fun _ _ _ _ h => h, fun _ _ _ _ h => h, fun _ _ _ _ h => h, fun _ _ _ _ h => h, fun _ _ _ _ h => h, fun _ _ _ _ h => h, fun _ _ _ _ h => h, fun _ _ _ _ h => h, fun _ _ _ _ h => h, fun _ _ _ _ h => h, fun _ _ _ _ h => h, fun _ _ _ _ h => h, fun _ _ _ _ h => h, trivial⟩
          · intro u w hR hd; exact runs_mv (ev rfl) ⟨Grew.refl _, rfl⟩
          · intro u w hR hd; exact runs_c1 enters_now (ev (hd.1 rfl)) (callp (fun _ e => e) (now_any b z _ (hb.grew hR)))
          · intro u w hR hd; exact rn_fld_38_0 (ev rfl) ⟨Grew.refl _, rfl⟩
          · intro u w hR hd; exact rn_ld_25 (ev (hd.1 rfl)) (m0.kept hR) (m1.kept hR) ⟨Grew.refl _, rfl⟩
          · intro u w hR hd; exact rn_eql_25 (ev (hd.1 rfl)) (ev (hd.2.1 rfl)) ⟨Grew.refl _, (congrArg Value.bool (by simp))⟩
          · intro u w hR hd; exact runs_mv (ev (hd.1 rfl)) ⟨Grew.refl _, rfl⟩
          · intro u w hR hd; exact ⟨fun _ => runs_mv (ev rfl) ⟨Grew.refl _, rfl⟩, fun hn => absurd (hd.1 rfl) hn⟩
          · intro u w hR hd; exact ⟨fun _ => runs_c1 enters_epoch (ev (hd.1 rfl)) (callp (fun _ e => e) ((epoch_any b z _ (hb.grew hR)).mono fun _ _ h => ⟨h.1, h.2 ▸ Grew.refl _⟩)), fun hn => absurd (hd.2.1 rfl) hn⟩
          · intro u w hR hd; exact ⟨fun _ => rn_fld_38_1 (ev rfl) ⟨Grew.refl _, rfl⟩, fun hn => absurd (hd.1 rfl) hn⟩
          · intro u w hR hd; exact ⟨fun _ => rn_ld_3 (ev (hd.1 rfl)) (m2.kept hR) ⟨Grew.refl _, rfl⟩, fun hn => absurd (hd.2.1 rfl) hn⟩
          · intro u w hR hd; exact ⟨fun _ => rn_eql_3 (ev (hd.1 rfl)) (ev (hd.2.1 rfl)) ⟨Grew.refl _, (congrArg Value.bool (by simp))⟩, fun hn => absurd (hd.2.2.1 rfl) hn⟩
          · intro u w hR hd; exact runs_an (ev (hd.1 rfl)) (fun hb => ev ((hd.2.1 rfl))) ⟨Grew.refl _, rfl⟩
          · intro u w hR hd; exact runs_mva (ev (hd.1 rfl)) ⟨Grew.refl _, rfl⟩
          · intro u w4 hR h
            have he : u 6 = .bool true := h 12 (by decide)
            simp only [mixA, mixL, cond_true, cond_false]
            rw [he]
            have hg := Lib.hid ((HZ.grew.trans (Grew.refl wr).drw).trans hR)
            clear h he hb hm m0 m1 m2 hR HZ
            go_wp2
            go_ret
            exact ⟨rfl, hg.out⟩
end Go.Proofs.Yteeecehfbmeohaa
