/-
  THE STATEMENTS OF LAYER 9 (remanence), WALKED: Steady.
-/
import Derived.Test.YteeecehfbmeohaaRmLaws1
import Derived.Test.YteeecehfbmeohaaRdL
namespace Go.Proofs.Yteeecehfbmeohaa
open Go Go.RowKit Go.IntWalk
set_option linter.unusedSimpArgs false
set_option maxRecDepth 8000

theorem steady_run (b : Nat) (T n : Int) (w : World) (h : Blk b (ckc ⟨T, T, 0⟩) 36 w) (hT : 0 ≤ T) (hn : 0 ≤ n) (hm : T + n ≤ 1099511627776) :
    Calls Try.prog 20 #[.pointer (some ⟨b, 0, none⟩), .int .i64 n] w fun e w' => e = .returned (.int .i64 0) ∧ Blk b (ckc ⟨T + n, T + n, 0⟩) 36 w' ∧ Chg w w' (fun k => k = b) := by
  have h1 : va n n = true := va_self.2 (by omega)
  have h2 : cl (T + n) = T + n := cl_in _ (by omega)
  have := run_any b ⟨T, T, 0⟩ n w h ⟨va_self.2 (by show 0 ≤ T ∧ T ≤ 1099511627776; omega), by show (0 : Int) ≤ 0; omega, by show (0 : Int) ≤ 4611686018427387904; omega⟩
  rw [er_yes h1, offc_yes h1] at this
  simpa only [h2] using this
abbrev u32c (z : Int) : List Value := [.int .u32 z]
theorem wp_at9 {P : Program} {c : Code} {Q : Exit → Act → World → Prop} {a : Act} {w : World} (F : World → Prop) (hF : F w) (h : ∀ W, F W → c.wp P Q a W) : c.wp P Q a w := h w hF
/-- What a round keeps: the clock at b has counted T. -/
structure Sg (w0 : World) (b : Nat) (T : Int) (w : World) : Prop where
  ck : Blk b (ckc ⟨T, T, 0⟩) 36 w
  grew : Grew w0 w
  far : w0.heap.size ≤ b
set_option maxHeartbeats 4000000 in
theorem steady_law (p : Option Addr) (n cap : Nat) (xs : List Int) (w0 : World) (hl : xs.length = n) (hx : RdL 1 u32c w0 p cap xs) (hok : ∀ x ∈ xs, 0 ≤ x ∧ x ≤ 4294967295) :
    Calls Try.prog 7 #[.slice p n cap] w0 fun e w' => e = .returned (.bool true) ∧ Grew w0 w' := by
  subst hl
  have HX := Lib.hid hx
  have HO := Lib.hid hok
  have hcap := hx.cap
  have hmax := hx.max
  clear hx hok
  have tkx := Lib.hid trivial
  go_enter Try.func7, Try.ntmps7
  go_wp2_with (first
    | (go_at_call 13; (with_reducible refine (examples_any _).mono ?_); rintro e w1 ⟨rfl, g1⟩; clear tkx; have HB := Lib.hid g1; clear g1)
    | (go_at_call 13; (with_reducible refine (examples_any _).mono ?_); rintro e w2 ⟨rfl, g2⟩; replace HB := Lib.hid (HB.out.trans g2); clear g2))
  · go_ret
    exact ⟨rfl, HB.out⟩
  obtain ⟨b, hb⟩ : ∃ b, b = w1.heap.size := ⟨_, rfl⟩
  rw [← hb]
  refine wp_at9 (fun W => Sg w0 b 0 W) ⟨by rw [hb]; exact Blk.new w1 _ _, HB.out.alloc _, by rw [hb]; exact HB.out.size⟩ ?_
  intro W hW
  have HS := Lib.hid hW
  clear hb hW HB
  go_loopg [4, 17] xs.length (fun gg sv iv wr => ∃ (k : Nat) (T : Int), sv = .int .i64 T ∧ iv = .int .i64 (k : Int) ∧ k ≤ xs.length ∧ gg = xs.length - k ∧ (0 ≤ T ∧ T ≤ k * 4294967295) ∧ Hid (Sg w0 b T wr))
  case atStart => exact ⟨0, 0, rfl, rfl, Nat.zero_le _, rfl, by omega, HS⟩
  clear HS
  case round =>
    obtain ⟨k, T, rfl, rfl, hk, rfl, ⟨T0, T1⟩, HR⟩ := hrel
    by_cases hlt : k < xs.length
    · obtain ⟨b', o', rfl, hcc⟩ := (HX.out.kept HR.out.grew).cells (by omega)
      have d0 : wr.cell? ⟨b', o' + k, none⟩ = some (.int .u32 xs[k]) := by simpa using hcc k xs[k] (by simp [hlt]) 0 _ rfl
      have hlb : b' < wr.heap.size := World.block_lt_of_cell? _ _ d0
      have HLT := Lib.hid (Nat.succ_le_of_lt hlt)
      obtain ⟨z0, z1⟩ := HO.out xs[k] (List.getElem_mem hlt)
      generalize xs[k] = z at d0 z0 z1
      have hT : T + z ≤ (k + 1 : Nat) * 4294967295 := by omega
      have hw1 : IntKind.i64.wrap z = z := IntWalk.i64_in _ (by omega)
      have hw2 : IntKind.i64.wrap (T + z) = T + z := IntWalk.i64_in _ (by omega)
      have HRN : Hid (0 ≤ T ∧ 0 ≤ z ∧ T + z ≤ 1099511627776) := Lib.hid ⟨T0, z0, by omega⟩
      have HT2 := Lib.hid hT
      clear hcc hT
      go_wp2_with (first
        | (go_at_call 20; (with_reducible refine (steady_run b T z _ HR.out.ck HRN.out.1 HRN.out.2.1 HRN.out.2.2).mono ?_); rintro e w3 ⟨rfl, h1, c1⟩; have HS : Hid (Sg w0 b (T + z) w3) := Lib.hid ⟨h1, grew_lift HR.out.grew c1 (newb _ _ HR.out.far), HR.out.far⟩; clear h1 c1)
        | (go_at_call 18; (with_reducible refine (now_any b ⟨T + z, T + z, 0⟩ _ HS.out.ck).mono ?_); rintro e w4 ⟨rfl, g4⟩; have HS4 : Hid (Sg w0 b (T + z) w4) := Lib.hid ⟨HS.out.ck.grew g4, HS.out.grew.trans g4, HS.out.far⟩; clear g4)
        | (go_at_call 19; (with_reducible refine (epoch_st b ⟨T + z, T + z, 0⟩ _ HS4.out.ck).mono ?_); rintro e w9 ⟨rfl, hw9⟩; subst w9))
      go_roundg (xs.length - (k + 1))
      case measure => have := HLT.out; omega
      case rel => exact ⟨k + 1, T + z, rfl, by go_num, HLT.out, rfl, ⟨by have := HRN.out; omega, HT2.out⟩, HS4⟩
    · obtain rfl : k = xs.length := by omega
      go_wp2
      go_ret
      exact ⟨rfl, HR.out.grew⟩
end Go.Proofs.Yteeecehfbmeohaa
