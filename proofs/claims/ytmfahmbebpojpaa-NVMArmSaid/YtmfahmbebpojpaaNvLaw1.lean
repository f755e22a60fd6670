/-
  LAYER 7 (nvm): the statements' Words.
-/
import Derived.Test.YtmfahmbebpojpaaNvWakes
import Derived.Test.YtmfahmbebpojpaaNvPure
namespace Go.Proofs.Ytmfahmbebpojpaa
open Go Go.RowKit Go.IntWalk
set_option linter.unusedSimpArgs false
set_option maxRecDepth 8000

/-- What lies above the memory that was there is none of it. -/
theorem nvb_new {g q N : Nat} (hg : N ≤ g) (hq : N ≤ q) : ∀ k, Nvb g q .no k → N ≤ k := fun k hk => by
  rcases hk with rfl | rfl | hk
  · exact hg
  · exact hq
  · exact hk.elim
/-- A memory of 300 bytes behind a word's write. -/
def wdS (a : Nat) (v : Int) : NV := { nv0 300 with B := over (List.replicate 300 0) a (wordB v), wr := 2 }
theorem wd_write (a : Nat) (v : Int) (ha : a ≤ 255) : wrs (nv0 300) a (wordB v) = (wdS a v, true) := by
  rw [wrs_free (nv0 300) a (wordB v) rfl (by decide) rfl (by rw [wordB_len, nv0, List.length_replicate]; omega) (by decide) (by rw [wordB_len]; decide)]
  rfl
theorem wd_len (a : Nat) (v : Int) (ha : a ≤ 255) : (wdS a v).B.length = 300 := by
  show (over (List.replicate 300 0) a (wordB v)).length = 300
  rw [over_len _ _ _ (by rw [wordB_len, List.length_replicate]; omega), List.length_replicate]
theorem over_getD {B : List UInt8} {a : Nat} {xs : List UInt8} (h : a + xs.length ≤ B.length) (i : Nat) (hi : i < xs.length) : (over B a xs).getD (a + i) 0 = xs.getD i 0 := by
  have h1 := over_drop B a xs h
  have h2 : ((over B a xs).drop a)[i]? = xs[i]? := by rw [h1, List.getElem?_append_left hi]
  rw [List.getElem?_drop] at h2
  simp only [List.getD, h2]
theorem wd_at0 (a : Nat) (v : Int) (ha : a ≤ 255) : (wdS a v).B.getD a 0 = UInt8.ofNat (v % 256).toNat := by
  have := over_getD (B := List.replicate 300 0) (a := a) (xs := wordB v) (by rw [wordB_len, List.length_replicate]; omega) 0 (by rw [wordB_len]; omega)
  exact this
theorem wd_at1 (a : Nat) (v : Int) (ha : a ≤ 255) : (wdS a v).B.getD (a + 1) 0 = UInt8.ofNat (v / 256 % 256).toNat := by
  have := over_getD (B := List.replicate 300 0) (a := a) (xs := wordB v) (by rw [wordB_len, List.length_replicate]; omega) 1 (by rw [wordB_len]; omega)
  exact this
theorem wd_rd0 (a : Nat) (v : Int) (ha : a ≤ 255) : bv (rd1 (wdS a v) a) = .int .u8 (v % 256) := by
  have hv : validB (wdS a v).B.length a 1 = true := by rw [wd_len a v ha]; exact validB_iff.2 ⟨by omega, by omega, by omega⟩
  have ho : (wdS a v).off = false := rfl
  have e : rd1 (wdS a v) a = (wdS a v).B.getD a 0 := by simp [rd1, ho, hv]
  rw [e, wd_at0 a v ha, bv_ofNat _ (by omega)]
  congr 1
  omega
theorem wd_rd1 (a : Nat) (v : Int) (ha : a ≤ 255) : bv (rd1 (wdS a v) ((a : Int) + 1)) = .int .u8 (v / 256 % 256) := by
  have hv : validB (wdS a v).B.length ((a : Int) + 1) 1 = true := by rw [wd_len a v ha]; exact validB_iff.2 ⟨by omega, by omega, by omega⟩
  have ho : (wdS a v).off = false := rfl
  have e : rd1 (wdS a v) ((a : Int) + 1) = (wdS a v).B.getD (a + 1) 0 := by
    have : ((a : Int) + 1).toNat = a + 1 := by omega
    simp [rd1, ho, hv, this]
  rw [e, wd_at1 a v ha, bv_ofNat _ (by omega)]
  congr 1
  omega
theorem wd_rdw (a : Nat) (v : Int) (ha : a ≤ 255) (hv : -32768 ≤ v ∧ v ≤ 32767) : rdw (wdS a v) a = v := by
  have hb : validB (wdS a v).B.length a 2 = true := by rw [wd_len a v ha]; exact validB_iff.2 ⟨by omega, by omega, by omega⟩
  have ho : (wdS a v).off = false := rfl
  have e : rdw (wdS a v) a = IntKind.i16.wrap ((((wdS a v).B.getD a 0).toNat : Int) + 256 * (((wdS a v).B.getD (a + 1) 0).toNat : Int)) := by simp [rdw, ho, hb]
  rw [e, wd_at0 a v ha, wd_at1 a v ha, wrap16]
  simp only [UInt8.toNat_ofNat']
  omega
theorem words_any (v : Int) (a : Int) (hv : -32768 ≤ v ∧ v ≤ 32767) (ha : 0 ≤ a ∧ a ≤ 255) (w : World) :
    Calls Try.prog 6 #[.int .i16 v, .int .u8 a] w fun e w' => e = .returned (.bool true) ∧ Below w.heap.size w w' := by
  obtain ⟨k, rfl⟩ : ∃ k : Nat, a = (k : Int) := ⟨a.toNat, by omega⟩
  have hk : k ≤ 255 := by omega
  have HWW : Hid (∀ (g q : Nat) (W : World), NvS W g q (nv0 300) → Calls Try.prog 25 #[.pointer (some ⟨q, 0, none⟩), .int .i64 k, .int .i16 v] W fun e w' => e = .returned (.bool true) ∧ NvS w' g q (wdS k v) ∧ Chg W w' (Nvb g q .no)) := Lib.hid fun g q W h => by
    have := writeWord_any g q _ k v W h
    rw [wd_write k v hk] at this
    exact this
  have HRW : Hid (∀ (g q : Nat) (W : World), NvS W g q (wdS k v) → Calls Try.prog 26 #[.pointer (some ⟨q, 0, none⟩), .int .i64 k] W fun e w' => e = .returned (.int .i16 v) ∧ Grew W w') := Lib.hid fun g q W h => by
    have := readWord_any g q _ k W h
    rwa [wd_rdw k v hk hv] at this
  have HR0 : Hid (∀ (g q : Nat) (W : World), NvS W g q (wdS k v) → Calls Try.prog 27 #[.pointer (some ⟨q, 0, none⟩), .int .i64 k] W fun e w' => e = .returned (.int .u8 (v % 256)) ∧ W = w') := Lib.hid fun g q W h => by
    have := read_any g q _ k W h
    rwa [wd_rd0 k v hk] at this
  have HR1 : Hid (∀ (g q : Nat) (W : World), NvS W g q (wdS k v) → Calls Try.prog 27 #[.pointer (some ⟨q, 0, none⟩), .int .i64 ((k : Int) + 1)] W fun e w' => e = .returned (.int .u8 (v / 256 % 256)) ∧ W = w') := Lib.hid fun g q W h => by
    have := read_any g q _ ((k : Int) + 1) W h
    rwa [wd_rd1 k v hk] at this
  have HWR : Hid (∀ (g q : Nat) (W : World), NvS W g q (wdS k v) → Calls Try.prog 18 #[.pointer (some ⟨q, 0, none⟩)] W fun e w' => e = .returned (.int .i64 2) ∧ W = w') := Lib.hid fun g q W h => writes_any g q _ W h
  have HSum : Hid (v % 256 + 256 * (v / 256 % 256) = wrap64 (IntKind.u16.wrap v)) := Lib.hid (by
    have e : IntKind.u16.wrap v = v % 65536 := by simp [IntKind.wrap, IntKind.bits, IntKind.signed]
    rw [e, wrap64_in _ (by omega)]
    omega)
  go_enter Try.func6, Try.ntmps6
  go_wp2_with (first
    | (go_at_call 9; (with_reducible refine (wakes_any _).mono ?_); rintro e w0 ⟨rfl, g0⟩; have HB0 := Lib.hid g0; clear g0)
    | (go_at_call 11; (with_reducible refine (new_any 300 _ (by omega)).mono ?_); rintro e w1 ⟨g, q, rfl, s1, g1, hg, hq⟩; have HS := Lib.hid s1; have HB := Lib.hid (Grew.trans HB0.out g1); have HN := Lib.hid (nvb_new (Nat.le_trans (Below.size HB0.out) hg) (Nat.le_trans (Below.size HB0.out) hq)); clear s1 g1 hg hq)
    | (go_at_call 25; (with_reducible refine (HWW.out g q _ HS.out).mono ?_); rintro e w1 ⟨rfl, s1, c1⟩; replace HB := Lib.hid (below_lift HB.out c1 HN.out (Nat.le_refl _)); replace HS := Lib.hid s1; clear s1 c1)
    | (go_at_call 26; (with_reducible refine (HRW.out g q _ HS.out).mono ?_); rintro e w1 ⟨rfl, g1⟩; replace HB := Lib.hid (Grew.trans HB.out g1); replace HS := Lib.hid (HS.out.grew g1); clear g1)
    | (go_at_call 27; (first | with_reducible refine (HR0.out g q _ HS.out).mono ?_ | with_reducible refine (HR1.out g q _ HS.out).mono ?_); rintro e _ ⟨rfl, rfl⟩)
    | (go_at_call 18; (with_reducible refine (HWR.out g q _ HS.out).mono ?_); rintro e _ ⟨rfl, rfl⟩))
  go_ret
  exact ⟨rfl, HB.out⟩
end Go.Proofs.Ytmfahmbebpojpaa
