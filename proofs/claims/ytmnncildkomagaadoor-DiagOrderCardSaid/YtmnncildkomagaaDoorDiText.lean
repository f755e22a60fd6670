/-
  CONTRACTS OF LAYER 14 (diag): the program's lines and columns.
-/
import Derived.Test.YtmnncildkomagaaDoorDiRef
import Derived.Test.YtmnncildkomagaaDoorShelf
import Derived.Deep.CutBlock
import Derived.Deep.DeepCutAuto
namespace Go.Proofs.YtmnncildkomagaaDoor
open Go Go.RowKit Go.IntWalk
open Go.Lib (itoa)
set_option linter.unusedSimpArgs false
set_option linter.unusedVariables false
set_option maxRecDepth 8000

theorem extract_take (s : ByteArray) (k : Nat) : (s.extract 0 k).data.toList = s.data.toList.take k := by
  rw [Lib.extract_eq]; simp
theorem extract_drop (s : ByteArray) (k : Nat) : (s.extract k s.size).data.toList = s.data.toList.drop k := by
  rw [Lib.extract_eq]
  exact List.take_of_length_le (by rw [List.length_drop]; exact Nat.le_refl _)
theorem extract_mid (s : ByteArray) (a b : Nat) : (s.extract a b).data.toList = (s.data.toList.drop a).take (b - a) := by
  rw [Lib.extract_eq]
theorem lines_any (s : ByteArray) (hs : s.size ≤ 100000) (w : World) :
    Calls Tryd.prog 14 #[.string s] w fun e w' => e = .returned (.int .i64 (lin s.data.toList s.size : Nat)) ∧ w = w' := by
  obtain ⟨n, hn⟩ : ∃ n, Lib.countByte s.data.toList 10 = n := ⟨_, rfl⟩
  have hl : n + 1 = lin s.data.toList s.size := by
    have h1 := lin_count s.data.toList s.size (by rw [size_list]; exact Nat.le_refl _)
    rw [h1, ← hn, List.take_of_length_le (by rw [size_list]; exact Nat.le_refl _)]
    rfl
  have hb : n ≤ 100000 := by
    have := lin_le s.data.toList s.size
    omega
  have HL := Lib.hid hl
  have HC := Lib.hid (fun W => Tryd.strings_Count_one s 10 W)
  rw [hn] at HC
  clear hl hn
  go_enter Tryd.func14, Tryd.ntmps14
  go_wp2_with (go_at_call 31; (with_reducible refine (HC.out _).mono ?_); rintro e w1 ⟨rfl, rfl⟩)
  go_ret
  exact ⟨ret_i64 (by rw [← HL.out]; omega), rfl⟩
theorem start_any (s : ByteArray) (hs : s.size ≤ 100000) (k : Nat) (hk : k ≤ s.size) (w : World) :
    Calls Tryd.prog 29 #[.string s, .int .i64 (k : Int)] w fun e w' => e = .returned (.int .i64 (lst s.data.toList k : Nat)) ∧ w = w' := by
  have hx := extract_take s k
  have hz : (s.extract 0 k).size = k := by simp; omega
  have hl := lst_last (xs := s.data.toList) (s.extract 0 k) hx (by rw [size_list]; exact hk)
  have HC := Lib.hid (fun W => Tryd.strings_LastIndexByte (s.extract 0 k) 10 (by rw [hz]; omega) W)
  obtain ⟨z, hzz⟩ : ∃ z, Lib.lastIndexByte (s.extract 0 k) 10 = z := ⟨_, rfl⟩
  rw [hzz] at hl HC
  have hlo := lst_le s.data.toList k
  have hb : -1 ≤ z ∧ z ≤ 100000 := by omega
  obtain ⟨hb1, hb2⟩ := hb
  have HL := Lib.hid hl
  clear hl hzz hx hz hlo
  go_enter Tryd.func29, Tryd.ntmps29
  go_wp2_with (go_at_call 45; (with_reducible refine (HC.out _).mono ?_); rintro e w1 ⟨rfl, rfl⟩)
  go_ret
  exact ⟨ret_i64 HL.out, rfl⟩
theorem end_any (s : ByteArray) (hs : s.size ≤ 100000) (k : Nat) (hk : k ≤ s.size) (q : Nat) (hq : Lnd s.data.toList k q) (w : World) :
    Calls Tryd.prog 32 #[.string s, .int .i64 (k : Int)] w fun e w' => e = .returned (.int .i64 (q : Int)) ∧ w = w' := by
  have hx := extract_drop s k
  have hsl := size_list s
  have HC := Lib.hid (fun W => Tryd.strings_IndexByte (s.extract k s.size) 10 W)
  rw [hx] at HC
  rcases lnd_index (xs := s.data.toList) (p := k) (by rw [hsl]; exact hk) with ⟨h1, h2⟩ | ⟨o, h1, h2⟩
  · rw [show ((10 : Int).toNat.toUInt8) = 10 from rfl, h1] at HC
    have HE := Lib.hid (hq.uniq h2)
    clear h1 h2 hx
    go_enter Tryd.func32, Tryd.ntmps32
    go_wp2_with (go_at_call 49; (with_reducible refine (HC.out _).mono ?_); rintro e w1 ⟨rfl, rfl⟩)
    go_ret
    exact ⟨ret_i64 (by rw [HE.out, hsl]), rfl⟩
  · rw [show ((10 : Int).toNat.toUInt8) = 10 from rfl, h1] at HC
    have HE := Lib.hid (hq.uniq h2)
    have hbo : k + o ≤ 100000 := by have := h2.len; omega
    clear h1 h2 hx
    go_enter Tryd.func32, Tryd.ntmps32
    go_wp2_with (go_at_call 49; (with_reducible refine (HC.out _).mono ?_); rintro e w1 ⟨rfl, rfl⟩)
    go_ret
    exact ⟨ret_i64 (by rw [HE.out]; omega), rfl⟩
theorem pos_any (s : ByteArray) (hs : s.size ≤ 100000) (p : Int) (w : World) :
    Calls Tryd.prog 12 #[.string s, .int .i64 p] w fun e w' => e = .returned (.tuple #[.int .i64 (lin s.data.toList (clp s.size p) : Nat), .int .i64 (col s.data.toList (clp s.size p) : Nat)]) ∧ w = w' := by
  obtain ⟨q, hq⟩ : ∃ q, clp s.size p = q := ⟨_, rfl⟩
  have hle := clp_le s.size p
  have HC := Lib.hid (fun W => within_any s p W)
  rw [hq] at HC hle ⊢
  clear hq
  have hz : (s.extract 0 q).size = q := by simp; omega
  have hli : lin (s.extract 0 q).data.toList (s.extract 0 q).size = lin s.data.toList q := by
    rw [hz, extract_take, lin_count _ _ (by rw [List.length_take, size_list]; omega), lin_count _ _ (by rw [size_list]; omega)]
    rw [List.take_take, Nat.min_self]
  have HL := Lib.hid (fun W => lines_any (s.extract 0 q) (by rw [hz]; omega) W)
  rw [hli] at HL
  have HS := Lib.hid (fun W => start_any s hs q hle W)
  have hlb := lin_le s.data.toList q
  have hsb := lst_le s.data.toList q
  have HV : Hid ((lin s.data.toList q = lin s.data.toList q) ∧ q - lst s.data.toList q + 1 = col s.data.toList q) := Lib.hid ⟨rfl, rfl⟩
  generalize col s.data.toList q = c0 at HV ⊢
  generalize lin s.data.toList q = l0 at HV HL hlb ⊢
  generalize lst s.data.toList q = s0 at HV HS hsb
  clear hz hli
  go_enter Tryd.func12, Tryd.ntmps12
  go_wp2_with (first
    | (go_at_call 28; (with_reducible refine (HC.out _).mono ?_); rintro e w1 ⟨rfl, rfl⟩)
    | (go_at_call 14; (with_reducible refine (HL.out _).mono ?_); rintro e w1 ⟨rfl, rfl⟩)
    | (go_at_call 29; (with_reducible refine (HS.out _).mono ?_); rintro e w1 ⟨rfl, rfl⟩))
  refine bodyPost_ret (v := .tuple #[.int .i64 (l0 : Int), .int .i64 ((q : Int) - s0 + 1)]) (by simp [results, Tryd.results12, go_sem]) rfl ?_
  exact ⟨by rw [show ((q : Int) - s0 + 1) = (c0 : Int) by rw [← HV.out.2]; omega], rfl⟩
set_option maxHeartbeats 2000000 in
theorem off_any (s : ByteArray) (hs : s.size ≤ 100000) (l c r : Int) (ok : Bool) (hl0 : -9223372036854775808 ≤ l ∧ l ≤ 9223372036854775807) (hc0 : -9223372036854775808 ≤ c ∧ c ≤ 9223372036854775807) (hR : OffIs s.data.toList l c r ok) (w : World) :
    Calls Tryd.prog 16 #[.string s, .int .i64 l, .int .i64 c] w fun e w' => e = .returned (.tuple #[.int .i64 r, .bool ok]) ∧ w = w' := by
  have HR := Lib.hid hR
  have hsl := size_list s
  have HSZ := Lib.hid hsl
  have HE := Lib.hid (fun k hk q hq W => end_any s hs k hk q hq W)
  obtain ⟨hl1, hl2⟩ := hl0
  obtain ⟨hc1, hc2⟩ := hc0
  clear hR
  by_cases hlow : l < 1
  · have HV := Lib.hid (off_uniq HR.out (off_low hlow))
    go_enter Tryd.func16, Tryd.ntmps16
    go_wp2
    obtain ⟨rfl, rfl⟩ := HV.out
    refine bodyPost_ret (v := .tuple #[.int .i64 0, .bool false]) (by simp [results, Tryd.results16, go_sem]) rfl ?_
    exact ⟨rfl, rfl⟩
  · have hlw : IntKind.i64.wrap (l - 1) = l - 1 := by rw [IntKind.wrap_i64]; omega
    go_enter Tryd.func16, Tryd.ntmps16
    go_upto_block 0 with fail
    go_cut [8] (fun sv wx => ∃ st : Nat, sv = .int .i64 (st : Int) ∧ st ≤ s.size ∧ Hid (lst s.data.toList st = st ∧ (lin s.data.toList st : Int) = l) ∧ wx = w)
    case first =>
      go_wp2_with fail
      go_loopg [8, 9, 14] (l - 1).toNat (fun gg sv ev iv wr => ∃ (k st : Nat), sv = .int .i64 (st : Int) ∧ iv = .int .i64 (k : Int) ∧ (k : Int) ≤ l - 1 ∧ gg = (l - 1).toNat - k ∧ st ≤ s.size ∧ Hid (lst s.data.toList st = st ∧ lin s.data.toList st = k + 1) ∧ wr = w)
      case atStart => exact ⟨0, 0, rfl, rfl, by omega, rfl, Nat.zero_le _, Lib.hid ⟨rfl, rfl⟩, rfl⟩
      case round =>
        obtain ⟨k, st, rfl, rfl, hk, rfl, hst, HV, rfl⟩ := hrel
        by_cases hlt : (k : Int) < l - 1
        · obtain ⟨q, hq⟩ : ∃ q, Lnd s.data.toList st q := ⟨_, lnd_is (by rw [hsl]; exact hst)⟩
          have hqs := hq.len
          rw [hsl] at hqs
          have HC := Lib.hid (fun W => HE.out st hst q hq W)
          by_cases he : q = s.size
          · have HF := Lib.hid (off_uniq HR.out (off_far (s := st) (l := l) (c := c) (by rw [hsl, ← he]; exact hq) (by rw [HV.out.2]; omega)))
            clear hq
            go_wp2_with (go_at_call 32; (with_reducible refine (HC.out _).mono ?_); rintro e w1 ⟨rfl, rfl⟩)
            obtain ⟨rfl, rfl⟩ := HF.out
            refine bodyPost_ret (v := .tuple #[.int .i64 0, .bool false]) (by simp [results, Tryd.results16, go_sem]) rfl ?_
            exact ⟨rfl, rfl⟩
          · have HN : Hid (lst s.data.toList (q + 1) = q + 1 ∧ lin s.data.toList (q + 1) = k + 1 + 1) := Lib.hid (by
              have h1 : s.data.toList[q]? = some 10 := hq.at'.resolve_left (by rw [hsl]; exact he)
              have h2 := (same_line hq.le hq.no).1
              rw [lst_lf h1, lin_lf h1, h2, HV.out.2]
              exact ⟨rfl, rfl⟩)
            clear hq
            have he' : ¬ (q : Int) = (s.size : Int) := by omega
            go_wp2_with (go_at_call 32; (with_reducible refine (HC.out _).mono ?_); rintro e w1 ⟨rfl, rfl⟩)
            go_roundg ((l - 1).toNat - (k + 1))
            case measure => omega
            case rel => exact ⟨k + 1, q + 1, (by go_num), (by go_num), by omega, rfl, by omega, HN, rfl⟩
        · have HN : Hid (lst s.data.toList st = st ∧ (lin s.data.toList st : Int) = l) := Lib.hid ⟨HV.out.1, by rw [HV.out.2]; omega⟩
          go_wp2
          go_meet
          exact ⟨st, rfl, hst, HN, rfl⟩
    case rest =>
      obtain ⟨st, hsv, hst, HV, hwx⟩ := hcut
      subst hwx hsv
      obtain ⟨q, hq⟩ : ∃ q, Lnd s.data.toList st q := ⟨_, lnd_is (by rw [hsl]; exact hst)⟩
      have hqs := hq.len
      have hqle := hq.le
      rw [hsl] at hqs
      have HC := Lib.hid (fun W => HE.out st hst q hq W)
      by_cases hcl : c < 1
      · have HF := Lib.hid (off_uniq HR.out (off_out HV.out.1 hq HV.out.2 (.inl hcl)))
        clear hq
        go_wp2_with (go_at_call 32; (with_reducible refine (HC.out _).mono ?_); rintro e w1 ⟨rfl, rfl⟩)
        obtain ⟨rfl, rfl⟩ := HF.out
        refine bodyPost_ret (v := .tuple #[.int .i64 0, .bool false]) (by simp [results, Tryd.results16, go_sem]) rfl ?_
        exact ⟨rfl, rfl⟩
      · by_cases hch : (q : Int) - st + 1 < c
        · have HF := Lib.hid (off_uniq HR.out (off_out HV.out.1 hq HV.out.2 (.inr hch)))
          clear hq
          go_wp2_with (go_at_call 32; (with_reducible refine (HC.out _).mono ?_); rintro e w1 ⟨rfl, rfl⟩)
          obtain ⟨rfl, rfl⟩ := HF.out
          refine bodyPost_ret (v := .tuple #[.int .i64 0, .bool false]) (by simp [results, Tryd.results16, go_sem]) rfl ?_
          exact ⟨rfl, rfl⟩
        · have HF := Lib.hid (off_uniq HR.out (off_line HV.out.1 hq HV.out.2 (by omega) (by omega) rfl))
          clear hq
          go_wp2_with (go_at_call 32; (with_reducible refine (HC.out _).mono ?_); rintro e w1 ⟨rfl, rfl⟩)
          obtain ⟨rfl, rfl⟩ := HF.out
          refine bodyPost_ret (v := .tuple #[.int .i64 ((st : Int) + c - 1), .bool true]) (by simp [results, Tryd.results16, go_sem]) rfl ?_
          exact ⟨rfl, rfl⟩
end Go.Proofs.YtmnncildkomagaaDoor
