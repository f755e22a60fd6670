/-
  CONTRACTS OF LAYER 1 (word) AND OF ITS REFERENCE: what each call returns, and that nothing that was there before has changed.
-/
import Derived.Test.YtelniailmfbinaaDoorRows
import Derived.Test.YtelniailmfbinaaDoorWordPlain
import Derived.Test.YtelniailmfbinaaDoorShelf
import Derived.WalkKit
import Derived.WalkSpells
import Derived.WalkLawsBesides
import Derived.Lib.EndianBits
import Derived.Stop.BytesEq
namespace Go.Proofs.YtelniailmfbinaaDoor
open Go.RowKit

/-! ### What the row's condition gives the walks, and that it lasts -/

theorem var?_keep {P : Program} {w w' : World} {n : String} {cs : Array Value} (hb : Below w.heap.size w w') (h : w.var? P n = some cs) : w'.var? P n = some cs := by
  unfold World.var? at h ⊢
  cases hg : P.globalNamed n with
  | none => simp [hg] at h
  | some g =>
    simp only [hg, Option.bind_some] at h ⊢
    have hlt : g < w.heap.size := by
      rcases Nat.lt_or_ge g w.heap.size with h' | h'
      · exact h'
      · simp [Array.getElem?_eq_none h'] at h
    rw [hb.block g hlt]
    exact h

/-- The library's table and its two errors, as the program's initialisers lay them. -/
structure Env (w : World) : Prop where
  pow : Lib.TabIs Tryd.prog w "internal/strconv.uint64pow10" .u64 Lib.pow10Tab
  syn : ∃ tp p, w.var? Tryd.prog "strconv.ErrSyntax" = some #[.iface tp p]
  ran : ∃ tp p, w.var? Tryd.prog "strconv.ErrRange" = some #[.iface tp p]
theorem Env.below {w w' : World} (h : Env w) (hb : Below w.heap.size w w') : Env w' := by
  obtain ⟨h1, ⟨a, b, h2⟩, ⟨c, d, h3⟩⟩ := h
  exact ⟨var?_keep hb h1, ⟨a, b, var?_keep hb h2⟩, ⟨c, d, var?_keep hb h3⟩⟩

theorem below_grow (w : World) (k : Nat) (os : Array Obj) : Below w.heap.size w (Sort.grow (w.drewN k) os) := by
  refine ⟨rfl, rfl, rfl, by simp [Sort.grow], fun i hi => ?_⟩
  simp [Sort.grow, Array.getElem?_append, hi]

/-! ### word -/

theorem add_any (a b : Int) (w : World) :
    Calls Tryd.prog 12 #[.int .i16 a, .int .i16 b] w fun e w' => e = .returned (.int .i16 (w16 (a + b))) ∧ w = w' := by
  go_enter Tryd.func12, Tryd.ntmps12
  go_wp2
  go_ret
  exact ⟨by rw [← wrap_i16]; rfl, rfl⟩
theorem sub_any (a b : Int) (w : World) :
    Calls Tryd.prog 14 #[.int .i16 a, .int .i16 b] w fun e w' => e = .returned (.int .i16 (w16 (a - b))) ∧ w = w' := by
  go_enter Tryd.func14, Tryd.ntmps14
  go_wp2
  go_ret
  exact ⟨by rw [← wrap_i16]; rfl, rfl⟩
theorem mul_any (a b : Int) (w : World) :
    Calls Tryd.prog 15 #[.int .i16 a, .int .i16 b] w fun e w' => e = .returned (.int .i16 (w16 (a * b))) ∧ w = w' := by
  go_enter Tryd.func15, Tryd.ntmps15
  go_wp2
  go_ret
  exact ⟨by rw [← wrap_i16]; rfl, rfl⟩
theorem div_any (a b : Int) (w : World) :
    Calls Tryd.prog 16 #[.int .i16 a, .int .i16 b] w fun e w' => e = .returned (.int .i16 (w16 (quo a b))) ∧ w = w' := by
  by_cases h : b = 0
  · subst h
    go_enter Tryd.func16, Tryd.ntmps16
    go_wp2
    go_ret
    exact ⟨rfl, rfl⟩
  · have H := Lib.hid h
    have h' : (b == 0) = false := by simpa using h
    go_enter Tryd.func16, Tryd.ntmps16
    go_wp2
    go_ret
    exact ⟨by rw [quo, if_neg H.out, ← wrap_i16]; rfl, rfl⟩
theorem mod_any (a b : Int) (w : World) :
    Calls Tryd.prog 18 #[.int .i16 a, .int .i16 b] w fun e w' => e = .returned (.int .i16 (rem a b)) ∧ w = w' := by
  by_cases h : b = 0
  · subst h
    go_enter Tryd.func18, Tryd.ntmps18
    go_wp2
    go_ret
    exact ⟨rfl, rfl⟩
  · have H := Lib.hid h
    have h' : (b == 0) = false := by simpa using h
    go_enter Tryd.func18, Tryd.ntmps18
    go_wp2
    go_ret
    exact ⟨by rw [rem, if_neg H.out]; rfl, rfl⟩

theorem format_any (n : Int) (h0 : -32768 ≤ n) (h1 : n ≤ 32767) (w : World) (he : Env w) :
    Calls Tryd.prog 30 #[.int .i16 n] w fun e w' => e = .returned (.string ⟨(Lib.itoa n).toArray⟩) ∧ Below w.heap.size w w' := by
  have HE := Lib.hid he.pow
  clear he
  go_enter Tryd.func30, Tryd.ntmps30
  go_wp2_with (go_at_call 36; refine (Tryd.strconv_Itoa n (by omega) (by omega) _ HE.out).mono ?_; rintro e w' ⟨rfl, k, os, rfl⟩)
  go_ret
  exact ⟨rfl, below_grow _ _ _⟩

/-- strconv.ParseInt(s, 10, 16) where s is no 16-bit number: 0 and an error that is not nil. -/
def Failed (x : Int) (w : World) (e : Ending) (w' : World) : Prop := ∃ N : Nat, e = .returned (.tuple #[.int .i64 x, .iface 61 (.pointer (some ⟨N, 0, none⟩))]) ∧ Below w.heap.size w w'
theorem parseInt_no (s : ByteArray) (hlim : s.size ≤ 281474976710656) (h : ∀ v, Lib.parseIntB 16 s.data.toList ≠ .ok v) (w : World) (he : Env w) :
    ∃ x, Calls Tryd.prog 37 #[.string s, .int .i64 10, .int .i64 16] w (Failed x w) := by
  obtain ⟨_, ⟨tp, p, hv⟩, ⟨tp', p', hv'⟩⟩ := he
  cases hp : Lib.parseIntB 16 s.data.toList
  · exact absurd hp (h _)
  · exact ⟨_, Calls.mono (Any.strconv_ParseInt_10_at16_syntax_var Tryd.laysC174 s hlim hp tp p w hv) fun e w' ⟨N, h1, _, _, h4⟩ => ⟨N, h1, h4⟩⟩
  · exact ⟨_, Calls.mono (Tryd.strconv_ParseInt_10_at16_range_var s hlim hp tp' p' w hv') fun e w' ⟨N, h1, _, _, h4⟩ => ⟨N, h1, h4⟩⟩

theorem parse_no (s : ByteArray) (hlim : s.size ≤ 281474976710656) (h : ∀ v, Lib.parseIntB 16 s.data.toList ≠ .ok v) (w : World) (he : Env w) :
    Calls Tryd.prog 31 #[.string s] w fun e w' => e = .returned (.tuple #[.int .i16 0, .int .i64 2]) ∧ Below w.heap.size w w' := by
  obtain ⟨x, hc⟩ := parseInt_no s hlim h w he
  have HC := Lib.hid hc
  clear hc h he
  go_enter Tryd.func31, Tryd.ntmps31
  go_wp2_with (go_at_call 37; refine HC.out.mono ?_; rintro e w' ⟨N, rfl, hb⟩)
  go_ret2
  exact ⟨rfl, hb⟩

theorem below_ok {w w' : World} {T : TypeId} (h : w' = w ∨ ∃ t, w' = Lib.bytesWorld w T t) : Below w.heap.size w w' := by
  rcases h with rfl | ⟨t, rfl⟩
  · exact Below.refl _ _
  · exact Lib.bytesWorld_below _ _ _

/-- What a call of Parse does, of the program's or of the reference's. -/
def Parsed (l : List UInt8) (w : World) (e : Ending) (w' : World) : Prop := ∃ v k : Int, e = .returned (.tuple #[.int .i16 v, .int .i64 k]) ∧ ParsesTo l v k ∧ Below w.heap.size w w'
theorem Parsed.no {l : List UInt8} {w w' : World} (h : ∀ u, ¬ Spelt l u) (hb : Below w.heap.size w w') : Parsed l w (.returned (.tuple #[.int .i16 0, .int .i64 2])) w' := ⟨0, 2, rfl, .inr ⟨rfl, rfl, h⟩, hb⟩

theorem parse_ok (s : ByteArray) (hlim : s.size ≤ 281474976710656) (v : Int) (h : Lib.parseIntB 16 s.data.toList = .ok v) (w : World) (he : Env w) :
    Calls Tryd.prog 31 #[.string s] w (Parsed s.data.toList w) := by
  have hbd := parsed_bd h
  obtain ⟨h0, h1⟩ := hbd
  have H := Lib.hid h
  clear h
  have HE := Lib.hid he
  clear he
  go_enter Tryd.func31, Tryd.ntmps31
  go_wp2_with (first
    | (go_at_call 37; refine (Tryd.strconv_ParseInt_10_at16_ok s (by omega) v H.out _).mono ?_; rintro e w1 ⟨rfl, hw⟩; have HB := Lib.hid (below_ok hw); clear hw)
    | (go_at_call 30; refine (format_any v h0 h1 _ (HE.out.below HB.out)).mono ?_; rintro e w2 ⟨rfl, hb2⟩; have HB2 := Lib.hid hb2; clear hb2))
  · have ht : (!Lib.itoa v == s.toList) = true := by assumption
    have hne : Lib.itoa v ≠ s.data.toList := by rw [ByteArray.toList_eq] at ht; simpa using ht
    go_ret2
    exact Parsed.no (not_spelt_other H.out hne) (HB.out.trans (HB2.out.mono HB.out.size))
  · have ht : (!Lib.itoa v == s.toList) = false := by assumption
    have hne : Lib.itoa v = s.data.toList := by rw [ByteArray.toList_eq] at ht; simpa using ht
    go_ret2
    exact ⟨v, 0, rfl, .inl ⟨rfl, ⟨h0, h1⟩, hne⟩, HB.out.trans (HB2.out.mono HB.out.size)⟩

/-- word.Parse, at every string. -/
theorem parse_any (s : ByteArray) (hlim : s.size ≤ 281474976710656) (w : World) (he : Env w) :
    Calls Tryd.prog 31 #[.string s] w (Parsed s.data.toList w) := by
  by_cases h : ∃ v, Lib.parseIntB 16 s.data.toList = .ok v
  · obtain ⟨v, h⟩ := h
    exact parse_ok s hlim v h w he
  · have h' : ∀ v, Lib.parseIntB 16 s.data.toList ≠ .ok v := fun v hv => h ⟨v, hv⟩
    exact (parse_no s hlim h' w he).mono fun e w' ⟨h1, h2⟩ => h1 ▸ Parsed.no (not_spelt_parse h') h2

/-! ### trickleref01 -/

theorem wrap_any (n : Int) (h0 : -4611686018427387904 ≤ n) (h1 : n ≤ 4611686018427387904) (w : World) :
    Calls Tryd.prog 13 #[.int .i64 n] w fun e w' => e = .returned (.int .i16 (w16 n)) ∧ w = w' := by
  by_cases hn : 0 ≤ n
  · have HW := Lib.hid (w16_of_nonneg n)
    go_enter Tryd.func13, Tryd.ntmps13
    go_wp2
    all_goals (go_ret; exact ⟨ret_i16 (by rw [HW.out]; unfold w16; omega), rfl⟩)
  · obtain ⟨e, b1, b2⟩ := w16_of_neg n (by omega)
    have HW := Lib.hid e
    clear e
    go_enter Tryd.func13, Tryd.ntmps13
    go_wp2
    all_goals (go_ret; exact ⟨ret_i16 (by rw [HW.out]; unfold w16; omega), rfl⟩)

theorem u16w (n : Int) : IntKind.u16.wrap n = n % 65536 := by simp [IntKind.wrap, IntKind.bits, IntKind.signed]
theorem index_any (i n : Int) (hn : 1 ≤ n) (w : World) :
    Calls Tryd.prog 24 #[.int .i16 i, .int .i64 n] w fun e w' => e = .returned (.tuple #[.int .i64 ((i % 65536) % n), .int .i64 0]) ∧ w = w' := by
  have HW := Lib.hid (u16w i)
  have b0 : 0 ≤ IntKind.u16.wrap i := by rw [u16w]; omega
  have b1 : IntKind.u16.wrap i ≤ 65535 := by rw [u16w]; omega
  go_enter Tryd.func24, Tryd.ntmps24
  go_wp2
  go_ret2
  exact ⟨by rw [← HW.out]; rfl, rfl⟩
theorem index_no (i n : Int) (hn : n < 1) (w : World) :
    Calls Tryd.prog 24 #[.int .i16 i, .int .i64 n] w fun e w' => e = .returned (.tuple #[.int .i64 0, .int .i64 1]) ∧ w = w' := by
  go_enter Tryd.func24, Tryd.ntmps24
  go_wp2
  go_ret2
  exact ⟨rfl, rfl⟩
theorem rindex_any (i n : Int) (h0 : -32768 ≤ i) (h1 : i ≤ 32767) (hn : 1 ≤ n) (w : World) :
    Calls Tryd.prog 25 #[.int .i16 i, .int .i64 n] w fun e w' => e = .returned (.tuple #[.int .i64 ((i % 65536) % n), .int .i64 0]) ∧ w = w' := by
  have H := Lib.hid (show (i < 0 → i % 65536 = i + 65536) ∧ (0 ≤ i → i % 65536 = i) by omega)
  go_enter Tryd.func25, Tryd.ntmps25
  go_wp2
  all_goals go_ret2
  · exact ⟨by rw [H.out.1 (by assumption)]; rfl, rfl⟩
  · exact ⟨by rw [H.out.2 (by assumption)]; rfl, rfl⟩
theorem rindex_no (i n : Int) (hn : n < 1) (w : World) :
    Calls Tryd.prog 25 #[.int .i16 i, .int .i64 n] w fun e w' => e = .returned (.tuple #[.int .i64 0, .int .i64 1]) ∧ w = w' := by
  go_enter Tryd.func25, Tryd.ntmps25
  go_wp2
  go_ret2
  exact ⟨rfl, rfl⟩
theorem put_any (a : Int) (w : World) :
    Calls Tryd.prog 26 #[.int .i16 a] w fun e w' => e = .returned (.agg #[.int .u8 (lo a), .int .u8 (hi a)]) ∧ Below w.heap.size w w' := by
  have HW := Lib.hid (u16w a)
  have b0 : 0 ≤ IntKind.u16.wrap a := by rw [u16w]; omega
  have b1 : IntKind.u16.wrap a ≤ 65535 := by rw [u16w]; omega
  go_enter Tryd.func26, Tryd.ntmps26
  go_wp2
  refine bodyPost_ret (v := .agg #[.int .u8 (IntKind.u16.wrap a % 256), .int .u8 (IntKind.u16.wrap a / 256)]) (by simp [results, Tryd.results26, go_sem]) rfl ⟨?_, (Below.refl _ _).alloc (Nat.le_refl _) _⟩
  rw [HW.out]; rfl
theorem rput_any (a : Int) (h0 : -32768 ≤ a) (h1 : a ≤ 32767) (w : World) :
    Calls Tryd.prog 27 #[.int .i16 a] w fun e w' => e = .returned (.agg #[.int .u8 (lo a), .int .u8 (hi a)]) ∧ Below w.heap.size w w' := by
  have H := Lib.hid (show (a < 0 → a % 65536 = a + 65536) ∧ (0 ≤ a → a % 65536 = a) by omega)
  go_enter Tryd.func27, Tryd.ntmps27
  go_wp2
  · refine bodyPost_ret (v := .agg #[.int .u8 ((a + 65536) % 256), .int .u8 ((a + 65536) / 256)]) (by simp [results, Tryd.results27, go_sem]) rfl ⟨?_, (Below.refl _ _).alloc (Nat.le_refl _) _⟩
    rw [← H.out.1 (by assumption)]; rfl
  · refine bodyPost_ret (v := .agg #[.int .u8 (a % 256), .int .u8 (a / 256)]) (by simp [results, Tryd.results27, go_sem]) rfl ⟨?_, (Below.refl _ _).alloc (Nat.le_refl _) _⟩
    unfold lo hi; rw [H.out.2 (by assumption)]
theorem get_any (x y : Int) (h0 : 0 ≤ x) (h1 : x ≤ 255) (h2 : 0 ≤ y) (h3 : y ≤ 255) (w : World) :
    Calls Tryd.prog 28 #[.agg #[.int .u8 x, .int .u8 y]] w fun e w' => e = .returned (.int .i16 (w16 (x + 256 * y))) ∧ Below w.heap.size w w' := by
  have hb := Lib.hid (Go.u16_or8 (y := x) (x := y * 256) h0 (by omega) (by omega) (by omega) (by omega))
  go_enter Tryd.func28, Tryd.ntmps28
  go_wp2
  go_ret
  exact ⟨by rw [Int.mul_comm 256 y, ← hb.out, ← wrap_i16]; rfl, (Below.refl _ _).alloc (Nat.le_refl _) _⟩
theorem rget_any (x y : Int) (h0 : 0 ≤ x) (h1 : x ≤ 255) (h2 : 0 ≤ y) (h3 : y ≤ 255) (w : World) :
    Calls Tryd.prog 29 #[.agg #[.int .u8 x, .int .u8 y]] w fun e w' => e = .returned (.int .i16 (w16 (x + 256 * y))) ∧ Below w.heap.size w w' := by
  go_enter Tryd.func29, Tryd.ntmps29
  go_wp2_with (go_at_call 13; refine (wrap_any (x + 256 * y) (by omega) (by omega) _).mono ?_; rintro e w' ⟨rfl, rfl⟩)
  go_ret
  exact ⟨rfl, (Below.refl _ _).alloc (Nat.le_refl _) _⟩
theorem rquo_any (a b : Int) (h0 : -32768 ≤ a) (h1 : a ≤ 32767) (w : World) :
    Calls Tryd.prog 17 #[.int .i64 a, .int .i64 b] w fun e w' => e = .returned (.int .i64 (quo a b)) ∧ w = w' := by
  by_cases h : b = 0
  · subst h
    go_enter Tryd.func17, Tryd.ntmps17
    go_wp2
    go_ret
    exact ⟨rfl, rfl⟩
  · have H := Lib.hid h
    have h' : (b == 0) = false := by simpa using h
    obtain ⟨b0, b1⟩ := tdiv_bd a b
    have c0 : -32768 ≤ a.tdiv b := by omega
    have c1 : a.tdiv b ≤ 32768 := by omega
    clear b0 b1
    go_enter Tryd.func17, Tryd.ntmps17
    go_wp2
    go_ret
    exact ⟨by rw [quo, if_neg H.out]; rfl, rfl⟩
theorem rrem_any (a b : Int) (h0 : -32768 ≤ a) (h1 : a ≤ 32767) (h2 : -32768 ≤ b) (h3 : b ≤ 32767) (w : World) :
    Calls Tryd.prog 19 #[.int .i64 a, .int .i64 b] w fun e w' => e = .returned (.int .i64 (rem a b)) ∧ w = w' := by
  by_cases h : b = 0
  · subst h
    go_enter Tryd.func19, Tryd.ntmps19
    go_wp2
    go_ret
    exact ⟨rfl, rfl⟩
  · have H := Lib.hid h
    have h' : (b == 0) = false := by simpa using h
    obtain ⟨c0, c1⟩ := quo_bd a b ⟨h0, h1⟩
    obtain ⟨d0, d1⟩ := mul_bd b (quo a b) ⟨h2, h3⟩ ⟨c0, c1⟩
    go_enter Tryd.func19, Tryd.ntmps19
    go_wp2_with (go_at_call 17; refine (rquo_any a b (by omega) (by omega) _).mono ?_; rintro e w' ⟨rfl, rfl⟩)
    go_ret
    exact ⟨ret_i64 (by rw [rem, if_neg H.out, quo, if_neg H.out]; exact sub_quo a b), rfl⟩

/-- Two bytes are equal to the same two bytes. -/
theorem size_u8 : ∀ w, (sizeOf 5).run Tryd.prog w = .ok 1 w := fun _ => by kernel_rfl
theorem eq2 (a b : Int) (ha : 0 ≤ a ∧ a ≤ 255) (hb : 0 ≤ b ∧ b ≤ 255) (w : World) :
    (binOp .eql 37 (.agg #[.int .u8 a, .int .u8 b]) (.agg #[.int .u8 a, .int .u8 b])).run Tryd.prog w = .ok (.bool true) w := by
  obtain ⟨x, rfl⟩ : ∃ x : UInt8, a = x.toNat := ⟨UInt8.ofNat a.toNat, by rw [UInt8.toNat_ofNat']; omega⟩
  obtain ⟨y, rfl⟩ : ∃ y : UInt8, b = y.toNat := ⟨UInt8.ofNat b.toNat, by rw [UInt8.toNat_ofNat']; omega⟩
  have := run_eql_bytes w 37 5 2 Tryd.underlying37 Tryd.underlying5 size_u8 [x, y] [x, y] rfl rfl
  rw [show ([x, y] == [x, y]) = true by simp] at this
  exact this

end Go.Proofs.YtelniailmfbinaaDoor
