/-
  CONTRACTS OF LAYER 13 (powertrace): periods as cells; the library's variables and functions; which periods are valid.
-/
import Derived.Test.YtapgpdgbdmnkgaaDoorProg
import Derived.Test.YtapgpdgbdmnkgaaDoorPtPlain
import Derived.Test.YtapgpdgbdmnkgaaDoorRow
import Derived.Test.YtapgpdgbdmnkgaaDoorOps
import Derived.Test.YtapgpdgbdmnkgaaDoorStr
import Derived.Test.YtapgpdgbdmnkgaaDoorShelf
import Derived.Lib.AtoiAllCases
import Derived.LoopTactic
import Derived.Deep.LoopGhost
namespace Go.Proofs.YtapgpdgbdmnkgaaDoor
open Go Go.RowKit Go.IntWalk
open Go.Lib (itoa)
set_option linter.unusedSimpArgs false
set_option linter.unusedVariables false
set_option maxRecDepth 8000

abbrev itc (x : It) : List Value := [.int .i64 x.1, .int .i64 x.2]
abbrev itv (x : It) : Value := .agg #[.int .i64 x.1, .int .i64 x.2]
theorem encI : Enc 2 itc := ⟨fun _ => rfl, fun x u hu => by simp at hu; rcases hu with rfl | rfl <;> rfl, by decide⟩
theorem infoC : (Tryd.prog.info? 52).map (fun i => (i.zero, i.size, i.bytes)) = some (some (itv (0, 0)), 2, 16) := by kernel_rfl
/-- A row's block is none of another type. -/
theorem OwR.apart {α : Type} {k : Nat} {enc : α → List Value} {w : World} {base : Nat} {e e' : TypeId} {p : Option Addr} {n c : Nat} {xs : List α} (h : OwR w base e k enc (.slice p n c) xs) (he : e ≠ e') {S : Nat} {vs : List Value} (hb : Blk S vs e' w) : ¬ (Value.ownBlock (.slice p n c) = some S) := fun hs => by
  rcases h.2 with ⟨hv, _⟩ | ⟨g, cap, cur, hv, _, hg, _⟩
  · simp only [Value.slice.injEq] at hv
    rw [ownBlock_sl, hv.1] at hs
    cases hs
  · simp only [Value.slice.injEq] at hv
    rw [ownBlock_sl, hv.1] at hs
    obtain rfl : g = S := Option.some.inj hs
    have h2 : w.heap[g]? = _ := hb
    rw [h2] at hg
    simp at hg
    exact he hg.2.symm

/-! ### The library -/
theorem var?_keep {P : Program} {w w' : World} {n : String} {cs : Array Value} (hb : Below w.heap.size w w') (h : w.var? P n = some cs) : w'.var? P n = some cs := by
  unfold World.var? at h ⊢
  cases hg : P.globalNamed n with
  | none => simp [hg] at h
  | some g =>
    simp only [hg, Option.bind_some] at h ⊢
    have hlt : g < w.heap.size := by
      rcases Nat.lt_or_ge g w.heap.size with h' | h'
      · exact h'
      · simp [Array.getElem?_eq_none h'] at h
    rw [hb.block g hlt]
    exact h
/-- The library's table and its two errors, as the program's initialisers lay them; and a variable that holds some number. -/
structure Env (w : World) : Prop where
  pow : Lib.TabIs Tryd.prog w "internal/strconv.uint64pow10" .u64 Lib.pow10Tab
  syn : ∃ tp p, w.var? Tryd.prog "strconv.ErrSyntax" = some #[.iface tp p]
  ran : ∃ tp p, w.var? Tryd.prog "strconv.ErrRange" = some #[.iface tp p]
  most : ∃ m : Int, w.cell? ⟨0, 0, none⟩ = some (.int .i64 m)
theorem Env.grew {w w' : World} (h : Env w) (hb : Grew w w') : Env w' := by
  obtain ⟨h1, ⟨a, b, h2⟩, ⟨c, d, h3⟩, ⟨m, h4⟩⟩ := h
  exact ⟨var?_keep hb h1, ⟨a, b, var?_keep hb h2⟩, ⟨c, d, var?_keep hb h3⟩, ⟨m, (Below.cell hb (p := ⟨0, 0, none⟩) (World.block_lt_of_cell? _ _ h4)).trans h4⟩⟩
/-- The table lies below a base. -/
abbrev Tab (base : Nat) (w : World) : Prop := Lib.TabBelow Tryd.prog base w "internal/strconv.uint64pow10" .u64 Lib.pow10Tab
theorem Env.tab {w : World} (h : Env w) : Tab w.heap.size w := Lib.tabBelow_of_tabIs h.pow
theorem info_u8 : (Tryd.prog.info? 5).map (fun i => (i.zero, i.size, i.bytes)) = some (some (.int .u8 0), 1, 1) := by kernel_rfl
theorem appInt_any (base : Nat) (z : Int) (h0 : -9223372036854775808 ≤ z) (h1 : z ≤ 9223372036854775807) (v : Value) (xs : List UInt8) (w : World) (hown : Own w base 5 v xs) (hb : base ≤ w.heap.size) (hl : xs.length ≤ 4294967296) (htab : Tab base w) :
    Calls Tryd.prog 45 #[v, .int .i64 z, .int .i64 10] w fun e w' => ∃ r j, e = .returned (.slice r (xs.length + (Lib.itoa z).length) j) ∧ Own w' base 5 (.slice r (xs.length + (Lib.itoa z).length) j) (xs ++ Lib.itoa z) ∧ Below base w w' ∧ Lib.OthersKept 5 none w w' := by
  refine (Tryd.strconv_AppendInt_10 base xs.length z h0 h1 v (bvs xs) w hown hb (by omega) htab).mono ?_
  rintro e w' ⟨v', rfl, h1, h2, h3⟩
  have h4 : Own w' base 5 v' (xs ++ Lib.itoa z) := by
    show World.ownsRow _ _ _ _ _ _ _
    rw [List.length_append, bvs_append]
    exact h1
  obtain ⟨r, j, rfl, _, _⟩ := h4.shape
  rw [List.length_append] at h4 ⊢
  exact ⟨r, j, rfl, h4, h2, h3⟩
/-- A text that is no number of the size: an error that is not nil. -/
def Failed (x : Int) (w : World) (e : Ending) (w' : World) : Prop := ∃ N : Nat, e = .returned (.tuple #[.int .i64 x, .iface 95 (.pointer (some ⟨N, 0, none⟩))]) ∧ Grew w w'
theorem grew_ok {w w' : World} {T : TypeId} (h : w' = w ∨ ∃ t, w' = Lib.bytesWorld w T t) : Grew w w' := by
  rcases h with rfl | ⟨t, rfl⟩
  · exact Grew.refl _
  · exact Lib.bytesWorld_below _ _ _
theorem pint64_no (l : List UInt8) (hl : l.length ≤ 100000) (h : ∀ v, Lib.parseIntB 64 l ≠ .ok v) : ∃ x, ∀ w, Env w → Calls Tryd.prog 48 #[.string ⟨l.toArray⟩, .int .i64 10, .int .i64 64] w (Failed x w) := by
  have hsz : (⟨l.toArray⟩ : ByteArray).size ≤ 281474976710656 := by show l.length ≤ _; omega
  cases hc : Lib.parseIntB 64 l
  · exact absurd hc (h _)
  · exact ⟨_, fun w he => by
      obtain ⟨tp, q, hv⟩ := he.syn
      exact Calls.mono (Any.strconv_ParseInt_10_at64_syntax_var Tryd.laysC174 ⟨l.toArray⟩ hsz hc tp q w hv) fun e w' ⟨N, h1, _, _, h4⟩ => ⟨N, h1, h4⟩⟩
  · exact ⟨_, fun w he => by
      obtain ⟨tp, q, hv⟩ := he.ran
      exact Calls.mono (Tryd.strconv_ParseInt_10_at64_range_var ⟨l.toArray⟩ hsz hc tp q w hv) fun e w' ⟨N, h1, _, _, h4⟩ => ⟨N, h1, h4⟩⟩
theorem pint64_ok (l : List UInt8) (hl : l.length ≤ 100000) (v : Int) (h : Lib.parseIntB 64 l = .ok v) (w : World) :
    Calls Tryd.prog 48 #[.string ⟨l.toArray⟩, .int .i64 10, .int .i64 64] w fun e w' => e = .returned (.tuple #[.int .i64 v, .nilIface]) ∧ Grew w w' := by
  refine (Tryd.strconv_ParseInt_10_at64_ok ⟨l.toArray⟩ (by show l.length ≤ _; omega) v h w).mono ?_
  rintro e w' ⟨rfl, hw⟩
  exact ⟨rfl, grew_ok hw⟩
theorem atoi_no (l : List UInt8) (hl : l.length ≤ 100000) (h : ∀ v, Lib.atoiAll l ≠ .ok v) : ∃ x, ∀ w, Env w → Calls Tryd.prog 47 #[.string ⟨l.toArray⟩] w (Failed x w) := by
  have hsz : (⟨l.toArray⟩ : ByteArray).size ≤ 281474976710656 := by show l.length ≤ _; omega
  cases hc : Lib.atoiAll l
  · exact absurd hc (h _)
  · exact ⟨_, fun w he => by
      obtain ⟨tp, q, hv⟩ := he.syn
      exact Calls.mono (Any.strconv_Atoi_syntax_var Tryd.laysC172 ⟨l.toArray⟩ hsz hc tp q w hv) fun e w' ⟨N, h1, _, _, h4⟩ => ⟨N, h1, h4⟩⟩
  · exact ⟨_, fun w he => by
      obtain ⟨tp, q, hv⟩ := he.ran
      exact Calls.mono (Tryd.strconv_Atoi_range_var ⟨l.toArray⟩ hsz hc tp q w hv) fun e w' ⟨N, h1, _, _, h4⟩ => ⟨N, h1, h4⟩⟩
theorem atoi_ok (l : List UInt8) (hl : l.length ≤ 100000) (v : Int) (h : Lib.atoiAll l = .ok v) (w : World) :
    Calls Tryd.prog 47 #[.string ⟨l.toArray⟩] w fun e w' => e = .returned (.tuple #[.int .i64 v, .nilIface]) ∧ Grew w w' := by
  refine (Tryd.strconv_Atoi_ok ⟨l.toArray⟩ (by show l.length ≤ _; omega) v h w).mono ?_
  rintro e w' ⟨rfl, hw⟩
  exact ⟨rfl, grew_ok hw⟩
theorem parse10_digits (acc : Nat) (l : List UInt8) (h : ∀ c ∈ l, 48 ≤ c.toNat ∧ c.toNat ≤ 57) (hM : ∀ k, dval acc (l.take k) ≤ 9223372036854775807) : Lib.parseUint10 acc l = .ok (dval acc l) := by
  induction l generalizing acc with
  | nil => rfl
  | cons c r ih =>
    have hc := h c (by simp)
    have h1 : 10 * acc + (c.toNat - 48) ≤ 9223372036854775807 := hM 1
    rw [Lib.parseUint10, if_pos hc, if_neg (by omega), if_neg (by omega), Nat.mul_comm acc 10]
    exact ih _ (fun x hx => h x (by simp [hx])) (fun k => hM (k + 1))
theorem atoi_itoa (v : Int) (h0 : 0 ≤ v) (h1 : v ≤ 9223372036854775807) : Lib.atoiAll (itoa v) = .ok v := by
  obtain ⟨u, rfl⟩ : ∃ u : Nat, v = u := ⟨v.toNat, by omega⟩
  rw [Lib.itoa_nonneg u]
  have hd := decDigits_digit u
  have hp : Lib.parseMag (Lib.decDigits u) = .ok u := by
    rw [Lib.parseMag, if_neg (decDigits_ne u), parse10_digits 0 _ hd (fun k => Nat.le_trans (dval_take _ _ _) (by rw [dval_decDigits]; omega)), dval_decDigits]
  cases hl : Lib.decDigits u with
  | nil => exact absurd hl (decDigits_ne u)
  | cons c r =>
    rw [hl] at hd hp
    have hc := hd c (by simp)
    rw [Lib.atoiAll_plain c r (by omega) (by omega), hp, Lib.signless, if_neg (by omega)]
theorem cut_any (l c : List UInt8) (hs : l.length ≤ 100000) (w : World) (he : Env w) :
    Calls Tryd.prog 37 #[.string ⟨l.toArray⟩, .string ⟨c.toArray⟩] w fun e w' => e = .returned (.tuple #[.string ⟨(Lib.cut l c).1.toArray⟩, .string ⟨(Lib.cut l c).2.1.toArray⟩, .bool (Lib.cut l c).2.2]) ∧ Grew w w' := by
  obtain ⟨m, hm⟩ := he.most
  refine (Tryd.strings_Cut ⟨l.toArray⟩ ⟨c.toArray⟩ m w (by show l.length < _; omega) hm).mono ?_
  rintro e w' ⟨rfl, n, rfl⟩
  exact ⟨rfl, (Grew.refl w).drwN n⟩
theorem clone_any (p : Option Addr) (n c : Nat) (xs : List It) (w : World) (h : Rw 2 itc w p c xs) (hn : xs.length = n) (hl : n ≤ 100000) (hp : ∀ a, p = some a → ∃ b o, a = ⟨b, o, none⟩) :
    Calls Tryd.prog 40 #[.slice p n c] w fun e w' => ∃ p' c', e = .returned (.slice p' n c') ∧ OwR w' w.heap.size 52 2 itc (.slice p' n c') xs ∧ Grew w w' := by
  subst hn
  cases p with
  | none =>
    have h0 : xs = [] := List.eq_nil_of_length_eq_zero (by have := h.cap; have := h.bare rfl; omega)
    subst h0
    refine (Tryd.slices_Clone_nil _ _ w).mono ?_
    rintro e w' ⟨rfl, rfl⟩
    exact ⟨none, 0, rfl, OwR.nil _ _ _ _ _, Grew.refl _⟩
  | some ad =>
    obtain ⟨i0, hi, hz0, hz1, hz2⟩ := info_parts infoC
    obtain ⟨b, o, rfl⟩ := hp ad rfl
    have hc : ∀ j u, (flatL itc xs)[j]? = some u → w.cell? ⟨b, o + j, none⟩ = some u := fun j u hj => by
      obtain ⟨x, hx, hu⟩ := flatL_at encI xs j u hj
      have := h.cell hx hu
      rwa [show o + j / 2 * 2 + j % 2 = o + j by omega] at this
    refine (Tryd.slices_Clone i0 (itv (0, 0)) 2 16 hi hz0 hz1 hz2 rfl (by decide) Tryd.sizeOf52 b o xs.length c (flatL itc xs) w (flatL_len encI xs) (by simp only [maxLen]; omega) (by omega) hc (flatL_mem encI)).mono ?_
    rintro e w' ⟨v', rfl, hO, _, hB⟩
    have hO' : OwR w' w.heap.size 52 2 itc v' xs := hO
    obtain ⟨p', c', rfl, _, _⟩ := hO'.parts encI
    exact ⟨p', c', rfl, hO', hB⟩

/-! ### Valid periods -/
def okE (n : Int) : Bool := decide (0 ≤ n ∧ n ≤ 1073741824)
theorem venergy_any (n : Int) (w : World) : Calls Tryd.prog 44 #[.int .i64 n] w fun e w' => e = .returned (.bool (okE n)) ∧ Grew w w' := by
  go_enter Tryd.func44, Tryd.ntmps44
  go_wp2
  all_goals go_ret
  all_goals exact ⟨ret_bool (by simp only [okE]; first | (symm; exact decide_eq_false (by omega)) | (rw [Bool.eq_iff_iff]; simp; omega)), Grew.refl _⟩
theorem vperiod_any (x : It) (w : World) : Calls Tryd.prog 34 #[itv x] w fun e w' => e = .returned (.bool (okP x)) ∧ Grew w w' := by
  go_enter Tryd.func34, Tryd.ntmps34
  cases hE : okE x.1
  all_goals
    have HE := Lib.hid (fun W => venergy_any x.1 W)
    rw [hE] at HE
    go_wp2_with (go_at_call 44; generalize hW : World.alloc _ _ = V; have b0 : Blk w.heap.size (itc x) 52 V := (by subst hW; exact Blk.new w _ _); have hg : Grew w V := (by subst hW; exact (Grew.refl _).alloc _); clear hW; (with_reducible refine (HE.out _).mono ?_); rintro e w1 ⟨rfl, g1⟩; have B := b0.grew g1; have c1 := B.cell 1; simp only [List.getElem?_cons_zero, List.getElem?_cons_succ] at c1; have HG := Lib.hid (hg.trans g1); clear b0 hg g1 B)
  all_goals go_ret
  all_goals refine ⟨ret_bool ?_, HG.out⟩
  all_goals simp only [okE, decide_eq_true_eq, decide_eq_false_iff_not] at hE
  all_goals simp only [okP]
  all_goals first | (symm; simp; omega) | (rw [Bool.eq_iff_iff]; simp; omega)
theorem right_any (x : It) (w : World) : Calls Tryd.prog 35 #[itv x] w fun e w' => e = .returned (.bool (okP x)) ∧ Grew w w' := by
  go_enter Tryd.func35, Tryd.ntmps35
  go_wp2
  all_goals go_ret
  all_goals refine ⟨ret_bool ?_, (Grew.refl _).alloc _⟩
  all_goals simp only [okP]
  all_goals first | (symm; simp; omega) | (rw [Bool.eq_iff_iff]; simp; omega)
end Go.Proofs.YtapgpdgbdmnkgaaDoor
