/-
  LAYER 11 (isa): what Parse calls: ParseInt, Cut, TrimPrefix, number, named; what is cut out of a notation.
-/
import Derived.Test.YtddffijipphfeaaDoorIsaLaws1
import Derived.Deep.CutBlock
namespace Go.Proofs.YtddffijipphfeaaDoor
open Go Go.RowKit Go.IntWalk
open Go.Lib (itoa)
set_option linter.unusedSimpArgs false
set_option linter.unusedVariables false
set_option maxRecDepth 8000
/-- The tables, the library's two errors, and a variable that holds some number. -/
structure EnvP (w : World) : Prop where
  env : Env w
  syn : ∃ tp p, w.var? Tryd.prog "strconv.ErrSyntax" = some #[.iface tp p]
  ran : ∃ tp p, w.var? Tryd.prog "strconv.ErrRange" = some #[.iface tp p]
  most : ∃ m : Int, w.cell? ⟨2, 0, none⟩ = some (.int .i64 m)
theorem EnvP.grew {w w' : World} (h : EnvP w) (hb : Grew w w') : EnvP w' := by
  obtain ⟨h1, ⟨a, b, h2⟩, ⟨c, d, h3⟩, ⟨m, h4⟩⟩ := h
  exact ⟨h1.grew hb, ⟨a, b, var?_keep hb h2⟩, ⟨c, d, var?_keep hb h3⟩, ⟨m, (Below.cell hb (p := ⟨2, 0, none⟩) (World.block_lt_of_cell? _ _ h4)).trans h4⟩⟩
theorem grew_ok {w w' : World} {T : TypeId} (h : w' = w ∨ ∃ t, w' = Lib.bytesWorld w T t) : Grew w w' := by
  rcases h with rfl | ⟨t, rfl⟩
  · exact Grew.refl _
  · exact Lib.bytesWorld_below _ _ _
theorem pint16 (s : ByteArray) (hl : s.size ≤ 100000) : ∃ (n : Int), (∀ v, Lib.parseIntB 16 s.data.toList = .ok v → n = v) ∧ ∀ w, EnvP w → Calls Tryd.prog 62 #[.string s, .int .i64 10, .int .i64 16] w fun e w' => ∃ x, e = .returned (.tuple #[.int .i64 n, x]) ∧ Grew w w' := by
  cases hc : Lib.parseIntB 16 s.data.toList
  · exact ⟨_, (fun v h => by simpa using h), fun w he => (Tryd.strconv_ParseInt_10_at16_ok s (by omega) _ hc w).mono fun e w' ⟨h1, h2⟩ => ⟨_, h1, grew_ok h2⟩⟩
  · exact ⟨_, (fun v h => by cases h), fun w he => by
      obtain ⟨tp, q, hv⟩ := he.syn
      exact Calls.mono (Any.strconv_ParseInt_10_at16_syntax_var Tryd.laysC174 s (by omega) hc tp q w hv) fun e w' ⟨N, h1, _, _, h4⟩ => ⟨_, h1, h4⟩⟩
  · exact ⟨_, (fun v h => by cases h), fun w he => by
      obtain ⟨tp, q, hv⟩ := he.ran
      exact Calls.mono (Tryd.strconv_ParseInt_10_at16_range_var s (by omega) hc tp q w hv) fun e w' ⟨N, h1, _, _, h4⟩ => ⟨_, h1, h4⟩⟩
theorem cut_any (s c : ByteArray) (hs : s.size ≤ 100000) (w : World) (he : EnvP w) :
    Calls Tryd.prog 49 #[.string s, .string c] w fun e w' => e = .returned (.tuple #[.string ⟨(Lib.cut s.data.toList c.data.toList).1.toArray⟩, .string ⟨(Lib.cut s.data.toList c.data.toList).2.1.toArray⟩, .bool (Lib.cut s.data.toList c.data.toList).2.2]) ∧ Grew w w' := by
  obtain ⟨m, hm⟩ := he.most
  refine (Tryd.strings_Cut s c m w (by omega) hm).mono ?_
  rintro e w' ⟨rfl, n, rfl⟩
  exact ⟨rfl, (Grew.refl w).drwN n⟩
theorem trim_any (s p : ByteArray) (w : World) : Calls Tryd.prog 52 #[.string s, .string p] w fun e w' => e = .returned (.string ⟨(Lib.trimPrefix s.data.toList p.data.toList).toArray⟩) ∧ Grew w w' :=
  (Tryd.strings_TrimPrefix s p w).mono fun e w' h => ⟨h.1, h.2 ▸ Grew.refl _⟩
/-- number: a word; the word whose numeral the text is, if it is one. -/
theorem number_any (s : ByteArray) (hl : s.size ≤ 100000) : ∃ v : Int, (-32768 ≤ v ∧ v ≤ 32767) ∧ (∀ z : Int, -32768 ≤ z ∧ z ≤ 32767 → s.data.toList = itoa z → v = z) ∧ ∀ w, EnvP w → Calls Tryd.prog 51 #[.string s] w fun e w' => e = .returned (.int .i16 v) ∧ Grew w w' := by
  obtain ⟨n, hn, hc⟩ := pint16 s hl
  refine ⟨IntKind.i16.wrap n, w16_bd n, fun z hz e => ?_, fun w he => ?_⟩
  · rw [hn z (by rw [e]; exact parse_itoa 16 (by decide) z (by have h2 : (2 : Nat) ^ (16 - 1) = 32768 := (by decide); omega) (by have h2 : (2 : Nat) ^ (16 - 1) = 32768 := (by decide); omega))]
    rw [wrap16]; omega
  · have HC := Lib.hid hc
    have HE := Lib.hid he
    clear hc he hn
    go_enter Tryd.func51, Tryd.ntmps51
    go_wp2_with (go_at_call 62; (with_reducible refine (HC.out _ HE.out).mono ?_); rintro e w1 ⟨xx, rfl, g1⟩; have HB := Lib.hid g1; clear g1)
    go_ret
    exact ⟨rfl, HB.out⟩
theorem cut_at (a b d : List UInt8) (c : UInt8) (h : c ∉ a) : Lib.cut (a ++ ((c :: d) ++ b)) (c :: d) = (a, b, true) := by
  have hi : Lib.index (a ++ ((c :: d) ++ b)) (c :: d) = a.length := Lib.index_first (by simp) (by unfold Lib.occAt; rw [List.drop_left]; simp) (fun j hj => by
    unfold Lib.occAt
    rw [List.drop_eq_getElem_cons (by simp; omega)]
    simp only [List.isPrefixOf, List.cons_append]
    have e1 : (a ++ (c :: (d ++ b)))[j]'(by simp; omega) = a[j] := List.getElem_append_left hj
    rw [e1, show (c == a[j]) = false from beq_eq_false_iff_ne.2 fun e => h (e ▸ List.getElem_mem hj)]
    rfl)
  unfold Lib.cut
  rw [hi, if_pos (by omega)]
  simp [← List.append_assoc]
theorem cut_off (l d : List UInt8) (c : UInt8) (h : c ∉ l) : Lib.cut l (c :: d) = (l, [], false) := by
  have hi : Lib.index l (c :: d) = -1 := Lib.index_none (fun j hj => by
    unfold Lib.occAt
    rcases Nat.lt_or_ge j l.length with hl | hl
    · rw [List.drop_eq_getElem_cons hl]
      simp only [List.isPrefixOf]
      rw [show (c == l[j]) = false from beq_eq_false_iff_ne.2 fun e => h (e ▸ List.getElem_mem hl)]
      rfl
    · rw [List.drop_eq_nil_of_le hl]; rfl)
  unfold Lib.cut
  rw [hi, if_neg (by omega)]
/-- The first operand of some. -/
theorem cut_jn (x : List UInt8) (r : List (List UInt8)) (h : (44 : UInt8) ∉ x) : (Lib.cut (jn (x :: r)) [44, 32]).1 = x ∧ (Lib.cut (jn (x :: r)) [44, 32]).2.1 = jn r := by
  cases r with
  | nil => rw [show jn [x] = x from rfl, cut_off x [32] 44 h]; exact ⟨rfl, rfl⟩
  | cons y r => rw [show jn (x :: y :: r) = x ++ (([44, 32] : List UInt8) ++ jn (y :: r)) from rfl, cut_at x (jn (y :: r)) [32] 44 h]; exact ⟨rfl, rfl⟩
theorem trim_r (x : List UInt8) : Lib.trimPrefix (114 :: x) [114] = x := by
  unfold Lib.trimPrefix Lib.hasPrefix
  simp
end Go.Proofs.YtddffijipphfeaaDoor
