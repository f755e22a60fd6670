/-
  CONTRACTS OF LAYER 10 (sensor): ParseInt, Cut, parseChange.
-/
import Derived.Test.YtaehlpdnjfblbaaDoorSeText
namespace Go.Proofs.YtaehlpdnjfblbaaDoor
open Go Go.RowKit Go.IntWalk
open Go.Lib (itoa)
set_option linter.unusedSimpArgs false
set_option linter.unusedVariables false
set_option maxRecDepth 8000

/-- strconv.ParseInt where the text is no number of the size: an error that is not nil. -/
def Failed (x : Int) (w : World) (e : Ending) (w' : World) : Prop := ∃ N : Nat, e = .returned (.tuple #[.int .i64 x, .iface 89 (.pointer (some ⟨N, 0, none⟩))]) ∧ Grew w w'
theorem grew_ok {w w' : World} {T : TypeId} (h : w' = w ∨ ∃ t, w' = Lib.bytesWorld w T t) : Grew w w' := by
  rcases h with rfl | ⟨t, rfl⟩
  · exact Grew.refl _
  · exact Lib.bytesWorld_below _ _ _
theorem pint64_no (l : List UInt8) (hl : l.length ≤ 100000) (h : ∀ v, Lib.parseIntB 64 l ≠ .ok v) : ∃ x, ∀ w, Env w → Calls Tryd.prog 38 #[.string ⟨l.toArray⟩, .int .i64 10, .int .i64 64] w (Failed x w) := by
  have hsz : (⟨l.toArray⟩ : ByteArray).size ≤ 281474976710656 := by show l.length ≤ _; omega
  cases hc : Lib.parseIntB 64 l
  · exact absurd hc (h _)
  · exact ⟨_, fun w he => by
      obtain ⟨tp, q, hv⟩ := he.syn
      exact Calls.mono (Any.strconv_ParseInt_10_at64_syntax_var Tryd.laysC174 ⟨l.toArray⟩ hsz hc tp q w hv) fun e w' ⟨N, h1, _, _, h4⟩ => ⟨N, h1, h4⟩⟩
  · exact ⟨_, fun w he => by
      obtain ⟨tp, q, hv⟩ := he.ran
      exact Calls.mono (Tryd.strconv_ParseInt_10_at64_range_var ⟨l.toArray⟩ hsz hc tp q w hv) fun e w' ⟨N, h1, _, _, h4⟩ => ⟨N, h1, h4⟩⟩
theorem pint64_ok (l : List UInt8) (hl : l.length ≤ 100000) (v : Int) (h : Lib.parseIntB 64 l = .ok v) (w : World) :
    Calls Tryd.prog 38 #[.string ⟨l.toArray⟩, .int .i64 10, .int .i64 64] w fun e w' => e = .returned (.tuple #[.int .i64 v, .nilIface]) ∧ Grew w w' := by
  refine (Tryd.strconv_ParseInt_10_at64_ok ⟨l.toArray⟩ (by show l.length ≤ _; omega) v h w).mono ?_
  rintro e w' ⟨rfl, hw⟩
  exact ⟨rfl, grew_ok hw⟩
theorem pint16_no (l : List UInt8) (hl : l.length ≤ 100000) (h : ∀ v, Lib.parseIntB 16 l ≠ .ok v) : ∃ x, ∀ w, Env w → Calls Tryd.prog 38 #[.string ⟨l.toArray⟩, .int .i64 10, .int .i64 16] w (Failed x w) := by
  have hsz : (⟨l.toArray⟩ : ByteArray).size ≤ 281474976710656 := by show l.length ≤ _; omega
  cases hc : Lib.parseIntB 16 l
  · exact absurd hc (h _)
  · exact ⟨_, fun w he => by
      obtain ⟨tp, q, hv⟩ := he.syn
      exact Calls.mono (Any.strconv_ParseInt_10_at16_syntax_var Tryd.laysC174 ⟨l.toArray⟩ hsz hc tp q w hv) fun e w' ⟨N, h1, _, _, h4⟩ => ⟨N, h1, h4⟩⟩
  · exact ⟨_, fun w he => by
      obtain ⟨tp, q, hv⟩ := he.ran
      exact Calls.mono (Tryd.strconv_ParseInt_10_at16_range_var ⟨l.toArray⟩ hsz hc tp q w hv) fun e w' ⟨N, h1, _, _, h4⟩ => ⟨N, h1, h4⟩⟩
theorem pint16_ok (l : List UInt8) (hl : l.length ≤ 100000) (v : Int) (h : Lib.parseIntB 16 l = .ok v) (w : World) :
    Calls Tryd.prog 38 #[.string ⟨l.toArray⟩, .int .i64 10, .int .i64 16] w fun e w' => e = .returned (.tuple #[.int .i64 v, .nilIface]) ∧ Grew w w' := by
  refine (Tryd.strconv_ParseInt_10_at16_ok ⟨l.toArray⟩ (by show l.length ≤ _; omega) v h w).mono ?_
  rintro e w' ⟨rfl, hw⟩
  exact ⟨rfl, grew_ok hw⟩
theorem cut_any (l c : List UInt8) (hs : l.length ≤ 100000) (w : World) (he : Env w) :
    Calls Tryd.prog 29 #[.string ⟨l.toArray⟩, .string ⟨c.toArray⟩] w fun e w' => e = .returned (.tuple #[.string ⟨(Lib.cut l c).1.toArray⟩, .string ⟨(Lib.cut l c).2.1.toArray⟩, .bool (Lib.cut l c).2.2]) ∧ Grew w w' := by
  obtain ⟨m, hm⟩ := he.most
  refine (Tryd.strings_Cut ⟨l.toArray⟩ ⟨c.toArray⟩ m w (by show l.length < _; omega) hm).mono ?_
  rintro e w' ⟨rfl, n, rfl⟩
  exact ⟨rfl, (Grew.refl w).drwN n⟩
/-- A change's line, cut at its space, is two numbers. -/
theorem line_parses {l c1 c2 : List UInt8} {b : Bool} {x : It} (hx : (0 ≤ x.1 ∧ x.1 ≤ 1099511627776) ∧ -32768 ≤ x.2 ∧ x.2 ≤ 32767) (e : l = lineT x) (hc : Lib.cut l [32] = (c1, c2, b)) : Lib.parseIntB 64 c1 = .ok x.1 ∧ Lib.parseIntB 16 c2 = .ok x.2 := by
  subst e
  rcases cut_one (lineT x) 32 with ⟨hn, _⟩ | ⟨p, q, hpq, hp, hq⟩
  · exact absurd (by unfold lineT; simp) hn
  · rw [hq] at hc
    obtain ⟨rfl, rfl, _⟩ : p = c1 ∧ q = c2 ∧ true = b := by simpa using hc
    obtain ⟨e1, e2⟩ := split_one hpq (itoa_no (by decide)) hp
    rw [← e1, ← e2]
    exact ⟨parse_itoa 64 (by decide) x.1 (by show -9223372036854775808 ≤ x.1; omega) (by show x.1 < 9223372036854775808; omega), parse_itoa 16 (by decide) x.2 (by show -32768 ≤ x.2; omega) (by show x.2 < 32768; omega)⟩
/-- What a line gives: a change whose line it is, or none. -/
def Line (l : List UInt8) (w : World) (e : Ending) (w' : World) : Prop := ∃ (c : It) (ok : Bool), e = .returned (.tuple #[itv c, .bool ok]) ∧ (ok = true → l = lineT c ∧ (-9223372036854775808 ≤ c.1 ∧ c.1 ≤ 9223372036854775807) ∧ -32768 ≤ c.2 ∧ c.2 ≤ 32767) ∧ (ok = false → ∀ x : It, (0 ≤ x.1 ∧ x.1 ≤ 1099511627776) ∧ -32768 ≤ x.2 ∧ x.2 ≤ 32767 → l ≠ lineT x) ∧ Grew w w'
theorem Own.away {w : World} {N S : Nat} {e : TypeId} {p : Option Addr} {n c : Nat} {xs : List UInt8} (h : Own w N e (.slice p n c) xs) (hS : S < N) : Away (fun k => k = S) p := fun a ha hs => by
  obtain ⟨p', c', hv, _, hb⟩ := h.shape
  simp only [Value.slice.injEq] at hv
  have := (hb a (by rw [← hv.1]; exact ha)).1
  have hs' : a.block = S := hs
  omega
theorem turn_store {dst : Option Tmp} {ty : TypeId} {pos : String} {after : Array Edge} {g : Option (Nat × Bool)} {a : Act} {w : World} {x y : Operand} {S : Nat} {old : It} {new : It} (hx : a.eval x = .pointer (some ⟨S, 0, none⟩)) (hy : a.eval y = itv new) (h : Blk S (itc old) 34 w ∨ Blk S (itc new) 34 w) {T : Value → World → Prop} (hT : ∀ w', Turns S (itc old) (itc new) 34 w w' → Blk S (itc new) 34 w' → T undef w') :
    Runs Tryd.prog ⟨dst, .store 34 x y, ty, pos, after, g⟩ a w T := by
  have key : ∀ q : It, Blk S (itc q) 34 w → Runs Tryd.prog ⟨dst, .store 34 x y, ty, pos, after, g⟩ a w T := fun q hq => by
    have hn : Blk S (itc new) 34 ((w.setCell ⟨S, 0, none⟩ (.int .i64 new.1)).setCell ⟨S, 0 + 1, none⟩ (.int .i16 new.2)) := by
      have := (hq.set 0 (.int .i64 new.1)).set 1 (.int .i16 new.2)
      simpa using this
    exact rn_st_34 (S := S) (o := 0) hx hy (hq.cell 0) (hq.cell 1) hq.free (hT _ ⟨(Chg.set w ⟨S, 0, none⟩ _).trans (Chg.set _ ⟨S, 0 + 1, none⟩ _), fun _ => .inr hn, fun _ => hn⟩ hn)
  rcases h with h | h
  · exact key old h
  · exact key new h
set_option maxHeartbeats 1000000 in
theorem pchg_nn (l c1 c2 : List UInt8) (b : Bool) (hl : l.length ≤ 100000) (hc : Lib.cut l [32] = (c1, c2, b)) (l1 : c1.length ≤ 100000) (l2 : c2.length ≤ 100000) (h1 : ∀ v, Lib.parseIntB 64 c1 ≠ .ok v) (h2 : ∀ v, Lib.parseIntB 16 c2 ≠ .ok v) (w : World) (he : Env w) :
    Calls Tryd.prog 30 #[.string ⟨l.toArray⟩] w (Line l w) := by
  have HC := Lib.hid (fun (W : World) (hE : Env W) => cut_any l [32] hl W hE)
  rw [hc] at HC
  obtain ⟨z1, P1⟩ := pint64_no c1 l1 h1
  replace P1 := Lib.hid P1
  obtain ⟨z2, P2⟩ := pint16_no c2 l2 h2
  replace P2 := Lib.hid P2
  have HN : Hid (∀ x : It, (0 ≤ x.1 ∧ x.1 ≤ 1099511627776) ∧ -32768 ≤ x.2 ∧ x.2 ≤ 32767 → l ≠ lineT x) := Lib.hid (fun x hx e => by
    obtain ⟨q1, q2⟩ := line_parses hx e hc
    exact h1 _ q1)
  have HE := Lib.hid he
  have tk1 := Lib.hid trivial
  clear he hc h1 h2
  go_enter Tryd.func30, Tryd.ntmps30
  go_wp2_with (first
    | (go_at_call 29; generalize hW : World.alloc _ _ = V; have hB : Blk w.heap.size (itc (0, 0)) 34 V := (by subst hW; exact Blk.new w _ _); have hg : Grew w V := (by subst hW; exact (Grew.refl _).alloc _); clear hW; (with_reducible refine (HC.out _ (HE.out.grew hg)).mono ?_); rintro e w1 ⟨rfl, g1⟩; have HB1 := Lib.hid (hB.grew g1); have HG1 := Lib.hid (hg.trans g1); clear hg g1 hB)
    | (go_at_call 38; clear tk1; (with_reducible refine (P1.out _ (HE.out.grew HG1.out)).mono ?_); rintro e w2 ⟨N2, rfl, g2⟩; have HB2 := Lib.hid (HB1.out.grew g2); have HG2 := Lib.hid (HG1.out.trans g2); clear g2)
    | (go_at_call 38; (with_reducible refine (P2.out _ (HE.out.grew HG2.out)).mono ?_); rintro e w3 ⟨N3, rfl, g3⟩; have HB3 := Lib.hid (HB2.out.grew g3); have b0 := HB3.out.cell 0; have b1 := HB3.out.cell 1; have bf := HB3.out.free; have bl := HB3.out.lt; simp only [List.getElem?_cons_zero, List.getElem?_cons_succ] at b0 b1; have HG3 := Lib.hid (HG2.out.trans g3); clear g3))
  refine rn_ret_c34_t Tryd.results30 (S0 := w.heap.size) (v0_0 := .int .i64 0) (v0_1 := .int .i16 0) (v1 := .bool false) rfl (by go_simp) (by go_simp) rfl ⟨(0, 0), false, rfl, (fun h => by cases h), fun _ => HN.out, ?_⟩
  exact (HG3.out.sc (Nat.le_refl _) _ _).sc (Nat.le_refl _) _ _
set_option maxHeartbeats 1000000 in
theorem pchg_yn (l c1 c2 : List UInt8) (b : Bool) (hl : l.length ≤ 100000) (hc : Lib.cut l [32] = (c1, c2, b)) (l1 : c1.length ≤ 100000) (l2 : c2.length ≤ 100000) (t : Int) (h1 : Lib.parseIntB 64 c1 = .ok t) (h2 : ∀ v, Lib.parseIntB 16 c2 ≠ .ok v) (w : World) (he : Env w) :
    Calls Tryd.prog 30 #[.string ⟨l.toArray⟩] w (Line l w) := by
  have HC := Lib.hid (fun (W : World) (hE : Env W) => cut_any l [32] hl W hE)
  rw [hc] at HC
  have P1 := Lib.hid (fun w => pint64_ok c1 l1 t h1 w)
  obtain ⟨z2, P2⟩ := pint16_no c2 l2 h2
  replace P2 := Lib.hid P2
  have HN : Hid (∀ x : It, (0 ≤ x.1 ∧ x.1 ≤ 1099511627776) ∧ -32768 ≤ x.2 ∧ x.2 ≤ 32767 → l ≠ lineT x) := Lib.hid (fun x hx e => by
    obtain ⟨q1, q2⟩ := line_parses hx e hc
    exact h2 _ q2)
  have HE := Lib.hid he
  have tk1 := Lib.hid trivial
  clear he hc h1 h2
  go_enter Tryd.func30, Tryd.ntmps30
  go_wp2_with (first
    | (go_at_call 29; generalize hW : World.alloc _ _ = V; have hB : Blk w.heap.size (itc (0, 0)) 34 V := (by subst hW; exact Blk.new w _ _); have hg : Grew w V := (by subst hW; exact (Grew.refl _).alloc _); clear hW; (with_reducible refine (HC.out _ (HE.out.grew hg)).mono ?_); rintro e w1 ⟨rfl, g1⟩; have HB1 := Lib.hid (hB.grew g1); have HG1 := Lib.hid (hg.trans g1); clear hg g1 hB)
    | (go_at_call 38; clear tk1; (with_reducible refine (P1.out _).mono ?_); rintro e w2 ⟨rfl, g2⟩; have HB2 := Lib.hid (HB1.out.grew g2); have HG2 := Lib.hid (HG1.out.trans g2); clear g2)
    | (go_at_call 38; (with_reducible refine (P2.out _ (HE.out.grew HG2.out)).mono ?_); rintro e w3 ⟨N3, rfl, g3⟩; have HB3 := Lib.hid (HB2.out.grew g3); have b0 := HB3.out.cell 0; have b1 := HB3.out.cell 1; have bf := HB3.out.free; have bl := HB3.out.lt; simp only [List.getElem?_cons_zero, List.getElem?_cons_succ] at b0 b1; have HG3 := Lib.hid (HG2.out.trans g3); clear g3))
  refine rn_ret_c34_t Tryd.results30 (S0 := w.heap.size) (v0_0 := .int .i64 0) (v0_1 := .int .i16 0) (v1 := .bool false) rfl (by go_simp) (by go_simp) rfl ⟨(0, 0), false, rfl, (fun h => by cases h), fun _ => HN.out, ?_⟩
  exact (HG3.out.sc (Nat.le_refl _) _ _).sc (Nat.le_refl _) _ _
set_option maxHeartbeats 1000000 in
theorem pchg_ny (l c1 c2 : List UInt8) (b : Bool) (hl : l.length ≤ 100000) (hc : Lib.cut l [32] = (c1, c2, b)) (l1 : c1.length ≤ 100000) (l2 : c2.length ≤ 100000) (h1 : ∀ v, Lib.parseIntB 64 c1 ≠ .ok v) (z : Int) (h2 : Lib.parseIntB 16 c2 = .ok z) (w : World) (he : Env w) :
    Calls Tryd.prog 30 #[.string ⟨l.toArray⟩] w (Line l w) := by
  have HC := Lib.hid (fun (W : World) (hE : Env W) => cut_any l [32] hl W hE)
  rw [hc] at HC
  obtain ⟨z1, P1⟩ := pint64_no c1 l1 h1
  replace P1 := Lib.hid P1
  have P2 := Lib.hid (fun w => pint16_ok c2 l2 z h2 w)
  have HN : Hid (∀ x : It, (0 ≤ x.1 ∧ x.1 ≤ 1099511627776) ∧ -32768 ≤ x.2 ∧ x.2 ≤ 32767 → l ≠ lineT x) := Lib.hid (fun x hx e => by
    obtain ⟨q1, q2⟩ := line_parses hx e hc
    exact h1 _ q1)
  have HE := Lib.hid he
  have tk1 := Lib.hid trivial
  clear he hc h1 h2
  go_enter Tryd.func30, Tryd.ntmps30
  go_wp2_with (first
    | (go_at_call 29; generalize hW : World.alloc _ _ = V; have hB : Blk w.heap.size (itc (0, 0)) 34 V := (by subst hW; exact Blk.new w _ _); have hg : Grew w V := (by subst hW; exact (Grew.refl _).alloc _); clear hW; (with_reducible refine (HC.out _ (HE.out.grew hg)).mono ?_); rintro e w1 ⟨rfl, g1⟩; have HB1 := Lib.hid (hB.grew g1); have HG1 := Lib.hid (hg.trans g1); clear hg g1 hB)
    | (go_at_call 38; clear tk1; (with_reducible refine (P1.out _ (HE.out.grew HG1.out)).mono ?_); rintro e w2 ⟨N2, rfl, g2⟩; have HB2 := Lib.hid (HB1.out.grew g2); have HG2 := Lib.hid (HG1.out.trans g2); clear g2)
    | (go_at_call 38; (with_reducible refine (P2.out _).mono ?_); rintro e w3 ⟨rfl, g3⟩; have HB3 := Lib.hid (HB2.out.grew g3); have b0 := HB3.out.cell 0; have b1 := HB3.out.cell 1; have bf := HB3.out.free; have bl := HB3.out.lt; simp only [List.getElem?_cons_zero, List.getElem?_cons_succ] at b0 b1; have HG3 := Lib.hid (HG2.out.trans g3); clear g3))
  refine rn_ret_c34_t Tryd.results30 (S0 := w.heap.size) (v0_0 := .int .i64 0) (v0_1 := .int .i16 0) (v1 := .bool false) rfl (by go_simp) (by go_simp) rfl ⟨(0, 0), false, rfl, (fun h => by cases h), fun _ => HN.out, ?_⟩
  exact (HG3.out.sc (Nat.le_refl _) _ _).sc (Nat.le_refl _) _ _
set_option maxHeartbeats 1000000 in
theorem pchg_yy (l c1 c2 : List UInt8) (b : Bool) (hl : l.length ≤ 100000) (hc : Lib.cut l [32] = (c1, c2, b)) (l1 : c1.length ≤ 100000) (l2 : c2.length ≤ 100000) (t : Int) (h1 : Lib.parseIntB 64 c1 = .ok t) (z : Int) (h2 : Lib.parseIntB 16 c2 = .ok z) (w : World) (he : Env w) :
    Calls Tryd.prog 30 #[.string ⟨l.toArray⟩] w (Line l w) := by
  have HC := Lib.hid (fun (W : World) (hE : Env W) => cut_any l [32] hl W hE)
  rw [hc] at HC
  have P1 := Lib.hid (fun w => pint64_ok c1 l1 t h1 w)
  have P2 := Lib.hid (fun w => pint16_ok c2 l2 z h2 w)
  have ht := parsed_bd h1
  have hV := parsed_bd h2
  simp only [Nat.reducePow, Nat.reduceSub] at ht hV
  replace ht : -9223372036854775808 ≤ t ∧ t ≤ 9223372036854775807 := by omega
  replace hV : -32768 ≤ z ∧ z ≤ 32767 := by omega
  have hw : IntKind.i16.wrap z = z := i16_in _ (by omega)
  have HL := Lib.hid (fun (x : It) (hx : (0 ≤ x.1 ∧ x.1 ≤ 1099511627776) ∧ -32768 ≤ x.2 ∧ x.2 ≤ 32767) (e : l = lineT x) => show x = (t, z) by
    obtain ⟨q1, q2⟩ := line_parses hx e hc
    rw [h1] at q1; rw [h2] at q2
    injection q1 with q1
    injection q2 with q2
    exact Prod.ext q1.symm q2.symm)
  have HE := Lib.hid he
  have tk1 := Lib.hid trivial
  clear he hc h1 h2
  go_enter Tryd.func30, Tryd.ntmps30
  go_wp2_with (first
    | (go_at_call 29; generalize hW : World.alloc _ _ = V; have hB : Blk w.heap.size (itc (0, 0)) 34 V := (by subst hW; exact Blk.new w _ _); have hg : Grew w V := (by subst hW; exact (Grew.refl _).alloc _); clear hW; (with_reducible refine (HC.out _ (HE.out.grew hg)).mono ?_); rintro e w1 ⟨rfl, g1⟩; have HB1 := Lib.hid (hB.grew g1); have HG1 := Lib.hid (hg.trans g1); clear hg g1 hB)
    | (go_at_call 38; clear tk1; (with_reducible refine (P1.out _).mono ?_); rintro e w2 ⟨rfl, g2⟩; have HB2 := Lib.hid (HB1.out.grew g2); have HG2 := Lib.hid (HG1.out.trans g2); clear g2)
    | (go_at_call 38; (with_reducible refine (P2.out _).mono ?_); rintro e w3 ⟨rfl, g3⟩; have HB3 := Lib.hid (HB2.out.grew g3); have b0 := HB3.out.cell 0; have b1 := HB3.out.cell 1; have bf := HB3.out.free; have bl := HB3.out.lt; simp only [List.getElem?_cons_zero, List.getElem?_cons_succ] at b0 b1; have HG3 := Lib.hid (HG2.out.trans g3); clear g3))
  obtain ⟨S2, hS2⟩ : ∃ S, S = w.heap.size := ⟨_, rfl⟩
  obtain ⟨S11, hS⟩ : ∃ S, S = w3.heap.size := ⟨_, rfl⟩
  generalize hW : World.alloc _ _ = W
  have hA : Blk S11 (itc (t, z)) 34 W := by
    subst hW hS
    exact Blk.new w3 (itc (t, z)) _
  have hg : Grew w3 W := by
    subst hW
    exact (Grew.refl w3).alloc _
  rw [← hS, ← hS2]
  have hne : S11 ≠ S2 := by
    have := HB3.out.lt
    omega
  have hA2 : Hid (Blk S2 (itc (0, 0)) 34 W.drew) := Lib.hid (by rw [hS2]; exact (HB3.out.grew hg).grew (Grew.refl _).drw)
  have HG := Lib.hid (HG3.out.trans hg).drw
  have hE : Hid (∀ {w9 : World}, Turns S2 (itc (0, 0)) (itc (t, z)) 34 W.drew w9 → Grew w w9) := Lib.hid fun h => grew_lift HG.out h.chg (fun k hk => by have hk' : k = S2 := hk; omega)
  have hL : Hid (∀ {w9 : World}, Turns S2 (itc (0, 0)) (itc (t, z)) 34 W.drew w9 → S2 < w9.heap.size) := Lib.hid fun h => Nat.lt_of_lt_of_le hA2.out.lt h.chg.size
  have c0 : Sta (Turns S2 (itc (0, 0)) (itc (t, z)) 34) W.drew ⟨S11, 0, none⟩ (.int .i64 t) := fun w9 h => (h.blk (hA.grew (Grew.refl _).drw) hne).cell 0
  have c1 : Sta (Turns S2 (itc (0, 0)) (itc (t, z)) 34) W.drew ⟨S11, 1, none⟩ (.int .i16 z) := fun w9 h => (h.blk (hA.grew (Grew.refl _).drw) hne).cell 1
  clear hW hS hg b0 b1 bf bl
  refine wp_postsR (Turns S2 (itc (0, 0)) (itc (t, z)) 34) Turns.refl Turns.trans [some 39, some 40, some 41, some 42, some 43, some 44, none, some 3] [false, false, false, true, false, false, false, false, false, false, false, false, false, false, false, false, false, false, false, false, false, false, false, false, false, false, false, false, false, false, false, false, false, false, false, false, false, false, false, true, true, true, true, true, true] [fun v _ => v = .agg #[.int .i64 (t), .int .i16 (z)], fun v _ => v = .agg #[.int .i64 (t), .int .i16 (z)], fun v w => ∃ r j, v = .slice r (lineT (t, z)).length j ∧ Bin w r j (lineT (t, z)) ∧ Away (fun k => k = S2) r, fun v _ => v = .string ⟨(lineT (t, z)).toArray⟩, fun v _ => v = .string ⟨(l).toArray⟩, fun v _ => v = .bool ((lineT (t, z)) == (l)), fun v w => v = undef ∧ Blk S2 (itc (t, z)) 34 w, fun v _ => v = .bool ((lineT (t, z)) == (l))] (by kernel_rfl) (by kernel_rfl) rfl ?_ ⟨?_, ?_, ?_, ?_, ?_, ?_, ?_, ?_, trivial⟩ ?_
  · exact ⟨fun _ _ _ _ h => h, fun _ _ _ _ h => h, fun _ _ _ h ⟨r, j, h1, h2, h3⟩ => ⟨r, j, h1, h2.chg h.chg h3, h3⟩, fun _ _ _ _ h => h, fun _ _ _ _ h => h, fun _ _ _ _ h => h, fun _ _ _ h ⟨a, b⟩ => ⟨a, h.stay b⟩, fun _ _ _ _ h => h, trivial⟩
  · intro u w hR hd; exact rn_ld_34 (ev rfl) (c0.kept hR) (c1.kept hR) ⟨Turns.refl _, rfl⟩
  · intro u w hR hd; exact rn_ld_34 (ev rfl) (c0.kept hR) (c1.kept hR) ⟨Turns.refl _, rfl⟩
  · intro u w hR hd; exact runs_c2 enters_apc rfl (ev (hd.1 rfl)) ((appchg_new (t, z) _ ht hV (HE.out.grew (hE.out hR))).mono fun e w9 ⟨r, j, h1, h2, h3⟩ => ⟨_, h1, Turns.of_grew h3, r, j, rfl, h2.bin.2, h2.away (hL.out hR)⟩)
  · intro u w hR hd; exact (by obtain ⟨r, j, hv, hb, _⟩ := (hd.1 rfl); exact runs_cvs Tryd.underlying62 Tryd.underlying5 Tryd.underlying9 (ev hv) hb rfl ⟨Turns.refl _, rfl⟩)
  · intro u w hR hd; exact runs_mv (ev rfl) ⟨Turns.refl _, rfl⟩
  · intro u w hR hd; exact rn_eql_9 (ev (hd.1 rfl)) (ev (hd.2.1 rfl)) ⟨Turns.refl _, rfl⟩
  · intro u w hR hd; exact (by refine turn_store (old := (0, 0)) (new := (t, z)) ?_ ?_ (hR.some (.inl hA2.out)) (fun w9 h1 h2 => ⟨h1, rfl, h2⟩); exact ev rfl; exact ev (hd.1 rfl))
  · intro u w hR hd; exact runs_mva (ev (hd.1 rfl)) ⟨Turns.refl _, rfl⟩
  · intro u w4 hR h
    have h44 : u 3 = .bool (lineT (t, z) == l) := h 7 (by decide)
    obtain ⟨-, hB4⟩ := h 6 (by decide)
    have hG4 := hE.out hR
    simp only [mixA, mixL, cond_true, cond_false]
    rw [h44]
    clear h h44 hR c0 c1
    go_wp2
    refine rn_ret_c34_t Tryd.results30 (S0 := S2) (v0_0 := .int .i64 t) (v0_1 := .int .i16 z) (v1 := .bool (lineT (t, z) == l)) rfl (hB4.cell 0) (hB4.cell 1) rfl ⟨(t, z), lineT (t, z) == l, rfl, (fun h => ⟨(eq_of_beq h).symm, ht, hV⟩), (fun h x hx e => ?_), hG4⟩
    rw [← HL.out x hx e, ← e] at h
    simp at h
theorem pchg_any (l : List UInt8) (hl : l.length ≤ 100000) (w : World) (he : Env w) : Calls Tryd.prog 30 #[.string ⟨l.toArray⟩] w (Line l w) := by
  obtain ⟨c1, c2, b, hc, l1, l2⟩ : ∃ c1 c2 b, Lib.cut l [32] = (c1, c2, b) ∧ c1.length ≤ 100000 ∧ c2.length ≤ 100000 := by
    rcases cut_one l 32 with ⟨_, h⟩ | ⟨p, q, e, _, h⟩
    · exact ⟨l, [], false, h, hl, by simp⟩
    · refine ⟨p, q, true, h, ?_, ?_⟩ <;> (rw [e] at hl; simp at hl; omega)
  have hd : ∀ B l, (∃ v, Lib.parseIntB B l = .ok v) ∨ ∀ v, Lib.parseIntB B l ≠ .ok v := fun B l => by
    by_cases h : ∃ v, Lib.parseIntB B l = .ok v
    · exact .inl h
    · exact .inr fun v hv => h ⟨v, hv⟩
  rcases hd 64 c1 with ⟨x, h1⟩ | h1 <;> rcases hd 16 c2 with ⟨y, h2⟩ | h2
  · exact pchg_yy l c1 c2 b hl hc l1 l2 x h1 y h2 w he
  · exact pchg_yn l c1 c2 b hl hc l1 l2 x h1 h2 w he
  · exact pchg_ny l c1 c2 b hl hc l1 l2 h1 y h2 w he
  · exact pchg_nn l c1 c2 b hl hc l1 l2 h1 h2 w he
end Go.Proofs.YtaehlpdnjfblbaaDoor
