/-
  THE STATEMENT Merge OF LAYER 10 (sensor), WALKED.
-/
import Derived.Test.YtaehlpdnjfblbaaDoorSeMergeOps
namespace Go.Proofs.YtaehlpdnjfblbaaDoor
open Go Go.RowKit Go.IntWalk
set_option linter.unusedSimpArgs false
set_option linter.unusedVariables false
set_option maxRecDepth 8000

theorem none_or_ok (xs : List It) : (60 < xs.length ∨ asc (-1) xs = false) ∨ (xs.length ≤ 60 ∧ asc (-1) xs = true) := by
  rcases Nat.lt_or_ge 60 xs.length with h | h
  · exact .inl (.inl h)
  · cases ha : asc (-1) xs with
    | false => exact .inl (.inr rfl)
    | true => exact .inr ⟨h, rfl⟩
section
variable {dst : Option Tmp} {ty : TypeId} {pos : String} {after : Array Edge} {g : Option (Nat × Bool)} {a : Act} {w : World} {T : Value → World → Prop}
theorem rn_len_51 {x : Operand} {p : Option Addr} {n c : Nat} (hx : a.eval x = .slice p n c) (h : T (.int .i64 (n : Nat)) w) : Runs Tryd.prog ⟨dst, .call { callee := .builtin .len, args := #[x], argTypes := #[51] }, ty, pos, after, g⟩ a w T := by
  refine Runs.value (v := .int .i64 (n : Nat)) (w' := w) ?_ h
  simp [execOp, resolve, invoke, builtin, hx, Result.andThen]
  go_simp
theorem rn_eql_3 {o1 o2 : Operand} {b c : Int} (hx : a.eval o1 = .int .i64 b) (hy : a.eval o2 = .int .i64 c) (h : T (.bool (b == c)) w) : Runs Tryd.prog ⟨dst, .binOp .eql 3 o1 o2 3, ty, pos, after, g⟩ a w T := by
  refine Runs.value (v := .bool (b == c)) (w' := w) ?_ h
  simp only [execOp, hx, hy]
  go_simp
theorem rn_idx_51 {x y : Operand} {b o n c : Nat} (i : Nat) (hx : a.eval x = .slice (some ⟨b, o, none⟩) n c) (hy : a.eval y = .int .i64 (i : Int)) (hi : i < n) (h : T (.pointer (some ⟨b, o + i, none⟩)) w) : Runs Tryd.prog ⟨dst, .indexAddr 51 x y, ty, pos, after, g⟩ a w T := by
  have hi2 : (i : Int) < (n : Int) := by omega
  refine Runs.value (v := .pointer (some ⟨b, o + i, none⟩)) (w' := w) ?_ h
  simp only [execOp, hx, hy]
  go_simp
theorem rn_eql_32 {o1 o2 : Operand} {b c : Int} (hx : a.eval o1 = .int .i16 b) (hy : a.eval o2 = .int .i16 c) (h : T (.bool (b == c)) w) : Runs Tryd.prog ⟨dst, .binOp .eql 32 o1 o2 32, ty, pos, after, g⟩ a w T := by
  refine Runs.value (v := .bool (b == c)) (w' := w) ?_ h
  simp only [execOp, hx, hy]
  go_simp
end
set_option maxHeartbeats 8000000 in
theorem merge_law (pa : Option Addr) (na ca : Nat) (xs : List It) (pb : Option Addr) (nb cb : Nat) (ys : List It) (time : Int) (w : World) (hna : xs.length = na) (hnb : ys.length = nb) (hx : Rw 2 itc w pa ca xs) (hy : Rw 2 itc w pb cb ys) (he : Env w) :
    Calls Tryd.prog 8 #[.slice pa na ca, .slice pb nb cb, .int .i64 time] w fun e w' => e = .returned (.bool true) ∧ Grew w w' := by
  subst hna
  subst hnb
  have HX := Lib.hid hx
  have HY := Lib.hid hy
  have HE := Lib.hid he
  clear hx hy he
  rcases none_or_ok xs with hq | hq <;> rcases none_or_ok ys with hr | hr
  · have HQ := Lib.hid hq
    have HQ2 := Lib.hid hr
    clear hq hr
    have HB := Lib.hid (Grew.refl w)
    have tk0 := Lib.hid trivial
    have tk1 := Lib.hid trivial
    have tk2 := Lib.hid trivial
    go_enter Tryd.func8, Tryd.ntmps8
    go_wp2_with (first
      | (go_at_call 10; clear tk0; (with_reducible refine (made_none pa _ ca xs _ HX.out rfl HQ.out).mono ?_); rintro e w1 ⟨rfl, g1⟩; replace HE := Lib.hid (HE.out.grew g1); replace HX := Lib.hid (HX.out.grew g1); replace HY := Lib.hid (HY.out.grew g1); replace HB := Lib.hid (HB.out.trans g1); clear g1)
      | (go_at_call 10; clear tk1; (with_reducible refine (made_none pb _ cb ys _ HY.out rfl HQ2.out).mono ?_); rintro e w2 ⟨rfl, g1⟩; replace HE := Lib.hid (HE.out.grew g1); replace HX := Lib.hid (HX.out.grew g1); replace HY := Lib.hid (HY.out.grew g1); replace HB := Lib.hid (HB.out.trans g1); clear g1)
      | (go_at_call 11; clear tk2; (with_reducible refine (examples_any _ HE.out).mono ?_); rintro e w3 ⟨rfl, g1⟩; replace HE := Lib.hid (HE.out.grew g1); replace HX := Lib.hid (HX.out.grew g1); replace HY := Lib.hid (HY.out.grew g1); replace HB := Lib.hid (HB.out.trans g1); clear g1))
    go_ret
    exact ⟨rfl, HB.out⟩
  · have HQ := Lib.hid hq
    have HQ2 := Lib.hid hr
    clear hq hr
    have HB := Lib.hid (Grew.refl w)
    have tk0 := Lib.hid trivial
    have tk1 := Lib.hid trivial
    have tk2 := Lib.hid trivial
    go_enter Tryd.func8, Tryd.ntmps8
    go_wp2_with (first
      | (go_at_call 10; clear tk0; (with_reducible refine (made_none pa _ ca xs _ HX.out rfl HQ.out).mono ?_); rintro e w1 ⟨rfl, g1⟩; replace HE := Lib.hid (HE.out.grew g1); replace HX := Lib.hid (HX.out.grew g1); replace HY := Lib.hid (HY.out.grew g1); replace HB := Lib.hid (HB.out.trans g1); clear g1)
      | (go_at_call 10; clear tk1; (with_reducible refine (made_ok pb _ cb ys _ HY.out rfl HQ2.out.1 HQ2.out.2).mono ?_); rintro e w2 ⟨u, rfl, hu, g1⟩; replace HE := Lib.hid (HE.out.grew g1); replace HX := Lib.hid (HX.out.grew g1); replace HY := Lib.hid (HY.out.grew g1); replace HB := Lib.hid (HB.out.trans g1); clear g1; have HU := Lib.hid hu; clear hu)
      | (go_at_call 11; clear tk2; (with_reducible refine (examples_any _ HE.out).mono ?_); rintro e w3 ⟨rfl, g1⟩; replace HE := Lib.hid (HE.out.grew g1); replace HX := Lib.hid (HX.out.grew g1); replace HY := Lib.hid (HY.out.grew g1); replace HU := Lib.hid (HU.out.grew g1); replace HB := Lib.hid (HB.out.trans g1); clear g1))
    go_ret
    exact ⟨rfl, HB.out⟩
  · have HQ := Lib.hid hq
    have HQ2 := Lib.hid hr
    clear hq hr
    have HB := Lib.hid (Grew.refl w)
    have tk0 := Lib.hid trivial
    have tk1 := Lib.hid trivial
    have tk2 := Lib.hid trivial
    go_enter Tryd.func8, Tryd.ntmps8
    go_wp2_with (first
      | (go_at_call 10; clear tk0; (with_reducible refine (made_ok pa _ ca xs _ HX.out rfl HQ.out.1 HQ.out.2).mono ?_); rintro e w1 ⟨t, rfl, ht, g1⟩; replace HE := Lib.hid (HE.out.grew g1); replace HX := Lib.hid (HX.out.grew g1); replace HY := Lib.hid (HY.out.grew g1); replace HB := Lib.hid (HB.out.trans g1); clear g1; have HT := Lib.hid ht; clear ht)
      | (go_at_call 10; clear tk1; (with_reducible refine (made_none pb _ cb ys _ HY.out rfl HQ2.out).mono ?_); rintro e w2 ⟨rfl, g1⟩; replace HE := Lib.hid (HE.out.grew g1); replace HX := Lib.hid (HX.out.grew g1); replace HY := Lib.hid (HY.out.grew g1); replace HT := Lib.hid (HT.out.grew g1); replace HB := Lib.hid (HB.out.trans g1); clear g1)
      | (go_at_call 11; clear tk2; (with_reducible refine (examples_any _ HE.out).mono ?_); rintro e w3 ⟨rfl, g1⟩; replace HE := Lib.hid (HE.out.grew g1); replace HX := Lib.hid (HX.out.grew g1); replace HY := Lib.hid (HY.out.grew g1); replace HT := Lib.hid (HT.out.grew g1); replace HB := Lib.hid (HB.out.trans g1); clear g1))
    go_ret
    exact ⟨rfl, HB.out⟩
  · have HQ : Hid (xs.length ≤ 60 ∧ asc (-1) xs = true ∧ ys.length ≤ 60 ∧ asc (-1) ys = true) := Lib.hid ⟨hq.1, hq.2, hr.1, hr.2⟩
    obtain ⟨a, hva⟩ : ∃ a, valAt xs time = a := ⟨_, rfl⟩
    obtain ⟨b, hvb⟩ : ∃ b, valAt ys time = b := ⟨_, rfl⟩
    have HVA := Lib.hid hva
    have HVB := Lib.hid hvb
    clear hva hvb hq hr
    have HB := Lib.hid (Grew.refl w)
    have tk0 := Lib.hid trivial
    have tk1 := Lib.hid trivial
    have tk2 := Lib.hid trivial
    go_enter Tryd.func8, Tryd.ntmps8
    go_wp2_with (first
      | (go_at_call 10; clear tk0; (with_reducible refine (made_ok pa _ ca xs _ HX.out rfl HQ.out.1 HQ.out.2.1).mono ?_); rintro e w1 ⟨t, rfl, ht, g1⟩; replace HE := Lib.hid (HE.out.grew g1); replace HX := Lib.hid (HX.out.grew g1); replace HY := Lib.hid (HY.out.grew g1); replace HB := Lib.hid (HB.out.trans g1); clear g1; have HT := Lib.hid ht; clear ht)
      | (go_at_call 10; clear tk1; (with_reducible refine (made_ok pb _ cb ys _ HY.out rfl HQ.out.2.2.1 HQ.out.2.2.2).mono ?_); rintro e w2 ⟨u, rfl, hu, g1⟩; replace HE := Lib.hid (HE.out.grew g1); replace HX := Lib.hid (HX.out.grew g1); replace HY := Lib.hid (HY.out.grew g1); replace HT := Lib.hid (HT.out.grew g1); replace HB := Lib.hid (HB.out.trans g1); clear g1; have HU := Lib.hid hu; clear hu)
      | (go_at_call 23; clear tk2; generalize hW : World.alloc _ _ = V; have bl : Blk (w2.heap.size) [.pointer (some ⟨t, 0, none⟩), .pointer (some ⟨u, 0, none⟩), .pointer (some ⟨t, 0, none⟩)] 23 V := (by subst hW; exact Blk.grew (w := (w2.alloc (.cells #[.pointer (some ⟨t, 0, none⟩), .pointer (some ⟨u, 0, none⟩), .pointer (some ⟨t, 0, none⟩)] 23))) (by simpa using Blk.new w2 [.pointer (some ⟨t, 0, none⟩), .pointer (some ⟨u, 0, none⟩), .pointer (some ⟨t, 0, none⟩)] 23) (by repeat (first | with_reducible exact Grew.refl _ | with_reducible refine Grew.alloc ?_ _ | with_reducible refine Grew.drw ?_ | with_reducible refine Grew.drwN ?_ _ | with_reducible refine Grew.sc ?_ (by first | omega | (simp <;> omega)) _ _))); have hv : Grew w2 V := (by subst hW; repeat (first | with_reducible exact Grew.refl _ | with_reducible refine Grew.alloc ?_ _ | with_reducible refine Grew.drw ?_ | with_reducible refine Grew.drwN ?_ _ | with_reducible refine Grew.sc ?_ (by first | omega | (simp <;> omega)) _ _)); clear hW; replace HE := Lib.hid (HE.out.grew hv); replace HX := Lib.hid (HX.out.grew hv); replace HY := Lib.hid (HY.out.grew hv); replace HT := Lib.hid (HT.out.grew hv); replace HU := Lib.hid (HU.out.grew hv); replace HB := Lib.hid (HB.out.trans hv); clear hv; (with_reducible refine (merge3 _ t u xs ys time a b _ bl HT.out HU.out HQ.out.2.1 HQ.out.2.2.2 HQ.out.1 HQ.out.2.2.1 HVA.out HVB.out).mono ?_); rintro e w3 ⟨g, rfl, hm, g1⟩; clear bl; replace HE := Lib.hid (HE.out.grew g1); replace HX := Lib.hid (HX.out.grew g1); replace HY := Lib.hid (HY.out.grew g1); replace HT := Lib.hid (HT.out.grew g1); replace HU := Lib.hid (HU.out.grew g1); replace HB := Lib.hid (HB.out.trans g1); clear g1; have HM := Lib.hid hm; clear hm))
    have hva := HVA.out
    have hvb := HVB.out
    have haa := HQ.out.2.1
    have hab := HQ.out.2.2.2
    have hlx := HQ.out.1
    have hly := HQ.out.2.2.1
    have hD : Grew w3 w3.drew := (Grew.refl _).drw
    have HEE := HE.out.grew hD
    have HXX := HX.out.grew hD
    have HYY := HY.out.grew hD
    have m0 := (HM.out.grew hD).m0
    have m1 := (HM.out.grew hD).m1
    have m2 := (HM.out.grew hD).m2
    refine wp_posts [some 49, some 50, some 51, some 52, some 53, some 54, some 55, some 56, some 57, some 58, some 59, some 60, some 61, some 62, some 63, some 64, some 65, some 66, some 67, some 68, some 69, some 70, some 71, some 72, some 73, some 74, some 75, some 76, some 77, some 78, some 79, some 80, some 81, some 82, some 83, some 84, some 85, some 86, some 87, some 88, some 89, some 6] [false, false, false, false, false, false, true, false, false, false, false, false, false, false, false, false, false, false, false, false, false, false, false, false, false, false, false, false, false, false, false, false, false, false, false, false, false, false, false, false, false, false, false, false, false, false, false, false, false, true, true, true, true, true, true, true, true, true, true, true, true, true, true, true, true, true, true, true, true, true, true, true, true, true, true, true, true, true, true, true, true, true, true, true, true, true, true, true, true, true] [fun v _ => v = .slice (some ⟨g, 0, none⟩) (3) (3), fun v _ => v = .int .i64 (((3 : Nat) : Int)), fun v _ => v = .bool (true), fun v _ => v = .bool (true), fun v _ => v = .slice (some ⟨g, 0, none⟩) (3) (3), fun v _ => v = .pointer (some ⟨g, 0 + 0, none⟩), fun v _ => v = .int .i16 (a), fun v _ => v = .slice pa xs.length ca, fun v w => ∃ p1 c1, v = .slice p1 xs.length c1 ∧ Rw 2 itc w p1 c1 xs, fun v _ => v = .int .i64 (time), fun v _ => v = .int .i16 (a), fun v _ => v = .bool (true), fun v _ => v = .bool (true), fun v _ => v = .bool (true), fun v _ => v = .slice (some ⟨g, 0, none⟩) (3) (3), fun v _ => v = .pointer (some ⟨g, 0 + 1, none⟩), fun v _ => v = .int .i16 (b), fun v _ => v = .slice pb ys.length cb, fun v w => ∃ p1 c1, v = .slice p1 ys.length c1 ∧ Rw 2 itc w p1 c1 ys, fun v _ => v = .int .i64 (time), fun v _ => v = .int .i16 (b), fun v _ => v = .bool (true), fun v _ => v = .bool (true), fun v _ => v = .bool (true), fun v _ => v = .slice (some ⟨g, 0, none⟩) (3) (3), fun v _ => v = .pointer (some ⟨g, 0 + 2, none⟩), fun v _ => v = .int .i16 (a), fun v _ => v = .slice (some ⟨g, 0, none⟩) (3) (3), fun v _ => v = .pointer (some ⟨g, 0 + 0, none⟩), fun v _ => v = .int .i16 (a), fun v _ => v = .bool (true), fun v _ => v = .bool (true), fun v _ => v = .bool (true), fun v _ => v = .int .i64 (time), fun v _ => ∃ q, v = .slice q 0 0, fun v _ => v = .int .i64 ((0 : Nat) : Int), fun v _ => v = .bool (true), fun v _ => v = .bool (true), fun v _ => v = .bool (true), fun v _ => v = .bool (true), fun v _ => v = .bool (true), fun v _ => v = .bool (true)] (by kernel_rfl) (by kernel_rfl) rfl ?_ ⟨?_, ?_, ?_, ?_, ?_, ?_, ?_, ?_, ?_, ?_, ?_, ?_, ?_, ?_, ?_, ?_, ?_, ?_, ?_, ?_, ?_, ?_, ?_, ?_, ?_, ?_, ?_, ?_, ?_, ?_, ?_, ?_, ?_, ?_, ?_, ?_, ?_, ?_, ?_, ?_, ?_, ?_, trivial⟩ ?_
    · exact ⟨fun _ _ _ _ h => h, fun _ _ _ _ h => h, fun _ _ _ _ h => h, fun _ _ _ _ h => h, fun _ _ _ _ h => h, fun _ _ _ _ h => h, fun _ _ _ _ h => h, fun _ _ _ _ h => h, fun _ _ _ hg ⟨p1, c1, h1, h2⟩ => ⟨p1, c1, h1, h2.kept hg⟩, fun _ _ _ _ h => h, fun _ _ _ _ h => h, fun _ _ _ _ h => h, fun _ _ _ _ h => h, fun _ _ _ _ h => h, fun _ _ _ _ h => h, fun _ _ _ _ h => h, fun _ _ _ _ h => h, fun _ _ _ _ h => h, fun _ _ _ hg ⟨p1, c1, h1, h2⟩ => ⟨p1, c1, h1, h2.kept hg⟩, fun _ _ _ _ h => h, fun _ _ _ _ h => h, fun _ _ _ _ h => h, fun _ _ _ _ h => h, fun _ _ _ _ h => h, fun _ _ _ _ h => h, fun _ _ _ _ h => h, fun _ _ _ _ h => h, fun _ _ _ _ h => h, fun _ _ _ _ h => h, fun _ _ _ _ h => h, fun _ _ _ _ h => h, fun _ _ _ _ h => h, fun _ _ _ _ h => h, fun _ _ _ _ h => h, fun _ _ _ _ h => h, fun _ _ _ _ h => h, fun _ _ _ _ h => h, fun _ _ _ _ h => h, fun _ _ _ _ h => h, fun _ _ _ _ h => h, fun _ _ _ _ h => h, fun _ _ _ _ h => h, trivial⟩
    · intro u w hR hd; exact runs_mv (ev rfl) ⟨Grew.refl _, rfl⟩
    · intro u w hR hd; exact rn_len_51 (ev (hd.1 rfl)) ⟨Grew.refl _, rfl⟩
    · intro u w hR hd; exact rn_eql_3 (ev (hd.1 rfl)) rfl ⟨Grew.refl _, (congrArg Value.bool (by simp))⟩
    · intro u w hR hd; exact runs_mv (ev (hd.1 rfl)) ⟨Grew.refl _, rfl⟩
    · intro u w hR hd; exact ⟨fun _ => runs_mv (ev rfl) ⟨Grew.refl _, rfl⟩, fun hn => absurd (hd.1 rfl) hn⟩
    · intro u w hR hd; exact ⟨fun _ => rn_idx_51 (0) (ev (hd.1 rfl)) rfl (by omega) ⟨Grew.refl _, rfl⟩, fun hn => absurd (hd.2.1 rfl) hn⟩
    · intro u w hR hd; exact ⟨fun _ => rn_ld_32 (ev (hd.1 rfl)) (m0.kept hR) ⟨Grew.refl _, rfl⟩, fun hn => absurd (hd.2.1 rfl) hn⟩
    · intro u w hR hd; exact ⟨fun _ => runs_mv (ev rfl) ⟨Grew.refl _, rfl⟩, fun hn => absurd (hd.1 rfl) hn⟩
    · intro u w hR hd; exact ⟨fun _ => runs_c1 enters_rch (ev (hd.1 rfl)) ((changes_rd _ _ _ xs _ (HXX.kept hR) rfl (by omega)).mono fun e w9 ⟨p1, c1, h1, h2, h3⟩ => ⟨_, h1, h3, p1, c1, rfl, h2⟩), fun hn => absurd (hd.2.1 rfl) hn⟩
    · intro u w hR hd; exact ⟨fun _ => runs_mv (ev rfl) ⟨Grew.refl _, rfl⟩, fun hn => absurd (hd.1 rfl) hn⟩
    · intro u w hR hd; exact ⟨fun _ => (by obtain ⟨p1, c1, hv, hr⟩ := (hd.1 rfl); exact runs_c2 enters_rat (ev hv) (ev (hd.2.1 rfl)) (callp (fun _ e => e) (rat_is _ _ _ xs time a hva _ hr rfl haa))), fun hn => absurd (hd.2.2.2.1 rfl) hn⟩
    · intro u w hR hd; exact ⟨fun _ => rn_eql_32 (ev (hd.1 rfl)) (ev (hd.2.1 rfl)) ⟨Grew.refl _, (congrArg Value.bool (by simp))⟩, fun hn => absurd (hd.2.2.1 rfl) hn⟩
    · intro u w hR hd; exact runs_an (ev (hd.1 rfl)) (fun hb => ev ((hd.2.1 rfl))) ⟨Grew.refl _, rfl⟩
    · intro u w hR hd; exact runs_mv (ev (hd.1 rfl)) ⟨Grew.refl _, rfl⟩
    · intro u w hR hd; exact ⟨fun _ => runs_mv (ev rfl) ⟨Grew.refl _, rfl⟩, fun hn => absurd (hd.1 rfl) hn⟩
    · intro u w hR hd; exact ⟨fun _ => rn_idx_51 (1) (ev (hd.1 rfl)) rfl (by omega) ⟨Grew.refl _, rfl⟩, fun hn => absurd (hd.2.1 rfl) hn⟩
    · intro u w hR hd; exact ⟨fun _ => rn_ld_32 (ev (hd.1 rfl)) (m1.kept hR) ⟨Grew.refl _, rfl⟩, fun hn => absurd (hd.2.1 rfl) hn⟩
    · intro u w hR hd; exact ⟨fun _ => runs_mv (ev rfl) ⟨Grew.refl _, rfl⟩, fun hn => absurd (hd.1 rfl) hn⟩
    · intro u w hR hd; exact ⟨fun _ => runs_c1 enters_rch (ev (hd.1 rfl)) ((changes_rd _ _ _ ys _ (HYY.kept hR) rfl (by omega)).mono fun e w9 ⟨p1, c1, h1, h2, h3⟩ => ⟨_, h1, h3, p1, c1, rfl, h2⟩), fun hn => absurd (hd.2.1 rfl) hn⟩
    · intro u w hR hd; exact ⟨fun _ => runs_mv (ev rfl) ⟨Grew.refl _, rfl⟩, fun hn => absurd (hd.1 rfl) hn⟩
    · intro u w hR hd; exact ⟨fun _ => (by obtain ⟨p1, c1, hv, hr⟩ := (hd.1 rfl); exact runs_c2 enters_rat (ev hv) (ev (hd.2.1 rfl)) (callp (fun _ e => e) (rat_is _ _ _ ys time b hvb _ hr rfl hab))), fun hn => absurd (hd.2.2.2.1 rfl) hn⟩
    · intro u w hR hd; exact ⟨fun _ => rn_eql_32 (ev (hd.1 rfl)) (ev (hd.2.1 rfl)) ⟨Grew.refl _, (congrArg Value.bool (by simp))⟩, fun hn => absurd (hd.2.2.1 rfl) hn⟩
    · intro u w hR hd; exact runs_an (ev (hd.1 rfl)) (fun hb => ev ((hd.2.1 rfl))) ⟨Grew.refl _, rfl⟩
    · intro u w hR hd; exact runs_mv (ev (hd.1 rfl)) ⟨Grew.refl _, rfl⟩
    · intro u w hR hd; exact ⟨fun _ => runs_mv (ev rfl) ⟨Grew.refl _, rfl⟩, fun hn => absurd (hd.1 rfl) hn⟩
    · intro u w hR hd; exact ⟨fun _ => rn_idx_51 (2) (ev (hd.1 rfl)) rfl (by omega) ⟨Grew.refl _, rfl⟩, fun hn => absurd (hd.2.1 rfl) hn⟩
    · intro u w hR hd; exact ⟨fun _ => rn_ld_32 (ev (hd.1 rfl)) (m2.kept hR) ⟨Grew.refl _, rfl⟩, fun hn => absurd (hd.2.1 rfl) hn⟩
    · intro u w hR hd; exact ⟨fun _ => runs_mv (ev rfl) ⟨Grew.refl _, rfl⟩, fun hn => absurd (hd.1 rfl) hn⟩
    · intro u w hR hd; exact ⟨fun _ => rn_idx_51 (0) (ev (hd.1 rfl)) rfl (by omega) ⟨Grew.refl _, rfl⟩, fun hn => absurd (hd.2.1 rfl) hn⟩
    · intro u w hR hd; exact ⟨fun _ => rn_ld_32 (ev (hd.1 rfl)) (m0.kept hR) ⟨Grew.refl _, rfl⟩, fun hn => absurd (hd.2.1 rfl) hn⟩
    · intro u w hR hd; exact ⟨fun _ => rn_eql_32 (ev (hd.1 rfl)) (ev (hd.2.1 rfl)) ⟨Grew.refl _, (congrArg Value.bool (by simp))⟩, fun hn => absurd (hd.2.2.1 rfl) hn⟩
    · intro u w hR hd; exact runs_an (ev (hd.1 rfl)) (fun hb => ev ((hd.2.1 rfl))) ⟨Grew.refl _, rfl⟩
    · intro u w hR hd; exact runs_mv (ev (hd.1 rfl)) ⟨Grew.refl _, rfl⟩
    · intro u w hR hd; exact ⟨fun _ => runs_mv (ev rfl) ⟨Grew.refl _, rfl⟩, fun hn => absurd (hd.1 rfl) hn⟩
    · intro u w hR hd; exact ⟨fun _ => runs_c2 enters_mrg rfl (ev (hd.1 rfl)) ((merge_nil time _).mono fun e w9 ⟨q, h1, h2⟩ => ⟨_, h1, h2, q, rfl⟩), fun hn => absurd (hd.2.1 rfl) hn⟩
    · intro u w hR hd; exact ⟨fun _ => (by obtain ⟨q, hv⟩ := (hd.1 rfl); exact rn_len_51 (ev hv) ⟨Grew.refl _, rfl⟩), fun hn => absurd (hd.2.1 rfl) hn⟩
    · intro u w hR hd; exact ⟨fun _ => rn_eql_3 (ev (hd.1 rfl)) rfl ⟨Grew.refl _, (congrArg Value.bool (by simp))⟩, fun hn => absurd (hd.2.1 rfl) hn⟩
    · intro u w hR hd; exact runs_an (ev (hd.1 rfl)) (fun hb => ev ((hd.2.1 rfl))) ⟨Grew.refl _, rfl⟩
    · intro u w hR hd; exact runs_mv (ev (hd.1 rfl)) ⟨Grew.refl _, rfl⟩
    · intro u w hR hd; exact ⟨fun _ => runs_c0 enters_ex  (callp (fun _ e => e) (examples_any _ (HEE.grew hR))), fun hn => absurd (hd.1 rfl) hn⟩
    · intro u w hR hd; exact runs_an (ev (hd.1 rfl)) (fun hb => ev ((hd.2.1 rfl))) ⟨Grew.refl _, rfl⟩
    · intro u w hR hd; exact runs_mva (ev (hd.1 rfl)) ⟨Grew.refl _, rfl⟩
    · intro uu w9 hR h
      have hres : uu 6 = .bool true := h 41 (by decide)
      simp only [mixA, mixL, cond_true, cond_false]
      rw [hres]
      have HB9 := Lib.hid ((HB.out.trans hD).trans hR)
      clear h hres m0 m1 m2 HEE HXX HYY hD hR
      go_wp2
      go_ret
      exact ⟨rfl, HB9.out⟩
end Go.Proofs.YtaehlpdnjfblbaaDoor
