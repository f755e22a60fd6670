/-
  THE STATEMENT LexerCovers OF LAYER 15, WALKED.
-/
import Derived.Test.YtcajamgajchheaaDoorLxLaws1
namespace Go.Proofs.YtcajamgajchheaaDoor
open Go Go.RowKit Go.IntWalk
set_option linter.unusedSimpArgs false
set_option linter.unusedVariables false
set_option maxRecDepth 8000
section
variable {dst : Option Tmp} {ty : TypeId} {pos : String} {after : Array Edge} {g : Option (Nat × Bool)} {a : Act} {w : World} {T : Value → World → Prop}
theorem rn_len_24 {x : Operand} {p : Option Addr} {n c : Nat} (hx : a.eval x = .slice p n c) (h : T (.int .i64 (n : Nat)) w) : Runs Tryd.prog ⟨dst, .call { callee := .builtin .len, args := #[x], argTypes := #[24] }, ty, pos, after, g⟩ a w T := by
  refine Runs.value (v := .int .i64 (n : Nat)) (w' := w) ?_ h
  simp [execOp, resolve, invoke, builtin, hx, Result.andThen]
  go_simp
end

theorem enters_rscan : Enters Tryd.prog 14 := fun args w => by go_simp
section
variable {dst : Option Tmp} {ty : TypeId} {pos : String} {after : Array Edge} {g : Option (Nat × Bool)} {a : Act} {w : World} {T : Value → World → Prop}
theorem runs_lss3 {x y : Operand} {m n : Nat} {b : Bool} (hx : a.eval x = .int .i64 ((m : Nat) : Int)) (hy : a.eval y = .int .i64 ((n : Nat) : Int)) (hb : decide ((m : Int) < (n : Int)) = b) (h : T (.bool b) w) : Runs Tryd.prog ⟨dst, .binOp .lss 3 x y 3, ty, pos, after, g⟩ a w T := by
  refine Runs.value (v := .bool b) (w' := w) ?_ h
  rw [← hb]
  simp only [execOp, hx, hy]
  go_simp
theorem runs_addn {x y : Operand} {m n : Nat} (hx : a.eval x = .int .i64 ((m : Nat) : Int)) (hy : a.eval y = .int .i64 ((n : Nat) : Int)) (hb : m + n ≤ 100000) (h : T (.int .i64 (((m + n : Nat)) : Int)) w) : Runs Tryd.prog ⟨dst, .binOp .add 3 x y 3, ty, pos, after, g⟩ a w T := by
  have hw : wrap64 ((m : Int) + (n : Int)) = ((m + n : Nat) : Int) := by rw [wrap64_in _ (by omega)]; omega
  refine Runs.value (v := .int .i64 (((m + n : Nat)) : Int)) (w' := w) ?_ h
  rw [← hw]
  simp only [execOp, hx, hy]
  go_simp
  first | done | exact hw | (unfold wrap64 at hw; rw [IntKind.wrap_i64]; omega)
theorem runs_sllh {x y z : Operand} {s t : ByteArray} {m n : Nat} (hx : a.eval x = .string s) (hy : a.eval y = .int .i64 ((m : Nat) : Int)) (hz : a.eval z = .int .i64 ((n : Nat) : Int)) (hm : m ≤ n) (hn : n ≤ s.size) (ht : s.extract m n = t) (h : T (.string t) w) : Runs Tryd.prog ⟨dst, .slice 9 x (some y) (some z) none, ty, pos, after, g⟩ a w T := by
  refine Runs.value (v := .string t) (w' := w) ?_ h
  rw [← ht]
  simp only [execOp, hx, hy, hz, Option.map_some, Option.map_none]
  go_simp
end
theorem scan_one_of {xs : List UInt8} (h : sk false xs = []) : (scan xs).length = 1 := by
  rw [scan_len, txs_eq, if_pos h]; rfl
/-- Where the loop stands: at p, with the tokens of what is left, or at the end. -/
def St (R : List Tk) (s : ByteArray) (j p : Nat) : Prop := (R.drop j = scn p (s.data.toList.drop p) ++ [eof s.size] ∧ p ≤ s.size) ∨ (R.length ≤ j ∧ p = s.size)
theorem ext_list (s : ByteArray) (a b : Nat) : s.extract a b = ⟨((s.data.toList.drop a).take (b - a)).toArray⟩ := by
  apply ByteArray.ext
  apply Array.ext'
  rw [Lib.extract_eq]
theorem st_step {R : List Tk} {s : ByteArray} {j p : Nat} (h : St R s j p) (hj : j < R.length) : ∃ (kk vv : Int) (T : ByteArray) (k : Nat), R[j]? = some ⟨kk, T, vv, (k : Int)⟩ ∧ p ≤ k ∧ k + T.size ≤ s.size ∧ s.extract k (k + T.size) = T ∧ (scan (s.extract p k).data.toList).length = 1 ∧ St R s (j + 1) (k + T.size) := by
  rcases h with ⟨h, hp⟩ | ⟨h, _⟩
  · have hl : s.data.toList.length = s.size := rfl
    have hd : R.drop j = R[j] :: R.drop (j + 1) := List.drop_eq_getElem_cons hj
    have hg : R[j]? = some R[j] := List.getElem?_eq_getElem hj
    rw [hd] at h
    by_cases hs : sk false (s.data.toList.drop p) = []
    · rw [scn_eq, if_pos hs, List.nil_append] at h
      obtain ⟨h1, h2⟩ := List.cons.inj h
      refine ⟨0, 0, ⟨#[]⟩, s.size, by rw [hg, h1]; rfl, hp, Nat.le_refl _, ?_, ?_, .inr ⟨?_, rfl⟩⟩
      · rw [ext_list]
        have : s.size + (⟨#[]⟩ : ByteArray).size - s.size = 0 := by rw [show (⟨#[]⟩ : ByteArray).size = 0 from rfl]; omega
        rw [this, List.take_zero]
      · rw [ext_list]
        refine scan_one_of ?_
        show sk false ((s.data.toList.drop p).take (s.size - p)) = []
        rw [List.take_of_length_le (by rw [List.length_drop, hl]; exact Nat.le_refl _)]
        exact hs
      · have := congrArg List.length h2
        rw [List.length_drop, List.length_nil] at this
        omega
    · obtain ⟨h3, h4, h5⟩ := rskip_step (xs := s.data.toList) (p := p) hp
      obtain ⟨q, hq⟩ : ∃ q, p + bl (s.data.toList.drop p) = q := ⟨_, rfl⟩
      have hsk : sk false (s.data.toList.drop p) = s.data.toList.drop q := by rw [sk_bl, List.drop_drop, hq]
      rw [hq] at h3 h4 h5
      rw [hsk] at hs
      have hlt : q < s.data.toList.length := by
        rcases Nat.lt_or_ge q s.data.toList.length with h6 | h6
        · exact h6
        · exact absurd (List.drop_of_length_le h6) hs
      obtain ⟨h6, h7, h8⟩ := rscan_step hlt h5
      rw [h4, h6, List.cons_append] at h
      obtain ⟨h9, h10⟩ := List.cons.inj h
      have hz : (⟨(ft (s.data.toList.drop q)).toArray⟩ : ByteArray).size = fl (s.data.toList.drop q) := ft_len _
      refine ⟨kd (ft (s.data.toList.drop q)), vl (ft (s.data.toList.drop q)), ⟨(ft (s.data.toList.drop q)).toArray⟩, q, by rw [hg, h9]; rfl, by omega, by rw [hz]; exact h8, ?_, ?_, .inl ⟨?_, by rw [hz]; exact h8⟩⟩
      · rw [hz, ext_list, Nat.add_sub_cancel_left]
        rfl
      · rw [ext_list]
        refine scan_one_of ?_
        show sk false ((s.data.toList.drop p).take (q - p)) = []
        refine sk_pre _ false (s.data.toList.drop q) ?_
        have h11 : (s.data.toList.drop p).take (q - p) ++ s.data.toList.drop q = s.data.toList.drop p := by
          have h12 := List.take_append_drop (q - p) (s.data.toList.drop p)
          rw [List.drop_drop, show p + (q - p) = q by omega] at h12
          exact h12
        rw [h11, hsk]
      · rw [hz, h10]
  · omega
set_option maxHeartbeats 8000000 in
theorem covers_law (a0 : ByteArray) (W : World) (he : Env W) : Calls Tryd.prog 7 #[.string a0] W fun e w' => e = .returned (.bool true) ∧ Grew W w' := by
  have HE := Lib.hid he
  have hnt := fun W => not_run true W
  rw [Bool.not_true] at hnt
  by_cases hbig : 400 < a0.size
  · clear he
    go_enter Tryd.func7, Tryd.ntmps7
    go_wp2_with (first
      | (go_at_call 10; (with_reducible refine (wakes_any _ HE.out).mono ?_); rintro e w1 ⟨rfl, g1⟩; have HG1 := Lib.hid g1; clear g1))
    all_goals first | (exfalso; omega) | skip
    go_ret
    exact ⟨rfl, HG1.out⟩
  · have HS := Lib.hid (fun W h => scanP_any a0 (by omega) W h)
    have HST := Lib.hid (fun j p (h : St (scan a0.data.toList) a0 j p) hj => st_step h hj)
    have HZC := Lib.hid (fun p k (h : (scan (a0.extract p k).data.toList).length = 1) W => (show Calls Tryd.prog 14 #[.string (a0.extract p k)] W fun e w' => ∃ p c, e = .returned (.slice p 1 c) ∧ Grew W w' from (scanR_any (a0.extract p k) (by simp; omega) W).mono fun e w' ⟨p, c, h1, h2, h3⟩ => ⟨p, c, by rw [h1, h], h3⟩))
    have H0 : Hid (St (scan a0.data.toList) a0 0 0) := Lib.hid (.inl ⟨rfl, Nat.zero_le _⟩)
    have hlen := scan_le a0
    generalize scan a0.data.toList = R at HS HST H0 hlen
    clear he
    go_enter Tryd.func7, Tryd.ntmps7
    go_wp2_with (first
      | (go_at_call 10; (with_reducible refine (wakes_any _ HE.out).mono ?_); rintro e w1 ⟨rfl, g1⟩; have HG1 := Lib.hid g1; clear g1)
      | (go_at_call 13; (with_reducible refine (HS.out _ (HE.out.grew HG1.out)).mono ?_); rintro e w2 ⟨p2, c2, rfl, hr2, g2⟩; have HR2 := Lib.hid hr2; have HG2 := Lib.hid (HG1.out.trans g2); clear g2 hr2))
    all_goals first | (exfalso; omega) | skip
    go_loopg [3, 5, 14] R.length (fun gg av bv iv wr => ∃ (j at_ : Nat), av = .int .i64 (at_ : Int) ∧ iv = .int .i64 (j : Int) ∧ j ≤ R.length ∧ gg = R.length - j ∧ at_ ≤ 400 ∧ Hid (St R a0 j at_) ∧ Hid (Grew w2 wr))
    case atStart => exact ⟨0, 0, rfl, rfl, Nat.zero_le _, rfl, Nat.zero_le _, H0, Lib.hid (Grew.refl _)⟩
    case round =>
      obtain ⟨j, at_, rfl, rfl, hj, rfl, hat, HQ, HG⟩ := hrel
      by_cases hlt : j < R.length
      · obtain ⟨kk, vv, T, k, hx, hs1, hs2, hs3, hs4, hs5⟩ := HST.out j at_ HQ.out hlt
        obtain ⟨b1, o1, rfl, hcc⟩ := (HR2.out.kept HG.out).rd.cells (by omega)
        have hc1 := hcc j _ hx
        have HLT := Lib.hid (Nat.succ_le_of_lt hlt)
        have HN := Lib.hid hs5
        have q0 : wr.cell? ⟨b1, o1 + j * 4, none⟩ = some (.int .i64 kk) := by simpa using hc1 0 _ rfl
        have q1 : wr.cell? ⟨b1, o1 + j * 4 + 1, none⟩ = some (.string T) := hc1 1 _ rfl
        have q2 : wr.cell? ⟨b1, o1 + j * 4 + 2, none⟩ = some (.int .i16 vv) := hc1 2 _ rfl
        have q3 : wr.cell? ⟨b1, o1 + j * 4 + 3, none⟩ = some (.int .i64 (k : Int)) := hc1 3 _ rfl
        have HZ := Lib.hid (HZC.out at_ k hs4)
        obtain ⟨Z, h9⟩ : ∃ Z, a0.extract at_ k = Z := ⟨_, rfl⟩
        rw [h9] at HZ
        clear hcc hc1 hx hs4 hs5
        go_upto_region 9 with fail
        have hb : Blk wr.heap.size (tkc ⟨kk, T, vv, k⟩) 41 (wr.alloc (Obj.cells #[.int .i64 kk, .string T, .int .i16 vv, .int .i64 (k : Int)] 41)) := Blk.new wr _ _
        have hgV : Grew wr (wr.alloc (Obj.cells #[.int .i64 kk, .string T, .int .i16 vv, .int .i64 (k : Int)] 41)) := (Grew.refl _).alloc _
        generalize (wr.alloc (Obj.cells #[.int .i64 kk, .string T, .int .i16 vv, .int .i64 (k : Int)] 41)) = V at hb hgV ⊢
        generalize wr.heap.size = S at hb ⊢
        have HXB := Lib.hid hb
        have HGV := Lib.hid (HG.out.trans hgV)
        have d1 : Atv ⟨S, 1, none⟩ (.string T) V.drew := atv_of (Grew.refl _).drw (hb.cell 1)
        have d3 : Atv ⟨S, 3, none⟩ (.int .i64 (k : Int)) V.drew := atv_of (Grew.refl _).drw (hb.cell 3)
        have h1 : decide ((k : Int) < (at_ : Int)) = false := decide_eq_false (by omega)
        have h2 : k + T.size ≤ 100000 := by omega
        have h3 : decide ((a0.size : Int) < (((k + T.size : Nat)) : Int)) = false := decide_eq_false (by omega)
        have h4 : k ≤ k + T.size := Nat.le_add_right _ _
        have h5 : k + T.size ≤ a0.size := hs2
        have h6 : a0.extract k (k + T.size) = T := hs3
        have h7 : at_ ≤ k := hs1
        have h8 : k ≤ a0.size := by omega
        clear q0 q1 q2 q3 hb hgV
        refine wp_posts [some 18, some 19, some 20, some 21, some 22, some 23, some 24, some 25, some 26, some 27, some 28, some 29, some 30, some 31, some 32, some 33, some 34, some 35, some 36, some 37, some 38, some 39, some 40, some 41, some 42, some 43, some 44, some 45, some 46, some 47, some 48, some 49, some 50, some 51, some 52, some 53, some 54, some 55, some 56, some 57] [false, false, false, false, false, false, false, false, false, false, false, false, false, false, false, false, false, false, true, true, true, true, true, true, true, true, true, true, true, true, true, true, true, true, true, true, true, true, true, true, true, true, true, true, true, true, true, true, true, true, true, true, true, true, true, true, true, true, false, false, false, false, false, false, false, false, false, false, false] [fun v _ => v = .pointer (some ⟨S, 3, none⟩), fun v _ => v = .int .i64 (((k : Nat) : Int)), fun v _ => v = .int .i64 (((at_ : Nat) : Int)), fun v _ => v = .bool false, fun v _ => v = .bool (false), fun v _ => v = .pointer (some ⟨S, 3, none⟩), fun v _ => v = .int .i64 (((k : Nat) : Int)), fun v _ => v = .pointer (some ⟨S, 1, none⟩), fun v _ => v = .string T, fun v _ => v = .int .i64 ((T.size : Nat) : Int), fun v _ => v = .int .i64 (((k + T.size : Nat)) : Int), fun v _ => v = .string a0, fun v _ => v = .int .i64 ((a0.size : Nat) : Int), fun v _ => v = .bool false, fun v _ => v = .bool (false), fun v _ => v = .bool (false), fun v _ => v = .string a0, fun v _ => v = .pointer (some ⟨S, 3, none⟩), fun v _ => v = .int .i64 (((k : Nat) : Int)), fun v _ => v = .pointer (some ⟨S, 3, none⟩), fun v _ => v = .int .i64 (((k : Nat) : Int)), fun v _ => v = .pointer (some ⟨S, 1, none⟩), fun v _ => v = .string T, fun v _ => v = .int .i64 ((T.size : Nat) : Int), fun v _ => v = .int .i64 (((k + T.size : Nat)) : Int), fun v _ => v = .string T, fun v _ => v = .pointer (some ⟨S, 1, none⟩), fun v _ => v = .string T, fun v _ => v = .bool false, fun v _ => v = .bool (false), fun v _ => v = .bool (false), fun v _ => v = .string a0, fun v _ => v = .int .i64 (((at_ : Nat) : Int)), fun v _ => v = .pointer (some ⟨S, 3, none⟩), fun v _ => v = .int .i64 (((k : Nat) : Int)), fun v _ => v = .string Z, fun v _ => ∃ p c, v = .slice p 1 c, fun v _ => v = .int .i64 1, fun v _ => v = .bool false, fun v _ => v = .bool (false)] (by kernel_rfl) (by kernel_rfl) rfl ?_ ⟨?_, ?_, ?_, ?_, ?_, ?_, ?_, ?_, ?_, ?_, ?_, ?_, ?_, ?_, ?_, ?_, ?_, ?_, ?_, ?_, ?_, ?_, ?_, ?_, ?_, ?_, ?_, ?_, ?_, ?_, ?_, ?_, ?_, ?_, ?_, ?_, ?_, ?_, ?_, ?_, trivial⟩ ?_
        · exact ⟨fun _ _ _ _ h => h, fun _ _ _ _ h => h, fun _ _ _ _ h => h, fun _ _ _ _ h => h, fun _ _ _ _ h => h, fun _ _ _ _ h => h, fun _ _ _ _ h => h, fun _ _ _ _ h => h, fun _ _ _ _ h => h, fun _ _ _ _ h => h, fun _ _ _ _ h => h, fun _ _ _ _ h => h, fun _ _ _ _ h => h, fun _ _ _ _ h => h, fun _ _ _ _ h => h, fun _ _ _ _ h => h, fun _ _ _ _ h => h, fun _ _ _ _ h => h, fun _ _ _ _ h => h, fun _ _ _ _ h => h, fun _ _ _ _ h => h, fun _ _ _ _ h => h, fun _ _ _ _ h => h, fun _ _ _ _ h => h, fun _ _ _ _ h => h, fun _ _ _ _ h => h, fun _ _ _ _ h => h, fun _ _ _ _ h => h, fun _ _ _ _ h => h, fun _ _ _ _ h => h, fun _ _ _ _ h => h, fun _ _ _ _ h => h, fun _ _ _ _ h => h, fun _ _ _ _ h => h, fun _ _ _ _ h => h, fun _ _ _ _ h => h, fun _ _ _ _ h => h, fun _ _ _ _ h => h, fun _ _ _ _ h => h, fun _ _ _ _ h => h, trivial⟩
        · intro u w hR hd; exact rn_fld_41_3 (ev rfl) ⟨Grew.refl _, rfl⟩
        · intro u w hR hd; exact rn_ld_3 (ev (hd.1 rfl)) (d3.kept hR) ⟨Grew.refl _, rfl⟩
        · intro u w hR hd; exact runs_mv (ev rfl) ⟨Grew.refl _, rfl⟩
        · intro u w hR hd; exact runs_lss3 (ev (hd.1 rfl)) (ev (hd.2.1 rfl)) h1 ⟨Grew.refl _, rfl⟩
        · intro u w hR hd; exact runs_mv (ev (hd.1 rfl)) ⟨Grew.refl _, rfl⟩
        · intro u w hR hd; exact ⟨fun _ => rn_fld_41_3 (ev rfl) ⟨Grew.refl _, rfl⟩, fun hn => absurd (hd.1 rfl) hn⟩
        · intro u w hR hd; exact ⟨fun _ => rn_ld_3 (ev (hd.1 rfl)) (d3.kept hR) ⟨Grew.refl _, rfl⟩, fun hn => absurd (hd.2.1 rfl) hn⟩
        · intro u w hR hd; exact ⟨fun _ => rn_fld_41_1 (ev rfl) ⟨Grew.refl _, rfl⟩, fun hn => absurd (hd.1 rfl) hn⟩
        · intro u w hR hd; exact ⟨fun _ => rn_ld_9 (ev (hd.1 rfl)) (d1.kept hR) ⟨Grew.refl _, rfl⟩, fun hn => absurd (hd.2.1 rfl) hn⟩
        · intro u w hR hd; exact ⟨fun _ => runs_lens (ev (hd.1 rfl)) ⟨Grew.refl _, rfl⟩, fun hn => absurd (hd.2.1 rfl) hn⟩
        · intro u w hR hd; exact ⟨fun _ => runs_addn (ev (hd.1 rfl)) (ev (hd.2.1 rfl)) h2 ⟨Grew.refl _, rfl⟩, fun hn => absurd (hd.2.2.1 rfl) hn⟩
        · intro u w hR hd; exact ⟨fun _ => runs_mv (ev rfl) ⟨Grew.refl _, rfl⟩, fun hn => absurd (hd.1 rfl) hn⟩
        · intro u w hR hd; exact ⟨fun _ => runs_lens (ev (hd.1 rfl)) ⟨Grew.refl _, rfl⟩, fun hn => absurd (hd.2.1 rfl) hn⟩
        · intro u w hR hd; exact ⟨fun _ => runs_gts (ev (hd.1 rfl)) (ev (hd.2.1 rfl)) h3 ⟨Grew.refl _, rfl⟩, fun hn => absurd (hd.2.2.1 rfl) hn⟩
        · intro u w hR hd; exact runs_or2 (ev (hd.1 rfl)) (fun hb => ev ((hd.2.1 rfl))) ⟨Grew.refl _, rfl⟩
        · intro u w hR hd; exact runs_mv (ev (hd.1 rfl)) ⟨Grew.refl _, rfl⟩
        · intro u w hR hd; exact ⟨fun _ => runs_mv (ev rfl) ⟨Grew.refl _, rfl⟩, fun hn => absurd (hd.1 rfl) hn⟩
        · intro u w hR hd; exact ⟨fun _ => rn_fld_41_3 (ev rfl) ⟨Grew.refl _, rfl⟩, fun hn => absurd (hd.1 rfl) hn⟩
        · intro u w hR hd; exact ⟨fun _ => rn_ld_3 (ev (hd.1 rfl)) (d3.kept hR) ⟨Grew.refl _, rfl⟩, fun hn => absurd (hd.2.1 rfl) hn⟩
        · intro u w hR hd; exact ⟨fun _ => rn_fld_41_3 (ev rfl) ⟨Grew.refl _, rfl⟩, fun hn => absurd (hd.1 rfl) hn⟩
        · intro u w hR hd; exact ⟨fun _ => rn_ld_3 (ev (hd.1 rfl)) (d3.kept hR) ⟨Grew.refl _, rfl⟩, fun hn => absurd (hd.2.1 rfl) hn⟩
        · intro u w hR hd; exact ⟨fun _ => rn_fld_41_1 (ev rfl) ⟨Grew.refl _, rfl⟩, fun hn => absurd (hd.1 rfl) hn⟩
        · intro u w hR hd; exact ⟨fun _ => rn_ld_9 (ev (hd.1 rfl)) (d1.kept hR) ⟨Grew.refl _, rfl⟩, fun hn => absurd (hd.2.1 rfl) hn⟩
        · intro u w hR hd; exact ⟨fun _ => runs_lens (ev (hd.1 rfl)) ⟨Grew.refl _, rfl⟩, fun hn => absurd (hd.2.1 rfl) hn⟩
        · intro u w hR hd; exact ⟨fun _ => runs_addn (ev (hd.1 rfl)) (ev (hd.2.1 rfl)) h2 ⟨Grew.refl _, rfl⟩, fun hn => absurd (hd.2.2.1 rfl) hn⟩
        · intro u w hR hd; exact ⟨fun _ => runs_sllh (ev (hd.1 rfl)) (ev (hd.2.1 rfl)) (ev (hd.2.2.1 rfl)) h4 h5 h6 ⟨Grew.refl _, rfl⟩, fun hn => absurd (hd.2.2.2.1 rfl) hn⟩
        · intro u w hR hd; exact ⟨fun _ => rn_fld_41_1 (ev rfl) ⟨Grew.refl _, rfl⟩, fun hn => absurd (hd.1 rfl) hn⟩
        · intro u w hR hd; exact ⟨fun _ => rn_ld_9 (ev (hd.1 rfl)) (d1.kept hR) ⟨Grew.refl _, rfl⟩, fun hn => absurd (hd.2.1 rfl) hn⟩
        · intro u w hR hd; exact ⟨fun _ => runs_nes (ev (hd.1 rfl)) (ev (hd.2.1 rfl)) ⟨Grew.refl _, rfl⟩, fun hn => absurd (hd.2.2.1 rfl) hn⟩
        · intro u w hR hd; exact runs_or2 (ev (hd.1 rfl)) (fun hb => ev ((hd.2.1 rfl))) ⟨Grew.refl _, rfl⟩
        · intro u w hR hd; exact runs_mv (ev (hd.1 rfl)) ⟨Grew.refl _, rfl⟩
        · intro u w hR hd; exact ⟨fun _ => runs_mv (ev rfl) ⟨Grew.refl _, rfl⟩, fun hn => absurd (hd.1 rfl) hn⟩
        · intro u w hR hd; exact ⟨fun _ => runs_mv (ev rfl) ⟨Grew.refl _, rfl⟩, fun hn => absurd (hd.1 rfl) hn⟩
        · intro u w hR hd; exact ⟨fun _ => rn_fld_41_3 (ev rfl) ⟨Grew.refl _, rfl⟩, fun hn => absurd (hd.1 rfl) hn⟩
        · intro u w hR hd; exact ⟨fun _ => rn_ld_3 (ev (hd.1 rfl)) (d3.kept hR) ⟨Grew.refl _, rfl⟩, fun hn => absurd (hd.2.1 rfl) hn⟩
        · intro u w hR hd; exact ⟨fun _ => runs_sllh (ev (hd.1 rfl)) (ev (hd.2.1 rfl)) (ev (hd.2.2.1 rfl)) h7 h8 h9 ⟨Grew.refl _, rfl⟩, fun hn => absurd (hd.2.2.2.1 rfl) hn⟩
        · intro u w hR hd; exact ⟨fun _ => runs_c1 enters_rscan (ev (hd.1 rfl)) ((HZ.out _).mono fun e w9 ⟨p, c, h1, h2⟩ => ⟨_, h1, h2, p, c, rfl⟩), fun hn => absurd (hd.2.1 rfl) hn⟩
        · intro u w hR hd; exact ⟨fun _ => (match (hd.1 rfl) with | ⟨p, c, hp⟩ => rn_len_24 (ev hp) ⟨Grew.refl _, rfl⟩), fun hn => absurd (hd.2.1 rfl) hn⟩
        · intro u w hR hd; exact ⟨fun _ => runs_nei3 (ev (hd.1 rfl)) rfl ⟨Grew.refl _, rfl⟩, fun hn => absurd (hd.2.1 rfl) hn⟩
        · intro u w hR hd; exact runs_or2 (ev (hd.1 rfl)) (fun hb => ev ((hd.2.1 rfl))) ⟨Grew.refl _, rfl⟩
        · intro u w4 hR h
          have he : u 57 = .bool false := h 39 (by decide)
          have HG4 := Lib.hid (HGV.out.trans ((Grew.refl V).drw.trans hR))
          have HX4 := Lib.hid (HXB.out.grew ((Grew.refl V).drw.trans hR))
          obtain ⟨q0, q1, q2, q3, r0, r1, r2, r3⟩ := tk4 _ _ _ _ _ HX4.out
          simp only [mixA, mixL, cond_true, cond_false, he]
          clear h he d1 d3 hR h1 h3 h6 h9 hs3
          go_wp2
          all_goals first | (exfalso; omega) | skip
          go_roundg (R.length - (j + 1))
          case measure => have := HLT.out; omega
          case rel => exact ⟨j + 1, k + T.size, by go_num, by go_num, HLT.out, rfl, by omega, HN, HG4⟩
      · obtain rfl : j = R.length := by omega
        have hfin : at_ = a0.size := by
          rcases HQ.out with ⟨h, _⟩ | ⟨_, h⟩
          · rw [List.drop_of_length_le (Nat.le_refl _)] at h
            have := congrArg List.length h
            simp at this
          · exact h
        subst hfin
        go_wp2
        go_ret
        exact ⟨ret_bool (by simp), HG2.out.trans HG.out⟩
end Go.Proofs.YtcajamgajchheaaDoor
