/-
  LAYER 15's REFERENCE: mark.
-/
import Derived.Test.YtcajamgajchheaaDoorLxRTab
namespace Go.Proofs.YtcajamgajchheaaDoor
open Go Go.RowKit Go.IntWalk
set_option linter.unusedSimpArgs false
set_option linter.unusedVariables false
set_option maxRecDepth 8000
section
variable {dst : Option Tmp} {ty : TypeId} {pos : String} {after : Array Edge} {g : Option (Nat × Bool)} {a : Act} {w : World} {T : Value → World → Prop}
theorem rn_idx_43 {x y : Operand} {b o n c : Nat} (i : Nat) (hx : a.eval x = .slice (some ⟨b, o, none⟩) n c) (hy : a.eval y = .int .i64 (i : Int)) (hi : i < n) (h : T (.pointer (some ⟨b, o + i, none⟩)) w) : Runs Tryd.prog ⟨dst, .indexAddr 43 x y, ty, pos, after, g⟩ a w T := by
  have hi2 : (i : Int) < (n : Int) := by omega
  refine Runs.value (v := .pointer (some ⟨b, o + i, none⟩)) (w' := w) ?_ h
  simp only [execOp, hx, hy]
  go_simp
theorem rn_ld_9 {x : Operand} {q : Addr} {v : Value} (hx : a.eval x = .pointer (some q)) (hc : w.cell? q = some v) (h : T v w) : Runs Tryd.prog ⟨dst, .load 9 x, ty, pos, after, g⟩ a w T := by
  refine Runs.value (v := v) (w' := w) ?_ h
  simp only [execOp, hx]
  go_simp
end

section
variable {dst : Option Tmp} {ty : TypeId} {pos : String} {after : Array Edge} {g : Option (Nat × Bool)} {a : Act} {w : World} {T : Value → World → Prop}
theorem atv_of {q : Addr} {v : Value} {w w' : World} (hg : Grew w w') (h : w.cell? q = some v) : Atv q v w' := Atv.grew h hg
theorem runs_lens {i : Nat} {s : ByteArray} (hx : a.eval (.tmp i) = .string s) (h : T (.int .i64 ((s.size : Nat) : Int)) w) : Runs Tryd.prog ⟨dst, .call { callee := .builtin .len, args := #[.tmp i], argTypes := #[9] }, ty, pos, after, g⟩ a w T := by
  rw [slot_eval] at hx
  rw [← slot_get] at hx
  refine Runs.value (v := .int .i64 ((s.size : Nat) : Int)) (w' := w) ?_ h
  simp only [execOp]
  go_simp
theorem runs_slh {x y : Operand} {s : ByteArray} {n : Nat} (hx : a.eval x = .string s) (hy : a.eval y = .int .i64 ((n : Nat) : Int)) (hn : n ≤ s.size) (h : T (.string (s.extract 0 n)) w) : Runs Tryd.prog ⟨dst, .slice 9 x none (some y) none, ty, pos, after, g⟩ a w T := by
  refine Runs.value (v := .string (s.extract 0 n)) (w' := w) ?_ h
  simp only [execOp, hx, hy, Option.map_some, Option.map_none]
  go_simp
theorem runs_eqs {x y : Operand} {s t : ByteArray} {b : Bool} (hx : a.eval x = .string s) (hy : a.eval y = .string t) (hb : (s.toList == t.toList) = b) (h : T (.bool b) w) : Runs Tryd.prog ⟨dst, .binOp .eql 9 x y 9, ty, pos, after, g⟩ a w T := by
  refine Runs.value (v := .bool b) (w' := w) ?_ h
  rw [← hb]
  simp only [execOp, hx, hy]
  go_simp
theorem runs_les {x y : Operand} {m n : Nat} {b : Bool} (hx : a.eval x = .int .i64 ((m : Nat) : Int)) (hy : a.eval y = .int .i64 ((n : Nat) : Int)) (hb : decide ((m : Int) ≤ (n : Int)) = b) (h : T (.bool b) w) : Runs Tryd.prog ⟨dst, .binOp .leq 3 x y 3, ty, pos, after, g⟩ a w T := by
  refine Runs.value (v := .bool b) (w' := w) ?_ h
  rw [← hb]
  simp only [execOp, hx, hy]
  go_simp
theorem runs_gts {x y : Operand} {m n : Nat} {b : Bool} (hx : a.eval x = .int .i64 ((m : Nat) : Int)) (hy : a.eval y = .int .i64 ((n : Nat) : Int)) (hb : decide ((n : Int) < (m : Int)) = b) (h : T (.bool b) w) : Runs Tryd.prog ⟨dst, .binOp .gtr 3 x y 3, ty, pos, after, g⟩ a w T := by
  refine Runs.value (v := .bool b) (w' := w) ?_ h
  rw [← hb]
  simp only [execOp, hx, hy]
  go_simp
end
theorem bsk_mkb {k : Nat} (h : k < 23) : mkb[k]? = some ⟨(mks.getD k []).toArray⟩ := by
  have hl : k < mks.length := h
  rw [mkb, List.getElem?_map, List.getElem?_eq_getElem hl, List.getD_eq_getElem?_getD, List.getElem?_eq_getElem hl]
  rfl
structure LenIs (xs : List UInt8) (m : Nat) : Prop where
  out : bsk xs 23 = m
theorem take_eq {s t : ByteArray} : ((s.extract 0 t.size).toList == t.toList) = true ↔ t.data.toList.isPrefixOf s.data.toList = true := by
  rw [ByteArray.toList_eq, ByteArray.toList_eq, beq_iff_eq, extract_list, List.isPrefixOf_iff_prefix]
  have hz : t.size = t.data.toList.length := rfl
  rw [hz]
  exact ⟨fun h => h ▸ List.take_prefix _ _, fun h => (List.prefix_iff_eq_take.1 h).symm⟩
set_option maxHeartbeats 4000000 in
theorem rmark_any (s : ByteArray) (hs : s.size ≤ 100000) (w : World) : Calls Tryd.prog 48 #[.string s] w fun e w' => e = .returned (.int .i64 (mkl s.data.toList : Nat)) ∧ Grew w w' := by
  have HALL := Lib.hid (LenIs.mk (bsk_all s.data.toList))
  generalize mkl s.data.toList = r at HALL ⊢
  have HS := Lib.hid (fun k h => bsk_succ s.data.toList (k := k) h)
  have HL := Lib.hid (bsk_le s.data.toList)
  have HT := Lib.hid (fun (t : ByteArray) => take_eq (s := s) (t := t))
  have HP := Lib.hid (fun W => rmk_any W)
  go_enter Tryd.func48, Tryd.ntmps48
  go_wp2_with (go_at_call 25; (with_reducible refine (HP.out _).mono ?_); rintro e w1 ⟨p, rfl, hr1, g1⟩; have HX := Lib.hid hr1; have HG1 := Lib.hid g1; clear hr1 g1)
  go_loopg [4, 5] 23 (fun gg nv iv wr => ∃ (k n : Nat), nv = .int .i64 (n : Int) ∧ iv = .int .i64 (k : Int) ∧ k ≤ 23 ∧ gg = 23 - k ∧ n ≤ 2 ∧ Hid (n = bsk s.data.toList k) ∧ Hid (Grew w1 wr))
  case atStart => exact ⟨0, 0, rfl, rfl, by omega, rfl, by omega, Lib.hid rfl, Lib.hid (Grew.refl _)⟩
  case round =>
    obtain ⟨k, n, rfl, rfl, hk, rfl, hn2, HN, HG⟩ := hrel
    by_cases hlt : k < 23
    · have hlen : mkb.length = 23 := rfl
      obtain ⟨b1, o1, rfl, hcc⟩ := (HX.out.kept HG.out).rd.cells (by omega)
      have hc1 := hcc k _ (bsk_mkb hlt)
      have HST := Lib.hid (HS.out k hlt)
      have HLE := Lib.hid (HL.out (k + 1) hlt)
      have HLT := Lib.hid (Nat.succ_le_of_lt hlt)
      obtain ⟨t, ht⟩ : ∃ t : ByteArray, (⟨(mks.getD k []).toArray⟩ : ByteArray) = t := ⟨_, rfl⟩
      have ht2 : mks.getD k [] = t.data.toList := by rw [← ht]
      have ht3 : (mks.getD k []).length = t.size := by rw [← ht]; rfl
      have htl : t.size ≤ 100 := by
        have h3 : ∀ k : Fin 23, (mks.getD k.val []).length ≤ 2 := by decide
        have := h3 ⟨k, hlt⟩
        rw [← ht3]
        exact Nat.le_trans this (by decide)
      rw [ht] at hc1
      rw [ht3, ht2] at HST
      have q0 : Atv ⟨b1, o1 + k, none⟩ (.string t) wr.drew := atv_of (Grew.refl _).drw (by simpa using hc1 0 _ rfl)
      have HTT := Lib.hid (HT.out t)
      clear ht ht2 ht3 hcc hc1 hlen
      by_cases hle : t.size ≤ s.size
      · have h1 : decide ((t.size : Int) ≤ (s.size : Int)) = true := decide_eq_true (by omega)
        cases h2 : ((s.extract 0 t.size).toList == t.toList) with
        | true =>
          by_cases hgt : n < t.size
          · have h3 : decide ((n : Int) < (t.size : Int)) = true := decide_eq_true (by omega)
            have HNX : Hid (t.size = bsk s.data.toList (k + 1)) := Lib.hid (by rw [HST.out, ← HN.out, if_pos ⟨hgt, HTT.out.1 h2⟩])
            have hle2 : t.size ≤ 2 := by rw [HNX.out]; exact HLE.out.2
            go_wp2
            refine wp_posts [some 13, some 14, some 15, some 16, some 17, some 18, some 19, some 20, some 21, some 22, some 23, some 24, some 25, some 26, some 27, some 28, some 29, some 30, some 31, some 32, some 33, some 34, some 35, some 36, some 37, some 38, some 39, some 40, some 41, some 42, some 43] [false, false, false, false, false, false, false, false, false, false, false, false, false, true, true, true, true, true, true, true, true, true, true, true, true, true, true, true, true, true, true, true, true, true, true, true, true, true, true, true, true, true, true, true, false, false, false, false, false, false] [fun v _ => v = .slice (some ⟨b1, o1, none⟩) (23) (23), fun v _ => v = .int .i64 (((k : Nat) : Int)), fun v _ => v = .pointer (some ⟨b1, o1 + k, none⟩), fun v _ => v = .string t, fun v _ => v = .int .i64 ((t.size : Nat) : Int), fun v _ => v = .string s, fun v _ => v = .int .i64 ((s.size : Nat) : Int), fun v _ => v = .bool true, fun v _ => v = .bool (true), fun v _ => v = .string s, fun v _ => v = .slice (some ⟨b1, o1, none⟩) (23) (23), fun v _ => v = .int .i64 (((k : Nat) : Int)), fun v _ => v = .pointer (some ⟨b1, o1 + k, none⟩), fun v _ => v = .string t, fun v _ => v = .int .i64 ((t.size : Nat) : Int), fun v _ => v = .string (s.extract 0 t.size), fun v _ => v = .slice (some ⟨b1, o1, none⟩) (23) (23), fun v _ => v = .int .i64 (((k : Nat) : Int)), fun v _ => v = .pointer (some ⟨b1, o1 + k, none⟩), fun v _ => v = .string t, fun v _ => v = .bool true, fun v _ => v = .bool (true), fun v _ => v = .bool (true), fun v _ => v = .slice (some ⟨b1, o1, none⟩) (23) (23), fun v _ => v = .int .i64 (((k : Nat) : Int)), fun v _ => v = .pointer (some ⟨b1, o1 + k, none⟩), fun v _ => v = .string t, fun v _ => v = .int .i64 ((t.size : Nat) : Int), fun v _ => v = .int .i64 (((n : Nat) : Int)), fun v _ => v = .bool true, fun v _ => v = .bool (true)] (by kernel_rfl) (by kernel_rfl) rfl ?_ ⟨?_, ?_, ?_, ?_, ?_, ?_, ?_, ?_, ?_, ?_, ?_, ?_, ?_, ?_, ?_, ?_, ?_, ?_, ?_, ?_, ?_, ?_, ?_, ?_, ?_, ?_, ?_, ?_, ?_, ?_, ?_, trivial⟩ ?_
            · exact ⟨fun _ _ _ _ h => h, fun _ _ _ _ h => h, fun _ _ _ _ h => h, fun _ _ _ _ h => h, fun _ _ _ _ h => h, fun _ _ _ _ h => h, fun _ _ _ _ h => h, fun _ _ _ _ h => h, fun _ _ _ _ h => h, fun _ _ _ _ h => h, fun _ _ _ _ h => h, fun _ _ _ _ h => h, fun _ _ _ _ h => h, fun _ _ _ _ h => h, fun _ _ _ _ h => h, fun _ _ _ _ h => h, fun _ _ _ _ h => h, fun _ _ _ _ h => h, fun _ _ _ _ h => h, fun _ _ _ _ h => h, fun _ _ _ _ h => h, fun _ _ _ _ h => h, fun _ _ _ _ h => h, fun _ _ _ _ h => h, fun _ _ _ _ h => h, fun _ _ _ _ h => h, fun _ _ _ _ h => h, fun _ _ _ _ h => h, fun _ _ _ _ h => h, fun _ _ _ _ h => h, fun _ _ _ _ h => h, trivial⟩
            · intro u w hR hd; exact runs_mv (ev rfl) ⟨Grew.refl _, rfl⟩
            · intro u w hR hd; exact runs_mv (ev rfl) ⟨Grew.refl _, rfl⟩
            · intro u w hR hd; exact rn_idx_43 (k) (ev (hd.1 rfl)) (ev (hd.2.1 rfl)) (by omega) ⟨Grew.refl _, rfl⟩
            · intro u w hR hd; exact rn_ld_9 (ev (hd.1 rfl)) (q0.kept hR) ⟨Grew.refl _, rfl⟩
            · intro u w hR hd; exact runs_lens (ev (hd.1 rfl)) ⟨Grew.refl _, rfl⟩
            · intro u w hR hd; exact runs_mv (ev rfl) ⟨Grew.refl _, rfl⟩
            · intro u w hR hd; exact runs_lens (ev (hd.1 rfl)) ⟨Grew.refl _, rfl⟩
            · intro u w hR hd; exact runs_les (ev (hd.1 rfl)) (ev (hd.2.1 rfl)) h1 ⟨Grew.refl _, rfl⟩
            · intro u w hR hd; exact runs_mv (ev (hd.1 rfl)) ⟨Grew.refl _, rfl⟩
            · intro u w hR hd; exact ⟨fun _ => runs_mv (ev rfl) ⟨Grew.refl _, rfl⟩, fun hn => absurd (hd.1 rfl) hn⟩
            · intro u w hR hd; exact ⟨fun _ => runs_mv (ev rfl) ⟨Grew.refl _, rfl⟩, fun hn => absurd (hd.1 rfl) hn⟩
            · intro u w hR hd; exact ⟨fun _ => runs_mv (ev rfl) ⟨Grew.refl _, rfl⟩, fun hn => absurd (hd.1 rfl) hn⟩
            · intro u w hR hd; exact ⟨fun _ => rn_idx_43 (k) (ev (hd.1 rfl)) (ev (hd.2.1 rfl)) (by omega) ⟨Grew.refl _, rfl⟩, fun hn => absurd (hd.2.2.1 rfl) hn⟩
            · intro u w hR hd; exact ⟨fun _ => rn_ld_9 (ev (hd.1 rfl)) (q0.kept hR) ⟨Grew.refl _, rfl⟩, fun hn => absurd (hd.2.1 rfl) hn⟩
            · intro u w hR hd; exact ⟨fun _ => runs_lens (ev (hd.1 rfl)) ⟨Grew.refl _, rfl⟩, fun hn => absurd (hd.2.1 rfl) hn⟩
            · intro u w hR hd; exact ⟨fun _ => runs_slh (ev (hd.1 rfl)) (ev (hd.2.1 rfl)) hle ⟨Grew.refl _, rfl⟩, fun hn => absurd (hd.2.2.1 rfl) hn⟩
            · intro u w hR hd; exact ⟨fun _ => runs_mv (ev rfl) ⟨Grew.refl _, rfl⟩, fun hn => absurd (hd.1 rfl) hn⟩
            · intro u w hR hd; exact ⟨fun _ => runs_mv (ev rfl) ⟨Grew.refl _, rfl⟩, fun hn => absurd (hd.1 rfl) hn⟩
            · intro u w hR hd; exact ⟨fun _ => rn_idx_43 (k) (ev (hd.1 rfl)) (ev (hd.2.1 rfl)) (by omega) ⟨Grew.refl _, rfl⟩, fun hn => absurd (hd.2.2.1 rfl) hn⟩
            · intro u w hR hd; exact ⟨fun _ => rn_ld_9 (ev (hd.1 rfl)) (q0.kept hR) ⟨Grew.refl _, rfl⟩, fun hn => absurd (hd.2.1 rfl) hn⟩
            · intro u w hR hd; exact ⟨fun _ => runs_eqs (ev (hd.1 rfl)) (ev (hd.2.1 rfl)) h2 ⟨Grew.refl _, rfl⟩, fun hn => absurd (hd.2.2.1 rfl) hn⟩
            · intro u w hR hd; exact runs_an (ev (hd.1 rfl)) (fun hb => ev ((hd.2.1 rfl))) ⟨Grew.refl _, rfl⟩
            · intro u w hR hd; exact runs_mv (ev (hd.1 rfl)) ⟨Grew.refl _, rfl⟩
            · intro u w hR hd; exact ⟨fun _ => runs_mv (ev rfl) ⟨Grew.refl _, rfl⟩, fun hn => absurd (hd.1 rfl) hn⟩
            · intro u w hR hd; exact ⟨fun _ => runs_mv (ev rfl) ⟨Grew.refl _, rfl⟩, fun hn => absurd (hd.1 rfl) hn⟩
            · intro u w hR hd; exact ⟨fun _ => rn_idx_43 (k) (ev (hd.1 rfl)) (ev (hd.2.1 rfl)) (by omega) ⟨Grew.refl _, rfl⟩, fun hn => absurd (hd.2.2.1 rfl) hn⟩
            · intro u w hR hd; exact ⟨fun _ => rn_ld_9 (ev (hd.1 rfl)) (q0.kept hR) ⟨Grew.refl _, rfl⟩, fun hn => absurd (hd.2.1 rfl) hn⟩
            · intro u w hR hd; exact ⟨fun _ => runs_lens (ev (hd.1 rfl)) ⟨Grew.refl _, rfl⟩, fun hn => absurd (hd.2.1 rfl) hn⟩
            · intro u w hR hd; exact ⟨fun _ => runs_mv (ev rfl) ⟨Grew.refl _, rfl⟩, fun hn => absurd (hd.1 rfl) hn⟩
            · intro u w hR hd; exact ⟨fun _ => runs_gts (ev (hd.1 rfl)) (ev (hd.2.1 rfl)) h3 ⟨Grew.refl _, rfl⟩, fun hn => absurd (hd.2.2.1 rfl) hn⟩
            · intro u w hR hd; exact runs_an (ev (hd.1 rfl)) (fun hb => ev ((hd.2.1 rfl))) ⟨Grew.refl _, rfl⟩
            · intro u w4 hR h
              have he : u 43 = .bool true := h 30 (by decide)
              have HG4 := Lib.hid (HG.out.drw.trans hR)
              have q1 : w4.cell? ⟨b1, o1 + k, none⟩ = some (.string t) := q0.kept hR
              simp only [mixA, mixL, cond_true, cond_false, he]
              clear h he q0 hR
              go_wp2
              go_roundg (23 - (k + 1))
              case measure => have := HLT.out; omega
              case rel => exact ⟨k + 1, t.size, by go_num, by go_num, HLT.out, rfl, hle2, HNX, HG4⟩

          · have h3 : decide ((n : Int) < (t.size : Int)) = false := decide_eq_false (by omega)
            have HNX : Hid (n = bsk s.data.toList (k + 1)) := Lib.hid (by rw [HST.out, ← HN.out, if_neg (fun h => hgt h.1)])
            go_wp2
            refine wp_posts [some 13, some 14, some 15, some 16, some 17, some 18, some 19, some 20, some 21, some 22, some 23, some 24, some 25, some 26, some 27, some 28, some 29, some 30, some 31, some 32, some 33, some 34, some 35, some 36, some 37, some 38, some 39, some 40, some 41, some 42, some 43] [false, false, false, false, false, false, false, false, false, false, false, false, false, true, true, true, true, true, true, true, true, true, true, true, true, true, true, true, true, true, true, true, true, true, true, true, true, true, true, true, true, true, true, true, false, false, false, false, false, false] [fun v _ => v = .slice (some ⟨b1, o1, none⟩) (23) (23), fun v _ => v = .int .i64 (((k : Nat) : Int)), fun v _ => v = .pointer (some ⟨b1, o1 + k, none⟩), fun v _ => v = .string t, fun v _ => v = .int .i64 ((t.size : Nat) : Int), fun v _ => v = .string s, fun v _ => v = .int .i64 ((s.size : Nat) : Int), fun v _ => v = .bool true, fun v _ => v = .bool (true), fun v _ => v = .string s, fun v _ => v = .slice (some ⟨b1, o1, none⟩) (23) (23), fun v _ => v = .int .i64 (((k : Nat) : Int)), fun v _ => v = .pointer (some ⟨b1, o1 + k, none⟩), fun v _ => v = .string t, fun v _ => v = .int .i64 ((t.size : Nat) : Int), fun v _ => v = .string (s.extract 0 t.size), fun v _ => v = .slice (some ⟨b1, o1, none⟩) (23) (23), fun v _ => v = .int .i64 (((k : Nat) : Int)), fun v _ => v = .pointer (some ⟨b1, o1 + k, none⟩), fun v _ => v = .string t, fun v _ => v = .bool true, fun v _ => v = .bool (true), fun v _ => v = .bool (true), fun v _ => v = .slice (some ⟨b1, o1, none⟩) (23) (23), fun v _ => v = .int .i64 (((k : Nat) : Int)), fun v _ => v = .pointer (some ⟨b1, o1 + k, none⟩), fun v _ => v = .string t, fun v _ => v = .int .i64 ((t.size : Nat) : Int), fun v _ => v = .int .i64 (((n : Nat) : Int)), fun v _ => v = .bool false, fun v _ => v = .bool (false)] (by kernel_rfl) (by kernel_rfl) rfl ?_ ⟨?_, ?_, ?_, ?_, ?_, ?_, ?_, ?_, ?_, ?_, ?_, ?_, ?_, ?_, ?_, ?_, ?_, ?_, ?_, ?_, ?_, ?_, ?_, ?_, ?_, ?_, ?_, ?_, ?_, ?_, ?_, trivial⟩ ?_
            · exact ⟨fun _ _ _ _ h => h, fun _ _ _ _ h => h, fun _ _ _ _ h => h, fun _ _ _ _ h => h, fun _ _ _ _ h => h, fun _ _ _ _ h => h, fun _ _ _ _ h => h, fun _ _ _ _ h => h, fun _ _ _ _ h => h, fun _ _ _ _ h => h, fun _ _ _ _ h => h, fun _ _ _ _ h => h, fun _ _ _ _ h => h, fun _ _ _ _ h => h, fun _ _ _ _ h => h, fun _ _ _ _ h => h, fun _ _ _ _ h => h, fun _ _ _ _ h => h, fun _ _ _ _ h => h, fun _ _ _ _ h => h, fun _ _ _ _ h => h, fun _ _ _ _ h => h, fun _ _ _ _ h => h, fun _ _ _ _ h => h, fun _ _ _ _ h => h, fun _ _ _ _ h => h, fun _ _ _ _ h => h, fun _ _ _ _ h => h, fun _ _ _ _ h => h, fun _ _ _ _ h => h, fun _ _ _ _ h => h, trivial⟩
            · intro u w hR hd; exact runs_mv (ev rfl) ⟨Grew.refl _, rfl⟩
            · intro u w hR hd; exact runs_mv (ev rfl) ⟨Grew.refl _, rfl⟩
            · intro u w hR hd; exact rn_idx_43 (k) (ev (hd.1 rfl)) (ev (hd.2.1 rfl)) (by omega) ⟨Grew.refl _, rfl⟩
            · intro u w hR hd; exact rn_ld_9 (ev (hd.1 rfl)) (q0.kept hR) ⟨Grew.refl _, rfl⟩
            · intro u w hR hd; exact runs_lens (ev (hd.1 rfl)) ⟨Grew.refl _, rfl⟩
            · intro u w hR hd; exact runs_mv (ev rfl) ⟨Grew.refl _, rfl⟩
            · intro u w hR hd; exact runs_lens (ev (hd.1 rfl)) ⟨Grew.refl _, rfl⟩
            · intro u w hR hd; exact runs_les (ev (hd.1 rfl)) (ev (hd.2.1 rfl)) h1 ⟨Grew.refl _, rfl⟩
            · intro u w hR hd; exact runs_mv (ev (hd.1 rfl)) ⟨Grew.refl _, rfl⟩
            · intro u w hR hd; exact ⟨fun _ => runs_mv (ev rfl) ⟨Grew.refl _, rfl⟩, fun hn => absurd (hd.1 rfl) hn⟩
            · intro u w hR hd; exact ⟨fun _ => runs_mv (ev rfl) ⟨Grew.refl _, rfl⟩, fun hn => absurd (hd.1 rfl) hn⟩
            · intro u w hR hd; exact ⟨fun _ => runs_mv (ev rfl) ⟨Grew.refl _, rfl⟩, fun hn => absurd (hd.1 rfl) hn⟩
            · intro u w hR hd; exact ⟨fun _ => rn_idx_43 (k) (ev (hd.1 rfl)) (ev (hd.2.1 rfl)) (by omega) ⟨Grew.refl _, rfl⟩, fun hn => absurd (hd.2.2.1 rfl) hn⟩
            · intro u w hR hd; exact ⟨fun _ => rn_ld_9 (ev (hd.1 rfl)) (q0.kept hR) ⟨Grew.refl _, rfl⟩, fun hn => absurd (hd.2.1 rfl) hn⟩
            · intro u w hR hd; exact ⟨fun _ => runs_lens (ev (hd.1 rfl)) ⟨Grew.refl _, rfl⟩, fun hn => absurd (hd.2.1 rfl) hn⟩
            · intro u w hR hd; exact ⟨fun _ => runs_slh (ev (hd.1 rfl)) (ev (hd.2.1 rfl)) hle ⟨Grew.refl _, rfl⟩, fun hn => absurd (hd.2.2.1 rfl) hn⟩
            · intro u w hR hd; exact ⟨fun _ => runs_mv (ev rfl) ⟨Grew.refl _, rfl⟩, fun hn => absurd (hd.1 rfl) hn⟩
            · intro u w hR hd; exact ⟨fun _ => runs_mv (ev rfl) ⟨Grew.refl _, rfl⟩, fun hn => absurd (hd.1 rfl) hn⟩
            · intro u w hR hd; exact ⟨fun _ => rn_idx_43 (k) (ev (hd.1 rfl)) (ev (hd.2.1 rfl)) (by omega) ⟨Grew.refl _, rfl⟩, fun hn => absurd (hd.2.2.1 rfl) hn⟩
            · intro u w hR hd; exact ⟨fun _ => rn_ld_9 (ev (hd.1 rfl)) (q0.kept hR) ⟨Grew.refl _, rfl⟩, fun hn => absurd (hd.2.1 rfl) hn⟩
            · intro u w hR hd; exact ⟨fun _ => runs_eqs (ev (hd.1 rfl)) (ev (hd.2.1 rfl)) h2 ⟨Grew.refl _, rfl⟩, fun hn => absurd (hd.2.2.1 rfl) hn⟩
            · intro u w hR hd; exact runs_an (ev (hd.1 rfl)) (fun hb => ev ((hd.2.1 rfl))) ⟨Grew.refl _, rfl⟩
            · intro u w hR hd; exact runs_mv (ev (hd.1 rfl)) ⟨Grew.refl _, rfl⟩
            · intro u w hR hd; exact ⟨fun _ => runs_mv (ev rfl) ⟨Grew.refl _, rfl⟩, fun hn => absurd (hd.1 rfl) hn⟩
            · intro u w hR hd; exact ⟨fun _ => runs_mv (ev rfl) ⟨Grew.refl _, rfl⟩, fun hn => absurd (hd.1 rfl) hn⟩
            · intro u w hR hd; exact ⟨fun _ => rn_idx_43 (k) (ev (hd.1 rfl)) (ev (hd.2.1 rfl)) (by omega) ⟨Grew.refl _, rfl⟩, fun hn => absurd (hd.2.2.1 rfl) hn⟩
            · intro u w hR hd; exact ⟨fun _ => rn_ld_9 (ev (hd.1 rfl)) (q0.kept hR) ⟨Grew.refl _, rfl⟩, fun hn => absurd (hd.2.1 rfl) hn⟩
            · intro u w hR hd; exact ⟨fun _ => runs_lens (ev (hd.1 rfl)) ⟨Grew.refl _, rfl⟩, fun hn => absurd (hd.2.1 rfl) hn⟩
            · intro u w hR hd; exact ⟨fun _ => runs_mv (ev rfl) ⟨Grew.refl _, rfl⟩, fun hn => absurd (hd.1 rfl) hn⟩
            · intro u w hR hd; exact ⟨fun _ => runs_gts (ev (hd.1 rfl)) (ev (hd.2.1 rfl)) h3 ⟨Grew.refl _, rfl⟩, fun hn => absurd (hd.2.2.1 rfl) hn⟩
            · intro u w hR hd; exact runs_an (ev (hd.1 rfl)) (fun hb => ev ((hd.2.1 rfl))) ⟨Grew.refl _, rfl⟩
            · intro u w4 hR h
              have he : u 43 = .bool false := h 30 (by decide)
              have HG4 := Lib.hid (HG.out.drw.trans hR)
              have q1 : w4.cell? ⟨b1, o1 + k, none⟩ = some (.string t) := q0.kept hR
              simp only [mixA, mixL, cond_true, cond_false, he]
              clear h he q0 hR
              go_wp2
              go_roundg (23 - (k + 1))
              case measure => have := HLT.out; omega
              case rel => exact ⟨k + 1, n, by go_num, by go_num, HLT.out, rfl, hn2, HNX, HG4⟩

        | false =>
          have HNX : Hid (n = bsk s.data.toList (k + 1)) := Lib.hid (by rw [HST.out, ← HN.out, if_neg (fun h => by rw [HTT.out.2 h.2] at h2; cases h2)])
          go_wp2
          refine wp_posts [some 13, some 14, some 15, some 16, some 17, some 18, some 19, some 20, some 21, some 22, some 23, some 24, some 25, some 26, some 27, some 28, some 29, some 30, some 31, some 32, some 33, some 34, some 35, some 36, some 37, some 38, some 39, some 40, some 41, some 42, some 43] [false, false, false, false, false, false, false, false, false, false, false, false, false, true, true, true, true, true, true, true, true, true, true, true, true, true, true, true, true, true, true, true, true, true, true, true, true, true, true, true, true, true, true, true, false, false, false, false, false, false] [fun v _ => v = .slice (some ⟨b1, o1, none⟩) (23) (23), fun v _ => v = .int .i64 (((k : Nat) : Int)), fun v _ => v = .pointer (some ⟨b1, o1 + k, none⟩), fun v _ => v = .string t, fun v _ => v = .int .i64 ((t.size : Nat) : Int), fun v _ => v = .string s, fun v _ => v = .int .i64 ((s.size : Nat) : Int), fun v _ => v = .bool true, fun v _ => v = .bool (true), fun v _ => v = .string s, fun v _ => v = .slice (some ⟨b1, o1, none⟩) (23) (23), fun v _ => v = .int .i64 (((k : Nat) : Int)), fun v _ => v = .pointer (some ⟨b1, o1 + k, none⟩), fun v _ => v = .string t, fun v _ => v = .int .i64 ((t.size : Nat) : Int), fun v _ => v = .string (s.extract 0 t.size), fun v _ => v = .slice (some ⟨b1, o1, none⟩) (23) (23), fun v _ => v = .int .i64 (((k : Nat) : Int)), fun v _ => v = .pointer (some ⟨b1, o1 + k, none⟩), fun v _ => v = .string t, fun v _ => v = .bool false, fun v _ => v = .bool (false), fun v _ => v = .bool (false), fun v _ => v = undef, fun v _ => v = undef, fun v _ => v = undef, fun v _ => v = undef, fun v _ => v = undef, fun v _ => v = undef, fun v _ => v = undef, fun v _ => v = .bool (false)] (by kernel_rfl) (by kernel_rfl) rfl ?_ ⟨?_, ?_, ?_, ?_, ?_, ?_, ?_, ?_, ?_, ?_, ?_, ?_, ?_, ?_, ?_, ?_, ?_, ?_, ?_, ?_, ?_, ?_, ?_, ?_, ?_, ?_, ?_, ?_, ?_, ?_, ?_, trivial⟩ ?_
          · exact ⟨fun _ _ _ _ h => h, fun _ _ _ _ h => h, fun _ _ _ _ h => h, fun _ _ _ _ h => h, fun _ _ _ _ h => h, fun _ _ _ _ h => h, fun _ _ _ _ h => h, fun _ _ _ _ h => h, fun _ _ _ _ h => h, fun _ _ _ _ h => h, fun _ _ _ _ h => h, fun _ _ _ _ h => h, fun _ _ _ _ h => h, fun _ _ _ _ h => h, fun _ _ _ _ h => h, fun _ _ _ _ h => h, fun _ _ _ _ h => h, fun _ _ _ _ h => h, fun _ _ _ _ h => h, fun _ _ _ _ h => h, fun _ _ _ _ h => h, fun _ _ _ _ h => h, fun _ _ _ _ h => h, fun _ _ _ _ h => h, fun _ _ _ _ h => h, fun _ _ _ _ h => h, fun _ _ _ _ h => h, fun _ _ _ _ h => h, fun _ _ _ _ h => h, fun _ _ _ _ h => h, fun _ _ _ _ h => h, trivial⟩
          · intro u w hR hd; exact runs_mv (ev rfl) ⟨Grew.refl _, rfl⟩
          · intro u w hR hd; exact runs_mv (ev rfl) ⟨Grew.refl _, rfl⟩
          · intro u w hR hd; exact rn_idx_43 (k) (ev (hd.1 rfl)) (ev (hd.2.1 rfl)) (by omega) ⟨Grew.refl _, rfl⟩
          · intro u w hR hd; exact rn_ld_9 (ev (hd.1 rfl)) (q0.kept hR) ⟨Grew.refl _, rfl⟩
          · intro u w hR hd; exact runs_lens (ev (hd.1 rfl)) ⟨Grew.refl _, rfl⟩
          · intro u w hR hd; exact runs_mv (ev rfl) ⟨Grew.refl _, rfl⟩
          · intro u w hR hd; exact runs_lens (ev (hd.1 rfl)) ⟨Grew.refl _, rfl⟩
          · intro u w hR hd; exact runs_les (ev (hd.1 rfl)) (ev (hd.2.1 rfl)) h1 ⟨Grew.refl _, rfl⟩
          · intro u w hR hd; exact runs_mv (ev (hd.1 rfl)) ⟨Grew.refl _, rfl⟩
          · intro u w hR hd; exact ⟨fun _ => runs_mv (ev rfl) ⟨Grew.refl _, rfl⟩, fun hn => absurd (hd.1 rfl) hn⟩
          · intro u w hR hd; exact ⟨fun _ => runs_mv (ev rfl) ⟨Grew.refl _, rfl⟩, fun hn => absurd (hd.1 rfl) hn⟩
          · intro u w hR hd; exact ⟨fun _ => runs_mv (ev rfl) ⟨Grew.refl _, rfl⟩, fun hn => absurd (hd.1 rfl) hn⟩
          · intro u w hR hd; exact ⟨fun _ => rn_idx_43 (k) (ev (hd.1 rfl)) (ev (hd.2.1 rfl)) (by omega) ⟨Grew.refl _, rfl⟩, fun hn => absurd (hd.2.2.1 rfl) hn⟩
          · intro u w hR hd; exact ⟨fun _ => rn_ld_9 (ev (hd.1 rfl)) (q0.kept hR) ⟨Grew.refl _, rfl⟩, fun hn => absurd (hd.2.1 rfl) hn⟩
          · intro u w hR hd; exact ⟨fun _ => runs_lens (ev (hd.1 rfl)) ⟨Grew.refl _, rfl⟩, fun hn => absurd (hd.2.1 rfl) hn⟩
          · intro u w hR hd; exact ⟨fun _ => runs_slh (ev (hd.1 rfl)) (ev (hd.2.1 rfl)) hle ⟨Grew.refl _, rfl⟩, fun hn => absurd (hd.2.2.1 rfl) hn⟩
          · intro u w hR hd; exact ⟨fun _ => runs_mv (ev rfl) ⟨Grew.refl _, rfl⟩, fun hn => absurd (hd.1 rfl) hn⟩
          · intro u w hR hd; exact ⟨fun _ => runs_mv (ev rfl) ⟨Grew.refl _, rfl⟩, fun hn => absurd (hd.1 rfl) hn⟩
          · intro u w hR hd; exact ⟨fun _ => rn_idx_43 (k) (ev (hd.1 rfl)) (ev (hd.2.1 rfl)) (by omega) ⟨Grew.refl _, rfl⟩, fun hn => absurd (hd.2.2.1 rfl) hn⟩
          · intro u w hR hd; exact ⟨fun _ => rn_ld_9 (ev (hd.1 rfl)) (q0.kept hR) ⟨Grew.refl _, rfl⟩, fun hn => absurd (hd.2.1 rfl) hn⟩
          · intro u w hR hd; exact ⟨fun _ => runs_eqs (ev (hd.1 rfl)) (ev (hd.2.1 rfl)) h2 ⟨Grew.refl _, rfl⟩, fun hn => absurd (hd.2.2.1 rfl) hn⟩
          · intro u w hR hd; exact runs_an (ev (hd.1 rfl)) (fun hb => ev ((hd.2.1 rfl))) ⟨Grew.refl _, rfl⟩
          · intro u w hR hd; exact runs_mv (ev (hd.1 rfl)) ⟨Grew.refl _, rfl⟩
          · intro u w hR hd; exact ⟨fun hg => absurd ((hd.1 rfl).symm.trans hg) (fun h => by first | cases h | (simp [undef] at h)), fun _ => rfl⟩
          · intro u w hR hd; exact ⟨fun hg => absurd ((hd.1 rfl).symm.trans hg) (fun h => by first | cases h | (simp [undef] at h)), fun _ => rfl⟩
          · intro u w hR hd; exact ⟨fun hg => absurd ((hd.2.2.1 rfl).symm.trans hg) (fun h => by first | cases h | (simp [undef] at h)), fun _ => rfl⟩
          · intro u w hR hd; exact ⟨fun hg => absurd ((hd.2.1 rfl).symm.trans hg) (fun h => by first | cases h | (simp [undef] at h)), fun _ => rfl⟩
          · intro u w hR hd; exact ⟨fun hg => absurd ((hd.2.1 rfl).symm.trans hg) (fun h => by first | cases h | (simp [undef] at h)), fun _ => rfl⟩
          · intro u w hR hd; exact ⟨fun hg => absurd ((hd.1 rfl).symm.trans hg) (fun h => by first | cases h | (simp [undef] at h)), fun _ => rfl⟩
          · intro u w hR hd; exact ⟨fun hg => absurd ((hd.2.2.1 rfl).symm.trans hg) (fun h => by first | cases h | (simp [undef] at h)), fun _ => rfl⟩
          · intro u w hR hd; exact runs_andF (ev (hd.1 rfl)) ⟨Grew.refl _, rfl⟩
          · intro u w4 hR h
            have he : u 43 = .bool false := h 30 (by decide)
            have HG4 := Lib.hid (HG.out.drw.trans hR)
            have q1 : w4.cell? ⟨b1, o1 + k, none⟩ = some (.string t) := q0.kept hR
            simp only [mixA, mixL, cond_true, cond_false, he]
            clear h he q0 hR
            go_wp2
            go_roundg (23 - (k + 1))
            case measure => have := HLT.out; omega
            case rel => exact ⟨k + 1, n, by go_num, by go_num, HLT.out, rfl, hn2, HNX, HG4⟩

      · have h1 : decide ((t.size : Int) ≤ (s.size : Int)) = false := decide_eq_false (by omega)
        have HNX : Hid (n = bsk s.data.toList (k + 1)) := Lib.hid (by rw [HST.out, ← HN.out, if_neg (fun h => hle (List.isPrefixOf_iff_prefix.1 h.2).length_le)])
        go_wp2
        refine wp_posts [some 13, some 14, some 15, some 16, some 17, some 18, some 19, some 20, some 21, some 22, some 23, some 24, some 25, some 26, some 27, some 28, some 29, some 30, some 31, some 32, some 33, some 34, some 35, some 36, some 37, some 38, some 39, some 40, some 41, some 42, some 43] [false, false, false, false, false, false, false, false, false, false, false, false, false, true, true, true, true, true, true, true, true, true, true, true, true, true, true, true, true, true, true, true, true, true, true, true, true, true, true, true, true, true, true, true, false, false, false, false, false, false] [fun v _ => v = .slice (some ⟨b1, o1, none⟩) (23) (23), fun v _ => v = .int .i64 (((k : Nat) : Int)), fun v _ => v = .pointer (some ⟨b1, o1 + k, none⟩), fun v _ => v = .string t, fun v _ => v = .int .i64 ((t.size : Nat) : Int), fun v _ => v = .string s, fun v _ => v = .int .i64 ((s.size : Nat) : Int), fun v _ => v = .bool false, fun v _ => v = .bool (false), fun v _ => v = undef, fun v _ => v = undef, fun v _ => v = undef, fun v _ => v = undef, fun v _ => v = undef, fun v _ => v = undef, fun v _ => v = undef, fun v _ => v = undef, fun v _ => v = undef, fun v _ => v = undef, fun v _ => v = undef, fun v _ => v = undef, fun v _ => v = .bool (false), fun v _ => v = .bool (false), fun v _ => v = undef, fun v _ => v = undef, fun v _ => v = undef, fun v _ => v = undef, fun v _ => v = undef, fun v _ => v = undef, fun v _ => v = undef, fun v _ => v = .bool (false)] (by kernel_rfl) (by kernel_rfl) rfl ?_ ⟨?_, ?_, ?_, ?_, ?_, ?_, ?_, ?_, ?_, ?_, ?_, ?_, ?_, ?_, ?_, ?_, ?_, ?_, ?_, ?_, ?_, ?_, ?_, ?_, ?_, ?_, ?_, ?_, ?_, ?_, ?_, trivial⟩ ?_
        · exact ⟨fun _ _ _ _ h => h, fun _ _ _ _ h => h, fun _ _ _ _ h => h, fun _ _ _ _ h => h, fun _ _ _ _ h => h, fun _ _ _ _ h => h, fun _ _ _ _ h => h, fun _ _ _ _ h => h, fun _ _ _ _ h => h, fun _ _ _ _ h => h, fun _ _ _ _ h => h, fun _ _ _ _ h => h, fun _ _ _ _ h => h, fun _ _ _ _ h => h, fun _ _ _ _ h => h, fun _ _ _ _ h => h, fun _ _ _ _ h => h, fun _ _ _ _ h => h, fun _ _ _ _ h => h, fun _ _ _ _ h => h, fun _ _ _ _ h => h, fun _ _ _ _ h => h, fun _ _ _ _ h => h, fun _ _ _ _ h => h, fun _ _ _ _ h => h, fun _ _ _ _ h => h, fun _ _ _ _ h => h, fun _ _ _ _ h => h, fun _ _ _ _ h => h, fun _ _ _ _ h => h, fun _ _ _ _ h => h, trivial⟩
        · intro u w hR hd; exact runs_mv (ev rfl) ⟨Grew.refl _, rfl⟩
        · intro u w hR hd; exact runs_mv (ev rfl) ⟨Grew.refl _, rfl⟩
        · intro u w hR hd; exact rn_idx_43 (k) (ev (hd.1 rfl)) (ev (hd.2.1 rfl)) (by omega) ⟨Grew.refl _, rfl⟩
        · intro u w hR hd; exact rn_ld_9 (ev (hd.1 rfl)) (q0.kept hR) ⟨Grew.refl _, rfl⟩
        · intro u w hR hd; exact runs_lens (ev (hd.1 rfl)) ⟨Grew.refl _, rfl⟩
        · intro u w hR hd; exact runs_mv (ev rfl) ⟨Grew.refl _, rfl⟩
        · intro u w hR hd; exact runs_lens (ev (hd.1 rfl)) ⟨Grew.refl _, rfl⟩
        · intro u w hR hd; exact runs_les (ev (hd.1 rfl)) (ev (hd.2.1 rfl)) h1 ⟨Grew.refl _, rfl⟩
        · intro u w hR hd; exact runs_mv (ev (hd.1 rfl)) ⟨Grew.refl _, rfl⟩
        · intro u w hR hd; exact ⟨fun hg => absurd ((hd.1 rfl).symm.trans hg) (fun h => by first | cases h | (simp [undef] at h)), fun _ => rfl⟩
        · intro u w hR hd; exact ⟨fun hg => absurd ((hd.1 rfl).symm.trans hg) (fun h => by first | cases h | (simp [undef] at h)), fun _ => rfl⟩
        · intro u w hR hd; exact ⟨fun hg => absurd ((hd.1 rfl).symm.trans hg) (fun h => by first | cases h | (simp [undef] at h)), fun _ => rfl⟩
        · intro u w hR hd; exact ⟨fun hg => absurd ((hd.2.2.1 rfl).symm.trans hg) (fun h => by first | cases h | (simp [undef] at h)), fun _ => rfl⟩
        · intro u w hR hd; exact ⟨fun hg => absurd ((hd.2.1 rfl).symm.trans hg) (fun h => by first | cases h | (simp [undef] at h)), fun _ => rfl⟩
        · intro u w hR hd; exact ⟨fun hg => absurd ((hd.2.1 rfl).symm.trans hg) (fun h => by first | cases h | (simp [undef] at h)), fun _ => rfl⟩
        · intro u w hR hd; exact ⟨fun hg => absurd ((hd.2.2.1 rfl).symm.trans hg) (fun h => by first | cases h | (simp [undef] at h)), fun _ => rfl⟩
        · intro u w hR hd; exact ⟨fun hg => absurd ((hd.1 rfl).symm.trans hg) (fun h => by first | cases h | (simp [undef] at h)), fun _ => rfl⟩
        · intro u w hR hd; exact ⟨fun hg => absurd ((hd.1 rfl).symm.trans hg) (fun h => by first | cases h | (simp [undef] at h)), fun _ => rfl⟩
        · intro u w hR hd; exact ⟨fun hg => absurd ((hd.2.2.1 rfl).symm.trans hg) (fun h => by first | cases h | (simp [undef] at h)), fun _ => rfl⟩
        · intro u w hR hd; exact ⟨fun hg => absurd ((hd.2.1 rfl).symm.trans hg) (fun h => by first | cases h | (simp [undef] at h)), fun _ => rfl⟩
        · intro u w hR hd; exact ⟨fun hg => absurd ((hd.2.2.1 rfl).symm.trans hg) (fun h => by first | cases h | (simp [undef] at h)), fun _ => rfl⟩
        · intro u w hR hd; exact runs_andF (ev (hd.1 rfl)) ⟨Grew.refl _, rfl⟩
        · intro u w hR hd; exact runs_mv (ev (hd.1 rfl)) ⟨Grew.refl _, rfl⟩
        · intro u w hR hd; exact ⟨fun hg => absurd ((hd.1 rfl).symm.trans hg) (fun h => by first | cases h | (simp [undef] at h)), fun _ => rfl⟩
        · intro u w hR hd; exact ⟨fun hg => absurd ((hd.1 rfl).symm.trans hg) (fun h => by first | cases h | (simp [undef] at h)), fun _ => rfl⟩
        · intro u w hR hd; exact ⟨fun hg => absurd ((hd.2.2.1 rfl).symm.trans hg) (fun h => by first | cases h | (simp [undef] at h)), fun _ => rfl⟩
        · intro u w hR hd; exact ⟨fun hg => absurd ((hd.2.1 rfl).symm.trans hg) (fun h => by first | cases h | (simp [undef] at h)), fun _ => rfl⟩
        · intro u w hR hd; exact ⟨fun hg => absurd ((hd.2.1 rfl).symm.trans hg) (fun h => by first | cases h | (simp [undef] at h)), fun _ => rfl⟩
        · intro u w hR hd; exact ⟨fun hg => absurd ((hd.1 rfl).symm.trans hg) (fun h => by first | cases h | (simp [undef] at h)), fun _ => rfl⟩
        · intro u w hR hd; exact ⟨fun hg => absurd ((hd.2.2.1 rfl).symm.trans hg) (fun h => by first | cases h | (simp [undef] at h)), fun _ => rfl⟩
        · intro u w hR hd; exact runs_andF (ev (hd.1 rfl)) ⟨Grew.refl _, rfl⟩
        · intro u w4 hR h
          have he : u 43 = .bool false := h 30 (by decide)
          have HG4 := Lib.hid (HG.out.drw.trans hR)
          have q1 : w4.cell? ⟨b1, o1 + k, none⟩ = some (.string t) := q0.kept hR
          simp only [mixA, mixL, cond_true, cond_false, he]
          clear h he q0 hR
          go_wp2
          go_roundg (23 - (k + 1))
          case measure => have := HLT.out; omega
          case rel => exact ⟨k + 1, n, by go_num, by go_num, HLT.out, rfl, hn2, HNX, HG4⟩

    · obtain rfl : k = 23 := by omega
      have HR : Hid (n = r) := Lib.hid (by rw [HN.out, HALL.out.out])
      go_wp2
      go_ret
      exact ⟨ret_i64 (by rw [HR.out]), HG1.out.trans HG.out⟩
end Go.Proofs.YtcajamgajchheaaDoor
