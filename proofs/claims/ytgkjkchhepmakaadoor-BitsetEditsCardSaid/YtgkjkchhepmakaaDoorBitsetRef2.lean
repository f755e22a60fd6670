/-
  CONTRACTS OF THE REFERENCE OF LAYER 4 (bitset), FURTHER: With.
-/
import Derived.Test.YtgkjkchhepmakaaDoorBitsetRef
namespace Go.Proofs.YtgkjkchhepmakaaDoor
open Go.RowKit Go.IntWalk

set_option maxRecDepth 20000 in
set_option maxHeartbeats 1000000 in
theorem rwith_any (p : Option Addr) (n c : Nat) (l : List Int) (z : Int) (w : World) (hl : l.length = n) (hs : n ≤ 4294967296) (h : Rd iv w p c l) :
    Calls Tryd.prog 28 #[.slice p n c, .int .i64 z] w fun e w' => ∃ r k j, e = .returned (.slice r k j) ∧ k = (insZ l z).length ∧ Rd iv w' r j (insZ l z) ∧ Below w.heap.size w w' := by
  subst hl
  have hcap := h.cap
  have hmax := h.max
  have hself : okZ z = false ∨ l.contains z = true → insZ l z = l := fun e => by
    unfold insZ
    rcases e with e | e <;> simp only [e] <;> simp
  have hput : okZ z = true → l.contains z = false → insZ l z = putZ l z := fun e1 e2 => by
    unfold insZ
    rw [e1, e2]; rfl
  go_enter Tryd.func28, Tryd.ntmps28
  go_wp2_with (first
    | (go_at_call 41; (with_reducible refine (valid_any z _).mono ?_); rintro e w1 ⟨rfl, rfl⟩)
    | (go_at_call 17; (with_reducible refine (rhas_any _ _ _ l z _ rfl h).mono ?_); rintro e w1 ⟨rfl, rfl⟩))
  · go_ret
    have e := hself (.inr (by simpa using ‹z ∈ l›))
    rw [e]
    exact ⟨p, _, c, rfl, rfl, h, Below.refl _ _⟩
  · have hz1 : okZ z = true := by assumption
    have hz2 : l.contains z = false := by simpa using ‹¬z ∈ l›
    have hputH := Lib.hid (hput hz1 hz2)
    clear hself hput
    have hput := hputH
    clear hputH
    go_loopw [5] (fun v wr => ∃ k : Nat, v = .int .i64 (k : Int) ∧ k ≤ l.length ∧ Hid (∀ i, i < k → l.getD i 0 < z) ∧ wr = w) (fun v _ => l.length - (intOf v).toNat)
    case atStart => exact ⟨0, rfl, Nat.zero_le _, fun i hi => by omega, rfl⟩
    case round =>
      obtain ⟨k, rfl, hk, hall, rfl⟩ := hrel
      have hcap2 := hcap
      rcases Nat.lt_or_ge k l.length with hlt | hge
      · by_cases hlo : l.getD k 0 < z
        · obtain ⟨b, o, rfl, -⟩ := h.cells (by omega)
          have hcell := h.int k hlt
          have hlo2 := Lib.hid hlo
          generalize l.getD k 0 = y at hcell hlo
          go_wp2
          refine ⟨⟨k + 1, by simp, hlt, Lib.hid fun i hi => ?_, trivial⟩, by simp [intOf]; omega⟩
          rcases Nat.lt_or_ge i k with h1 | h1
          · exact hall.out i h1
          · obtain rfl : i = k := by omega
            exact hlo2.out
        · have hins := Lib.hid (show insZ l z = l.take k ++ z :: l.drop k by
            have e := while_step l z k hlt hall.out hlo
            rw [hput.out]; unfold putZ; rw [e.1, e.2])
          obtain ⟨b, o, rfl, -⟩ := h.cells (by omega)
          have hcell := h.int k hlt
          generalize l.getD k 0 = y at hcell hlo
          have hc0 : ¬ c = 0 := by omega
          have hck : ¬ c = k := by omega
          have hr4 := Lib.hid (show ∀ w1, Rd iv w1 (some ⟨b, o, none⟩) c l → Rd iv w1 (some ⟨b, o + k, none⟩) (c - k) (l.drop k) from fun w1 hr => by
            have := hr.cut0 k l.length (by omega) (Nat.le_refl _)
            rw [if_neg hck, List.take_length, Option.map_some, Go.WideShapes.add_plain, Nat.mul_one] at this
            exact this)
          go_wp2_with (first
            | (at_builtin; refine wpList_append_encs rfl (.tmp 30) (.tmp 33) 22 rfl iv_one wr.heap.size 3 _ 8 Tryd.underlying22 info_int rfl _ [] rfl (Ow.lit iv wr [] 0 wr.heap.size 3 _ rfl rfl (by omega) (Nat.le_refl _)) _ k c (l.take k) rfl (by first | (simp; done) | (simp; omega)) ((h.upto k hk).kept ((Below.refl _ _).alloc (Nat.le_refl _) _)) (by first | (simp; done) | (simp; omega)) (by first | (simp; done) | (simp; omega)) (size_alloc_ge _ (Nat.le_refl _)) ?_; intro p2 c2 ys w2 hy ho2 hb2'; have hb2 := Lib.hid (((Below.refl wr.heap.size wr).alloc (Nat.le_refl _) _).trans hb2'); clear hb2'; have hyl : ys.length = k := (by have e := congrArg List.length hy.out; simp at e; omega); rw [hyl] at ho2)
            | (at_builtin; refine wpList_append_encs rfl (.tmp 35) (.tmp 37) 22 rfl iv_one wr.heap.size 3 _ 8 Tryd.underlying22 info_int rfl _ ys rfl (ho2.alloc _) _ 1 1 [z] rfl rfl (Rd.made iv _ [z] 1 _ _ _ rfl rfl (by omega)) (by first | (simp; done) | (simp; omega)) (by first | (simp; done) | (simp; omega)) (size_alloc_ge _ hb2.out.size) ?_; intro p3 c3 us w3 hu ho3 hb3'; have hb3 := Lib.hid ((hb2.out.alloc hb2.out.size _).trans hb3'); clear hb3'; have hul : us.length = k + 1 := (by have e := congrArg List.length hu.out; simp at e; omega); rw [hul] at ho3)
            | (at_builtin; refine wpList_append_encs rfl (.tmp 39) (.tmp 42) 22 rfl iv_one wr.heap.size 3 _ 8 Tryd.underlying22 info_int rfl _ us rfl ho3 _ (l.length - k) (c - k) (l.drop k) rfl List.length_drop (hr4.out _ (h.kept hb3.out)) (by first | (simp; done) | (simp; omega)) (by first | (simp; done) | (simp; omega)) hb3.out.size ?_; intro p5 c5 ts w5 ht ho5 hb5))
          go_ret
          have hfin : ts = insZ l z := by rw [ht.out, hu.out, hy.out, hins.out]; simp
          exact ⟨p5, _, c5, rfl, by rw [hfin], by rw [← hfin]; exact ho5.rd.2, hb3.out.trans hb5⟩
      · have hins := Lib.hid (show insZ l z = l.take k ++ z :: l.drop k by
          have hkl : k = l.length := by omega
          subst hkl
          have e := while_all l z hall.out
          rw [hput.out]; unfold putZ; rw [e.1, e.2, List.take_length, List.drop_length])
        go_wp2_with (first
          | (refine wpList_top rfl (.tmp 31) 22 (.tmp 32) rfl under_ints size_int _ l.length c (by rfl) hcap _ k (by rfl) hk ?_)
          | (at_builtin; refine wpList_append_encs rfl (.tmp 30) (.tmp 33) 22 rfl iv_one wr.heap.size 3 _ 8 Tryd.underlying22 info_int rfl _ [] rfl (Ow.lit iv wr [] 0 wr.heap.size 3 _ rfl rfl (by omega) (Nat.le_refl _)) _ k c (l.take k) rfl (by first | (simp; done) | (simp; omega)) ((h.upto k hk).kept ((Below.refl _ _).alloc (Nat.le_refl _) _)) (by first | (simp; done) | (simp; omega)) (by first | (simp; done) | (simp; omega)) (size_alloc_ge _ (Nat.le_refl _)) ?_; intro p2 c2 ys w2 hy ho2 hb2'; have hb2 := Lib.hid (((Below.refl wr.heap.size wr).alloc (Nat.le_refl _) _).trans hb2'); clear hb2'; have hyl : ys.length = k := (by have e := congrArg List.length hy.out; simp at e; omega); rw [hyl] at ho2)
          | (at_builtin; refine wpList_append_encs rfl (.tmp 35) (.tmp 37) 22 rfl iv_one wr.heap.size 3 _ 8 Tryd.underlying22 info_int rfl _ ys rfl (ho2.alloc _) _ 1 1 [z] rfl rfl (Rd.made iv _ [z] 1 _ _ _ rfl rfl (by omega)) (by first | (simp; done) | (simp; omega)) (by first | (simp; done) | (simp; omega)) (size_alloc_ge _ hb2.out.size) ?_; intro p3 c3 us w3 hu ho3 hb3'; have hb3 := Lib.hid ((hb2.out.alloc hb2.out.size _).trans hb3'); clear hb3'; have hul : us.length = k + 1 := (by have e := congrArg List.length hu.out; simp at e; omega); rw [hul] at ho3)
          | (refine wpList_tail rfl (.tmp 40) 22 (.tmp 41) rfl under_ints size_int _ l.length c (by rfl) _ k (by rfl) hk ?_; intro p4 c4 m4 hm4 hr4; obtain rfl := hm4)
          | (at_builtin; refine wpList_append_encs rfl (.tmp 39) (.tmp 42) 22 rfl iv_one wr.heap.size 3 _ 8 Tryd.underlying22 info_int rfl _ us rfl ho3 _ (l.length - k) c4 (l.drop k) rfl List.length_drop (hr4.out _ iv l _ rfl (h.kept hb3.out)) (by first | (simp; done) | (simp; omega)) (by first | (simp; done) | (simp; omega)) hb3.out.size ?_; intro p5 c5 ts w5 ht ho5 hb5))
        go_ret
        have hfin : ts = insZ l z := by rw [ht.out, hu.out, hy.out, hins.out]; simp
        exact ⟨p5, _, c5, rfl, by rw [hfin], by rw [← hfin]; exact ho5.rd.2, hb3.out.trans hb5⟩
  · go_ret
    have e := hself (.inl (by simpa using ‹¬okZ z = true›))
    rw [e]
    exact ⟨p, _, c, rfl, rfl, h, Below.refl _ _⟩
end Go.Proofs.YtgkjkchhepmakaaDoor
