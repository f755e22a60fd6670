/-
  LAYER 6 (deadlinequeue): the statements' Sorts.
-/
import Derived.Test.YtjcoghjkjnhljaaDqSort
namespace Go.Proofs.Ytjcoghjkjnhljaa
open Go Go.RowKit Go.IntWalk Go.Sort
set_option maxRecDepth 8000
set_option linter.unusedSimpArgs false

/-- The map at b is as it was, or as it will be; nothing else changes. -/
structure RM (b s0 : Nat) (f0 : Int → Option Bool) (s1 : Nat) (f1 : Int → Option Bool) (w w' : World) : Prop where
  chg : Chg w w' (fun k => k = b)
  fst : MapB w b s0 f0 ∨ MapB w b s1 f1 → MapB w' b s0 f0 ∨ MapB w' b s1 f1
  snd : MapB w b s1 f1 → MapB w' b s1 f1
theorem RM.refl (b s0 : Nat) (f0 : Int → Option Bool) (s1 : Nat) (f1 : Int → Option Bool) (w : World) : RM b s0 f0 s1 f1 w w := ⟨Chg.refl _ _, id, id⟩
theorem RM.trans {b s0 s1 : Nat} {f0 f1 : Int → Option Bool} {x y z : World} (h : RM b s0 f0 s1 f1 x y) (h' : RM b s0 f0 s1 f1 y z) : RM b s0 f0 s1 f1 x z := ⟨h.chg.trans h'.chg, fun e => h'.fst (h.fst e), fun e => h'.snd (h.snd e)⟩
theorem Bx.rm {b s0 s1 g o : Nat} {f0 f1 : Int → Option Bool} {x : It} {w w' : World} (h : Bx g o x w) (hR : RM b s0 f0 s1 f1 w w') (hg : g ≠ b) : Bx g o x w' :=
  h.keepB (hR.chg.block g (World.block_lt_of_cell? _ _ h.1) hg)
theorem Below.chgN {N S : Nat} {w w1 w2 : World} (h : Below N w w1) (hc : Chg w1 w2 (fun k => k = S)) (hS : N ≤ S) (hs : N ≤ w1.heap.size) : Below N w w2 :=
  Below.trans h (⟨hc.os, hc.tape, hc.output, hc.size, fun k hk => hc.block k (by omega) (fun e => by omega)⟩ : Below N w1 w2)
section
variable {dst : Option Tmp} {ty : TypeId} {pos : String} {after : Array Edge} {g : Option (Nat × Bool)} {a : Act} {w : World} {T : Value → World → Prop}
theorem runs_updRM {x y b s0 s1 : Nat} {i : Int} {f0 f1 : Int → Option Bool} (hx : a.eval (.tmp x) = .map (some b)) (hy : a.eval (.tmp y) = .int .i64 i) (hM : MapB w b s0 f0 ∨ MapB w b s1 f1) (hi : In64 i) (h0 : s0 < maxLen) (h1 : s1 < maxLen)
    (hs : s1 = if (f0 i).isSome then s0 else s0 + 1) (hf : f1 = fun j => if j = i then some true else f0 j) (h : ∀ w', MapB w' b s1 f1 → RM b s0 f0 s1 f1 w w' → T undef w') : Runs Try.prog ⟨dst, .mapUpdate 43 (.tmp x) (.tmp y) (.const (.bool true)), ty, pos, after, g⟩ a w T := by
  have key : ∀ s f, MapB w b s f → s < maxLen → (if (f i).isSome then s else s + 1) = s1 → (fun j => if j = i then some true else f j) = f1 → Runs Try.prog ⟨dst, .mapUpdate 43 (.tmp x) (.tmp y) (.const (.bool true)), ty, pos, after, g⟩ a w T := fun s f hm hl e1 e2 => by
    obtain ⟨w', hrun, h1, h2⟩ := MapG.store Try.underlying3 Try.underlying43 hm hl hi (v := true) trivial
    rw [e1, e2] at h1
    refine Runs.skip (w' := w') ?_ (h w' h1 ⟨Chg.of_turned h2, fun _ => .inr h1, fun _ => h1⟩)
    have hrun' : Sem.run Try.prog (Instr.mapUpdate 43 (.map (some b)) (.int .i64 i) (.bool true)) w = .ok () w' := hrun
    simp only [execOp, hx, hy]
    have hc : a.eval (.const (.bool true)) = .bool true := rfl
    simp [hc, hrun', Result.andThen]
  rcases hM with hm | hm
  · exact key s0 f0 hm h0 hs.symm hf.symm
  · refine key s1 f1 hm h1 ?_ ?_
    · rw [hf]; simp
    · funext j
      rw [hf]
      by_cases hj : j = i <;> simp [hj]
end
/-- The item that was popped last. -/
def lastOf (L : List It) (k : Nat) : It := if k = 0 then (0, 0) else L.getD (k - 1) (0, 0)
theorem lastOf_succ (L : List It) (k : Nat) : lastOf L (k + 1) = L.getD k (0, 0) := rfl
set_option maxHeartbeats 16000000 in
theorem sorts_any (p : Option Addr) (n c : Nat) (xs : List Opx) (w : World) (hl : xs.length = n) (h : RdO w p c xs) (hok : opOk xs) :
    Calls Try.prog 4 #[.slice p n c] w fun e w' => e = .returned (.bool true) ∧ Below w.heap.size w w' := by
  subst hl
  have HO := Lib.hid h
  have Hok := Lib.hid hok
  have hmm := @run_makeMap Try.prog
  clear h hok
  by_cases hn : xs.length ≤ 60
  · have hn' : ¬ ((60 : Int) < (xs.length : Int)) := by omega
    have hil : (itsOf xs).length = xs.length := by simp [itsOf]
    have Hil := Lib.hid hil
    clear hil
    go_enter Try.func4, Try.ntmps4
    go_wp2_with (go_at_call 10; (with_reducible refine (new_any _).mono ?_); rintro e w1 ⟨rfl, q1, g1⟩; have Q1 := Lib.hid q1; have G1 := Lib.hid g1; clear q1 g1)
    obtain ⟨q, hq⟩ : ∃ q, q = w.heap.size := ⟨_, rfl⟩
    rw [← hq] at Q1 ⊢
    have Hq := Lib.hid hq
    clear hq hn'
    go_loopg [29] xs.length (fun gg iv wr => ∃ (k : Nat), iv = .int .i64 (k : Int) ∧ k ≤ xs.length ∧ gg = xs.length - k ∧ Hid (QRep wr q (((itsOf xs).take k).foldl pushL [])) ∧ Hid (Below w.heap.size w wr))
    case atStart => exact ⟨0, rfl, Nat.zero_le _, rfl, Q1, G1⟩
    case round =>
      obtain ⟨k, rfl, hk, rfl, hS, hB⟩ := hrel
      by_cases hlt : k < xs.length
      · have hrk := HO.out.kept hB.out
        obtain ⟨bb, o, rfl, hx0, hx1, hx2⟩ := hrk.at hlt
        have Hin := Lib.hid (Hok.out.at hlt).1
        have hft := foldl_take (itsOf xs) k (by rw [Hil.out]; exact hlt)
        rw [itsOf_at xs k hlt] at hft
        generalize xs.getD k (0, 0, 0) = x at hx0 hx1 hx2 Hin hft
        obtain ⟨x1, x2, x3⟩ := x
        simp only [] at hx0 hx1 hx2 Hin hft
        have hlen : (((itsOf xs).take k).foldl pushL []).length < 1000000 := by
          have := foldl_len ((itsOf xs).take k) []
          simp at this
          omega
        have Hft := Lib.hid hft
        have Hlen := Lib.hid hlen
        have hqs := hS.out.lt
        clear hrk hft hlen
        go_wp2_with (go_at_call 18; (with_reducible refine (push_any q _ (x2, x3) _ (hS.out.grew (Grew.alloc (Grew.refl wr) _)) Hin.out Hlen.out).mono ?_); rintro e w2 ⟨rfl, s2, o2⟩; rw [← Hft.out] at s2; have S2 := Lib.hid s2; have B2 := Lib.hid ((Below.alloc hB.out (Below.size hB.out) _).trans ((hS.out.grew (Grew.alloc (Grew.refl wr) _)).below o2 (Nat.le_trans (Below.size hB.out) (by simp)) (by rw [← Hq.out]; exact Nat.le_refl _))); clear s2 o2)
        go_roundg (xs.length - (k + 1))
        case measure => omega
        case rel => exact ⟨k + 1, by go_num, by omega, rfl, S2, B2⟩
      · obtain rfl : k = xs.length := by omega
        have hall : ∀ k, k < xs.length → hasId (xs.getD k (0, 0, 0)).2.1 ((itsOf xs).foldl pushL []) = true := has_all xs
        rw [← Hil.out, List.take_length] at hS
        have hLl : ((itsOf xs).foldl pushL []).length ≤ 60 := by
          have := foldl_len (itsOf xs) []
          rw [Hil.out] at this
          simp at this
          omega
        generalize (itsOf xs).foldl pushL [] = L at hS hall hLl
        have Hall := Lib.hid hall
        have HIds := Lib.hid hS.out.ids
        have HSrt := Lib.hid hS.out.srt
        have HI64 := Lib.hid hS.out.in64
        obtain ⟨l, hle⟩ : ∃ l, l = L.length := ⟨_, rfl⟩
        have Hlen : Hid (Calls Try.prog 14 #[.pointer (some ⟨q, 0, none⟩)] wr fun e w' => e = .returned (.int .i64 (l : Int)) ∧ wr = w') := Lib.hid (by have := len_any q L wr hS.out; rwa [← hle] at this)
        rw [← hle] at hLl
        have Hle := Lib.hid hle
        clear hle hall hk
        go_wp2_with (go_at_call 14; (with_reducible refine (Hlen.out).mono ?_); rintro e _ ⟨rfl, rfl⟩; have tk := trivial)
        have gW : Grew wr ((wr.alloc (.cells #[.int .i64 0, .int .i64 0] 32)).alloc (.map #[] 0)) := ((Grew.refl wr).alloc _).alloc _
        have hs1 : (wr.alloc (.cells #[.int .i64 0, .int .i64 0] 32)).heap.size = wr.heap.size + 1 := by simp
        have hM := MapG.made (P := Try.prog) (k := 3) (E := elmBool Try.underlying4 zero_bool) (wr.alloc (.cells #[.int .i64 0, .int .i64 0] 32))
        rw [hs1] at hM
        have hSt : Sorting ((wr.alloc (.cells #[.int .i64 0, .int .i64 0] 32)).alloc (.map #[] 0)) q (wr.heap.size + 1) wr.heap.size 0 L [] (0, 0) :=
          ⟨hS.out.grew gW, hM, hS.out.apartS gW (by omega), ⟨⟨by go_simp, by go_simp⟩, by go_simp, by go_simp, Nat.zero_le _⟩, hS.out.apartS gW (Nat.le_refl _), by omega⟩
        have HSt := Lib.hid hSt
        have HBW := Lib.hid (hB.out.trans (Below.mono gW (Below.size hB.out)))
        have HN0 := Lib.hid (show (w.heap.size ≤ wr.heap.size + 1 ∧ w.heap.size ≤ wr.heap.size) from ⟨Nat.le_succ_of_le (Below.size hB.out), Below.size hB.out⟩)
        have HWs := Lib.hid (show wr.heap.size + 2 ≤ ((wr.alloc (.cells #[.int .i64 0, .int .i64 0] 32)).alloc (.map #[] 0)).heap.size by simp)
        clear hS hB gW hs1 hM hSt Hlen hmm
        generalize World.alloc (World.alloc wr _) _ = W at HSt HBW HWs ⊢
        generalize hbe : wr.heap.size + 1 = b at HSt HN0 ⊢
        generalize hSe : wr.heap.size = S at HSt HN0 HWs ⊢
        have HbS := Lib.hid (show b < W.heap.size ∧ S < W.heap.size by have := HWs.out; omega)
        clear hbe hSe HWs
        go_loopg [45] l (fun gg iv wr => ∃ (k : Nat), iv = .int .i64 (k : Int) ∧ k ≤ l ∧ gg = l - k ∧ Hid (Sorting wr q b S k (L.drop k) (L.take k) (lastOf L k)) ∧ Hid (Below w.heap.size w wr))
        case atStart => exact ⟨0, rfl, Nat.zero_le _, rfl, HSt, HBW⟩
        case round =>
          obtain ⟨k, rfl, hk, rfl, hS, hB⟩ := hrel
          by_cases hlt : k < l
          · have hkL : k < L.length := by rw [← Hle.out]; exact hlt
            have hpop := pop_any q (L.drop k) wr hS.out.rep (by have := Hle.out; simp; omega)
            obtain ⟨e1, e2, e3⟩ := first_drop L k hkL
            rw [e1, e2, e3] at hpop
            have hfr := ids_fresh HIds.out k hkL
            have htk := take_snocI L k hkL
            have hx64 := HI64.out (L.getD k (0, 0)) (by simp [List.getD, hkL])
            have hsn := seenF_snoc (L.take k) (L.getD k (0, 0))
            rw [← htk] at hsn
            have HF2 := Lib.hid (show L.getD k (0, 0) = L.getD k (0, 0) from rfl)
            have hbf : ∀ j, k = j + 1 → bef (L.getD j (0, 0)) (L.getD k (0, 0)) = true := fun j e => by subst e; exact srt_step HSrt.out HIds.out j hkL
            rw [show (Hid (L.getD k (0, 0) = L.getD k (0, 0))) = Hid (L.getD k (0, 0) = L.getD k (0, 0)) from rfl] at HF2
            clear e1 e2 e3 htk
            obtain ⟨x, hxe⟩ : ∃ x, x = L.getD k (0, 0) := ⟨_, rfl⟩
            rw [← hxe] at hpop hfr hx64 hsn hbf
            clear HF2
            obtain ⟨x1, x2⟩ := x
            have HF2 := Lib.hid hxe.symm
            have HP := Lib.hid hpop
            simp only [] at hfr hx64 hsn
            obtain ⟨f0, hf0⟩ : ∃ f0, f0 = seenF (L.take k) := ⟨_, rfl⟩
            obtain ⟨f1, hf1⟩ : ∃ f1, f1 = seenF (L.take (k + 1)) := ⟨_, rfl⟩
            have hn0 : f0 x1 = none := by rw [hf0]; unfold seenF; rw [hfr]; rfl
            rw [← hf0, ← hf1] at hsn
            have HF := Lib.hid (show f0 = seenF (L.take k) ∧ f1 = seenF (L.take (k + 1)) ∧ In64 x1 ∧ (k + 1 = if (f0 x1).isSome then k else k + 1) ∧ f1 = fun j => if j = x1 then some true else f0 j from ⟨hf0, hf1, hx64, by rw [hn0]; rfl, hsn.symm⟩)
            have Hn0 := Lib.hid hn0
            have Hbf := Lib.hid hbf
            clear hpop hfr hx64 hsn hxe hf0 hf1 hn0 hbf hkL
            have hlook : ∀ V, MapB V b k f0 → (Instr.lookup 43 (.map (some b)) (.int .i64 x1) false).run Try.prog V = .ok (.bool false) V := fun V hV => by
              have := MapG.look Try.underlying3 Try.underlying43 hV HF.out.2.2.1
              rw [Hn0.out] at this
              exact this
            have Hlook := Lib.hid hlook
            clear hlook
            have HbW := Lib.hid (show b < wr.heap.size ∧ S < wr.heap.size from ⟨MapG.lt hS.out.map, World.block_lt_of_cell? _ _ hS.out.last.bx.1⟩)
            obtain ⟨ll, hll⟩ : ∃ ll, ll = lastOf L k := ⟨_, rfl⟩
            rw [← hll] at hS
            have HZ : Hid (0 < k → bef ll (x1, x2) = true) := Lib.hid fun h0 => by
              rw [hll]
              unfold lastOf
              rw [if_neg (by omega)]
              exact Hbf.out (k - 1) (by omega)
            clear hll Hbf
            obtain ⟨l1, l2⟩ := ll
            by_cases hz : (0 : Int) < (k : Int)
            · have HZ' := Lib.hid (HZ.out (by omega))
              clear HZ
              go_wp2_with (first
                | (go_at_call 19; (with_reducible refine (HP.out).mono ?_); rintro e w2 ⟨rfl, r2, o2⟩; have S2 := Lib.hid (hS.out.off o2 r2); have B2 := Lib.hid (hB.out.trans (hS.out.rep.below o2 (Below.size hB.out) (by rw [← Hq.out]; exact Nat.le_refl _))); have Z2 := Lib.hid o2.size; have HX2 := Lib.hid (show Bx w2.heap.size 0 (x1, x2) (w2.alloc (.cells #[.int .i64 x1, .int .i64 x2] 32)) from ⟨by go_simp, by go_simp⟩); have hlk := Hlook.out (w2.alloc (.cells #[.int .i64 x1, .int .i64 x2] 32)) (by have := (S2.out.grew ((Grew.refl w2).alloc (.cells #[.int .i64 x1, .int .i64 x2] 32))).map; rw [← HF.out.1] at this; exact this); clear r2 o2; have z0 := S2.out.last.bx.1; have z1 := S2.out.last.bx.2; have zS := World.block_lt_of_cell? _ _ z0; simp only [] at z0 z1 zS)
                | (go_at_call 20; (with_reducible refine (before_any (l1, l2) (x1, x2) _).mono ?_); rintro e V ⟨rfl, gV0⟩; rw [HZ'.out]; have gV := Lib.hid (((Grew.refl w2).alloc (.cells #[.int .i64 x1, .int .i64 x2] 32)).trans gV0); have HX3 := Lib.hid (HX2.out.grew gV0); clear gV0))
              have HS3 := Lib.hid (S2.out.grew gV.out)
              have HB3 := Lib.hid (B2.out.trans (Below.mono gV.out (Below.size B2.out)))
              have HN := Lib.hid (show (w.heap.size ≤ b ∧ w.heap.size ≤ S) ∧ w2.heap.size ≠ b ∧ True from ⟨HN0.out, by have := HbW.out; have := Z2.out; omega, trivial⟩)
              clear gV HX2 hlk z0 z1 zS
              generalize w2.heap.size = T at HX3 HN ⊢
              have hX := HX3.out.grew (Grew.drew V)
              have hM0 : MapB V.drew b k f0 ∨ MapB V.drew b (k + 1) f1 := .inl (by have := (HS3.out.grew (Grew.drew V)).map; rw [← HF.out.1] at this; exact this)
              have hTb : T ≠ b := HN.out.2.1
              have hi := HF.out.2.2.1
              have hk0 : k < maxLen := by unfold maxLen; omega
              have hk1 : k + 1 < maxLen := by unfold maxLen; omega
              have hs1 := HF.out.2.2.2.1
              have hf1 := HF.out.2.2.2.2
              refine wp_region_tail 5 [some 79, some 80, some 81, some 82, none] [false, false, false, false, false, false, false, false, false, false, false, false, false, false, false, false, false, false, false, false, false, false, false, false, false, false, false, false, false, false, false, false, false, false, false, false, false, false, false, false, false, false, false, false, false, false, false, false, false, false, false, false, false, false, false, false, false, false, false, false, false, false, false, false, false, false, false, false, false, false, false, false, false, false, false, false, false, false, false, true, true, true, true, false, false, false, false, false, false, false, false, false, false, false, false, false, false, false, false, false, false, false] (RM b k f0 (k + 1) f1) (postAt [fun v _ => v = .map (some b), fun v _ => v = .pointer (some ⟨T, 0, none⟩), fun v _ => v = .int .i64 x1, fun v _ => v = itv (x1, x2), fun v w => MapB w b (k + 1) f1]) (by kernel_rfl) (by kernel_rfl) (by kernel_rfl) rfl (RM.refl _ _ _ _ _) RM.trans (fun i v w w' hR h => match i, h with | 0, h => h | 1, h => h | 2, h => h | 3, h => h | 4, h => hR.snd h | _ + 5, h => h) ⟨?_, ?_, ?_, ?_, ?_, trivial⟩ ?_
              · intro u w hR hd; exact runs_mv (ev rfl) ⟨RM.refl _ _ _ _ _ _, rfl⟩
              · intro u w hR hd; exact runs_fld32_0 (ev rfl) ⟨RM.refl _ _ _ _ _ _, rfl⟩
              · intro u w hR hd; exact runs_ld3 (ev (hd.1 rfl)) ⟨(hX.rm hR hTb).1⟩ ⟨RM.refl _ _ _ _ _ _, rfl⟩
              · intro u w hR hd; exact runs_bx32 (ev rfl) (hX.rm hR hTb) ⟨RM.refl _ _ _ _ _ _, rfl⟩
              · intro u w hR hd; exact runs_updRM (ev (hd.1 rfl)) (ev (hd.2.1 rfl)) (hR.fst hM0) hi hk0 hk1 hs1 hf1 fun w' h1 h2 => ⟨h2, h1⟩
              · intro u w4 hR h
                have e82 : u 82 = itv (x1, x2) := h 3 (by decide)
                have hM1 : MapB w4 b (k + 1) f1 := h 4 (by decide)
                rw [HF.out.2.1] at hM1
                have hS4 := (HS3.out.grew (Grew.drew V)).turned hR.chg hM1
                have hB4 := (Below.chgN HB3.out.drew hR.chg HN.out.1.1 (Below.size HB3.out.drew))
                refine wpAny_one (i := 5) none (by kernel_rfl) rfl rfl rfl (runs_stoSp (x := (x1, x2)) (ev rfl) (ev e82) hS4.last ?_)
                refine wpAny_done (by kernel_rfl) ?_ _
                have hS5 := Lib.hid (hS4.laid (x1, x2))
                have hB5 := Lib.hid (Below.setCell (Below.setCell hB4 (p := ⟨S, 0, none⟩) HN.out.1.2 (.int .i64 x1)) (p := ⟨S, 1, none⟩) HN.out.1.2 (.int .i64 x2))
                simp only [Act.put, mixA, mixL, cond_true, cond_false]
                simp only [Nat.zero_add]
                generalize World.setCell (World.setCell w4 _ _) _ _ = w5 at hS5 hB5 ⊢
                clear h hR hX hM0 hM1 hS4 hB4 e82 hTb hi hk0 hk1 hs1 hf1
                go_wp2
                go_roundg (l - (k + 1))
                case measure => omega
                case rel => exact ⟨k + 1, by go_num, by omega, rfl, by rw [lastOf_succ, HF2.out]; exact hS5, hB5⟩
            · go_wp2_with (go_at_call 19; (with_reducible refine (HP.out).mono ?_); rintro e w2 ⟨rfl, r2, o2⟩; have S2 := Lib.hid (hS.out.off o2 r2); have B2 := Lib.hid (hB.out.trans (hS.out.rep.below o2 (Below.size hB.out) (by rw [← Hq.out]; exact Nat.le_refl _))); have Z2 := Lib.hid o2.size; have HX2 := Lib.hid (show Bx w2.heap.size 0 (x1, x2) (w2.alloc (.cells #[.int .i64 x1, .int .i64 x2] 32)) from ⟨by go_simp, by go_simp⟩); have hlk := Hlook.out (w2.alloc (.cells #[.int .i64 x1, .int .i64 x2] 32)) (by have := (S2.out.grew ((Grew.refl w2).alloc (.cells #[.int .i64 x1, .int .i64 x2] 32))).map; rw [← HF.out.1] at this; exact this); clear r2 o2)
              have HX3 := HX2
              have gV : Grew w2 (w2.alloc (.cells #[.int .i64 x1, .int .i64 x2] 32)) := (Grew.refl w2).alloc _
              have HS3 := Lib.hid (S2.out.grew gV)
              have HB3 := Lib.hid (B2.out.trans (Below.mono gV (Below.size B2.out)))
              have HN := Lib.hid (show (w.heap.size ≤ b ∧ w.heap.size ≤ S) ∧ w2.heap.size ≠ b ∧ True from ⟨HN0.out, by have := HbW.out; have := Z2.out; omega, trivial⟩)
              clear hlk gV HX2
              generalize World.alloc w2 _ = V at HX3 HS3 HB3 ⊢
              generalize w2.heap.size = T at HX3 HN ⊢
              have hX := HX3.out.grew (Grew.drew V)
              have hM0 : MapB V.drew b k f0 ∨ MapB V.drew b (k + 1) f1 := .inl (by have := (HS3.out.grew (Grew.drew V)).map; rw [← HF.out.1] at this; exact this)
              have hTb : T ≠ b := HN.out.2.1
              have hi := HF.out.2.2.1
              have hk0 : k < maxLen := by unfold maxLen; omega
              have hk1 : k + 1 < maxLen := by unfold maxLen; omega
              have hs1 := HF.out.2.2.2.1
              have hf1 := HF.out.2.2.2.2
              refine wp_region_tail 5 [some 79, some 80, some 81, some 82, none] [false, false, false, false, false, false, false, false, false, false, false, false, false, false, false, false, false, false, false, false, false, false, false, false, false, false, false, false, false, false, false, false, false, false, false, false, false, false, false, false, false, false, false, false, false, false, false, false, false, false, false, false, false, false, false, false, false, false, false, false, false, false, false, false, false, false, false, false, false, false, false, false, false, false, false, false, false, false, false, true, true, true, true, false, false, false, false, false, false, false, false, false, false, false, false, false, false, false, false, false, false, false] (RM b k f0 (k + 1) f1) (postAt [fun v _ => v = .map (some b), fun v _ => v = .pointer (some ⟨T, 0, none⟩), fun v _ => v = .int .i64 x1, fun v _ => v = itv (x1, x2), fun v w => MapB w b (k + 1) f1]) (by kernel_rfl) (by kernel_rfl) (by kernel_rfl) rfl (RM.refl _ _ _ _ _) RM.trans (fun i v w w' hR h => match i, h with | 0, h => h | 1, h => h | 2, h => h | 3, h => h | 4, h => hR.snd h | _ + 5, h => h) ⟨?_, ?_, ?_, ?_, ?_, trivial⟩ ?_
              · intro u w hR hd; exact runs_mv (ev rfl) ⟨RM.refl _ _ _ _ _ _, rfl⟩
              · intro u w hR hd; exact runs_fld32_0 (ev rfl) ⟨RM.refl _ _ _ _ _ _, rfl⟩
              · intro u w hR hd; exact runs_ld3 (ev (hd.1 rfl)) ⟨(hX.rm hR hTb).1⟩ ⟨RM.refl _ _ _ _ _ _, rfl⟩
              · intro u w hR hd; exact runs_bx32 (ev rfl) (hX.rm hR hTb) ⟨RM.refl _ _ _ _ _ _, rfl⟩
              · intro u w hR hd; exact runs_updRM (ev (hd.1 rfl)) (ev (hd.2.1 rfl)) (hR.fst hM0) hi hk0 hk1 hs1 hf1 fun w' h1 h2 => ⟨h2, h1⟩
              · intro u w4 hR h
                have e82 : u 82 = itv (x1, x2) := h 3 (by decide)
                have hM1 : MapB w4 b (k + 1) f1 := h 4 (by decide)
                rw [HF.out.2.1] at hM1
                have hS4 := (HS3.out.grew (Grew.drew V)).turned hR.chg hM1
                have hB4 := (Below.chgN HB3.out.drew hR.chg HN.out.1.1 (Below.size HB3.out.drew))
                refine wpAny_one (i := 5) none (by kernel_rfl) rfl rfl rfl (runs_stoSp (x := (x1, x2)) (ev rfl) (ev e82) hS4.last ?_)
                refine wpAny_done (by kernel_rfl) ?_ _
                have hS5 := Lib.hid (hS4.laid (x1, x2))
                have hB5 := Lib.hid (Below.setCell (Below.setCell hB4 (p := ⟨S, 0, none⟩) HN.out.1.2 (.int .i64 x1)) (p := ⟨S, 1, none⟩) HN.out.1.2 (.int .i64 x2))
                simp only [Act.put, mixA, mixL, cond_true, cond_false]
                simp only [Nat.zero_add]
                generalize World.setCell (World.setCell w4 _ _) _ _ = w5 at hS5 hB5 ⊢
                clear h hR hX hM0 hM1 hS4 hB4 e82 hTb hi hk0 hk1 hs1 hf1
                go_wp2
                go_roundg (l - (k + 1))
                case measure => omega
                case rel => exact ⟨k + 1, by go_num, by omega, rfl, by rw [lastOf_succ, HF2.out]; exact hS5, hB5⟩
          · obtain rfl : k = l := by omega
            have hdl : L.drop k = [] := by rw [Hle.out, List.drop_length]
            have htl : L.take k = L := by rw [Hle.out, List.take_length]
            rw [hdl, htl] at hS
            generalize lastOf L k = ll at hS
            clear hdl htl HSt HBW HbS tk
            have HW := hB
            have HS0 := hS
            go_wp2_with fail
            go_loopg [86] xs.length (fun gg iv wr => ∃ (j : Nat), iv = .int .i64 (j : Int) ∧ j ≤ xs.length ∧ gg = xs.length - j ∧ Hid (Sorting wr q b S k [] L ll) ∧ Hid (Below w.heap.size w wr))
            case atStart => exact ⟨0, rfl, Nat.zero_le _, rfl, HS0, HW⟩
            case round =>
              obtain ⟨j, rfl, hj, rfl, hS, hB⟩ := hrel
              by_cases hlt : j < xs.length
              · have hrk := HO.out.kept hB.out
                obtain ⟨bb, o, rfl, hx0, hx1, hx2⟩ := hrk.at hlt
                have Hin := Lib.hid (Hok.out.at hlt).1
                have hh := Hall.out j hlt
                generalize xs.getD j (0, 0, 0) = x at hx0 hx1 hx2 Hin hh
                obtain ⟨x1, x2, x3⟩ := x
                simp only [] at hx0 hx1 hx2 Hin hh
                have hsx : (seenF L x2).getD false = true := by unfold seenF; rw [hh]; rfl
                have Hsx := Lib.hid hsx
                have HM := Lib.hid ((hS.out.grew ((Grew.refl wr).alloc (.cells #[.int .i64 x1, .int .i64 x2, .int .i64 x3] 28))).map)
                have HSn := Lib.hid (hS.out.grew ((Grew.refl wr).alloc (.cells #[.int .i64 x1, .int .i64 x2, .int .i64 x3] 28)))
                have HBn := Lib.hid (Below.alloc hB.out (Below.size hB.out) (.cells #[.int .i64 x1, .int .i64 x2, .int .i64 x3] 28))
                clear hrk hh hsx hS hB
                go_wp2_with (at_lookup; refine wpList_lookB _ _ rfl rfl b k (seenF L) rfl HM.out x2 rfl Hin.out ?_; rw [Hsx.out])
                go_roundg (xs.length - (j + 1))
                case measure => omega
                case rel => exact ⟨j + 1, by go_num, by omega, rfl, HSn, HBn⟩
              · obtain rfl : j = xs.length := by omega
                have Hlen0 : Hid (Calls Try.prog 14 #[.pointer (some ⟨q, 0, none⟩)] wr fun e w' => e = .returned (.int .i64 0) ∧ wr = w') := Lib.hid (len_any q [] wr hS.out.rep)
                clear HO Hok hS
                go_wp2_with (first
                  | (go_at_call 14; (with_reducible refine (Hlen0.out).mono ?_); rintro e _ ⟨rfl, rfl⟩; have tk := trivial)
                  | (go_at_call 11; (with_reducible refine (examples_any _).mono ?_); rintro e w9 ⟨rfl, g9⟩; have G9 := Lib.hid g9; clear g9))
                go_ret
                exact ⟨rfl, hB.out.trans (Below.mono G9.out (Below.size hB.out))⟩
  · have hn' : ((60 : Int) < (xs.length : Int)) := by omega
    clear hn HO Hok hmm
    generalize xs.length = n at hn' ⊢
    go_enter Try.func4, Try.ntmps4
    go_wp2_with (first
      | (go_at_call 10; (with_reducible refine (new_any _).mono ?_); rintro e w1 ⟨rfl, q1, g1⟩; have G1 := Lib.hid g1; clear q1 g1)
      | (go_at_call 11; (with_reducible refine (examples_any _).mono ?_); rintro e w5 ⟨rfl, g5⟩; have G5 := Lib.hid (G1.out.trans g5); clear g5))
    go_ret
    exact ⟨rfl, G5.out⟩
end Go.Proofs.Ytjcoghjkjnhljaa
