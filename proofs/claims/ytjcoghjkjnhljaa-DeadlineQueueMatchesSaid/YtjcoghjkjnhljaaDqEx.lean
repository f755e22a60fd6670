/-
  LAYER 6 (deadlinequeue): the statements' examples.
-/
import Derived.Test.YtjcoghjkjnhljaaDqLaw2
namespace Go.Proofs.Ytjcoghjkjnhljaa
open Go Go.RowKit Go.IntWalk Go.Sort
set_option maxRecDepth 8000
set_option linter.unusedSimpArgs false

section
variable {w : World} {ops : Array Oper} {rest : List Oper} {o : Oper} {a : Act} {Q : Exit → Act → World → Prop}
theorem wpList_insD (k v : Int) (m : Operand) (hop : o.op = Op.insert 54 m (.const (.int .i64 k)) (.const (.int .i64 v))) (hgn : o.guard = none)
    (b s : Nat) (f : Int → Option Int) (hm : a.eval m = .map (some b)) (hM : MapD w b s f) (hs : s < maxLen) (hi : In64 k) (hv : In64 v)
    (hK : ∀ w', MapD w' b (if (f k).isSome then s else s + 1) (fun j => if j = k then some v else f j) → w.mapTurned w' b → wpList Try.prog ops Q rest (a.put o.dst undef) w') : wpList Try.prog ops Q (o :: rest) a w := by
  refine wpList_plain hgn fun K' hK' => ?_
  obtain ⟨w', hrun, h1, h2⟩ := MapG.store Try.underlying3 Try.underlying54 hM hs hi (v := v) hv.wf
  have hrun' : (Instr.mapUpdate 54 (.map (some b)) (.int .i64 k) (.int .i64 v)).run Try.prog w = .ok () w' := hrun
  have ek : a.eval (.const (.int .i64 k)) = .int .i64 k := rfl
  have ev' : a.eval (.const (.int .i64 v)) = .int .i64 v := rfl
  unfold Oper.wp
  simp [execOp, hop, hm, ek, ev', hrun', Result.andThen]
  exact hK' _ _ (hK w' h1 h2)
end
theorem madeL (w : World) (S : Nat) (xs : List It) (n : Nat) (e : TypeId) (cs : Array Value) (hS : w.heap.size = S) (hc : cs = (flat xs).toArray) (hn : xs.length = n) (hs : n ≤ 9223372036854775807) : RdI (w.alloc (.cells cs e)) (some ⟨S, 0, none⟩) n xs := by
  subst hS
  exact RdI.made w xs n e cs _ hc hn hs
theorem Bx.keepB {w w' : World} {b o : Nat} {x : It} (h : Bx b o x w) (hb : w'.heap[b]? = w.heap[b]?) : Bx b o x w' :=
  ⟨(World.cell?_of_block (w := w) (w' := w') (a := ⟨b, o, none⟩) hb).trans h.c0, (World.cell?_of_block (w := w) (w' := w') (a := ⟨b, o + 1, none⟩) hb).trans h.c1⟩
theorem madeD (w : World) (S : Nat) (hS : w.heap.size = S) : MapD (w.alloc (.map #[] 0)) S 0 (fun _ => none) := by
  subst hS
  exact MapG.made w
/-- An item's block, aside of the queue. -/
def BoxQ (w : World) (q S : Nat) (x : It) : Prop := Bx S 0 x w ∧ ¬ Cand w q S
theorem BoxQ.off {V w' : World} {q S : Nat} {x : It} (h : BoxQ V q S x) (o : Off V.heap.size q V w') : BoxQ w' q S x := by
  have hl := World.block_lt_of_cell? _ _ h.1.c0
  have k := o.keeps hl h.2
  exact ⟨⟨(k.1 0).trans h.1.c0, (k.1 1).trans h.1.c1⟩, (o.block S hl h.2).2⟩
theorem BoxQ.grew {w w' : World} {q S : Nat} {x : It} (h : BoxQ w q S x) (hq : q < w.heap.size) (hg : Grew w w') : BoxQ w' q S x := ⟨h.1.grew hg, fun hc => h.2 ((cand_grew hq hg _).1 hc)⟩
theorem QRep.apartS {w w' : World} {q S : Nat} {L : List It} (h : QRep w q L) (hg : Grew w w') (hS : w.heap.size ≤ S) : ¬ Cand w' q S := by
  obtain ⟨d, h1, _⟩ := h
  exact h1.apart hg hS
def exL : List It := [(5, 30), (9, 10), (7, 10), (5, 0)]
def exJ : List It := [(1, 10), (2, 12)]
theorem ex_push : exL.foldl pushL [] = [(5, 0), (7, 10), (9, 10)] := by decide
theorem foldl_take (l : List It) (k : Nat) (h : k < l.length) : (l.take (k + 1)).foldl pushL [] = pushL ((l.take k).foldl pushL []) (l.getD k (0, 0)) := by
  rw [take_snocI l k h, List.foldl_append]
  rfl
theorem rem_len_le (i : Int) (l : List It) : (rem i l).length ≤ l.length := rem_le i l
theorem foldl_len (l : List It) : ∀ acc : List It, (l.foldl pushL acc).length ≤ acc.length + l.length := by
  induction l with
  | nil => intro acc; simp
  | cons x l ih =>
    intro acc
    rw [List.foldl_cons]
    have h1 := ih (pushL acc x)
    have h2 := pushL_len acc x
    have h3 := rem_len_le x.1 acc
    simp only [List.length_cons]
    omega
set_option maxHeartbeats 4000000 in
theorem examples_any (w : World) : Calls Try.prog 11 #[] w fun e w' => e = .returned (.bool true) ∧ Grew w w' := by
  have hmm := @run_makeMap Try.prog
  go_enter Try.func11, Try.ntmps11
  go_wp2_with (go_at_call 10; (with_reducible refine (new_any _).mono ?_); rintro e w1 ⟨rfl, r1, g1⟩; have R1 := Lib.hid r1; have G1 := Lib.hid g1; have hql := r1.lt; clear r1 g1)
  have g2 : Grew w1 (w1.alloc (.cells #[.int .i64 5, .int .i64 30, .int .i64 9, .int .i64 10, .int .i64 7, .int .i64 10, .int .i64 5, .int .i64 0] 32)) := (Grew.refl w1).alloc _
  have hl0 : RdI (w1.alloc (.cells #[.int .i64 5, .int .i64 30, .int .i64 9, .int .i64 10, .int .i64 7, .int .i64 10, .int .i64 5, .int .i64 0] 32)) (some ⟨w1.heap.size, 0, none⟩) 4 exL := RdI.made w1 exL 4 _ _ _ rfl rfl (by omega)
  have hq0 := R1.out.grew g2
  have ho0 : Out (w1.alloc (.cells #[.int .i64 5, .int .i64 30, .int .i64 9, .int .i64 10, .int .i64 7, .int .i64 10, .int .i64 5, .int .i64 0] 32)) w.heap.size (some ⟨w1.heap.size, 0, none⟩) exL := R1.out.newOut g2 fun a ha => by obtain rfl := Option.some.inj ha; exact Nat.le_refl _
  have FO0 := Lib.hid (show Off w1.heap.size w.heap.size w1 (w1.alloc (.cells #[.int .i64 5, .int .i64 30, .int .i64 9, .int .i64 10, .int .i64 7, .int .i64 10, .int .i64 5, .int .i64 0] 32)) from Off.of_grew g2 (Nat.le_refl _) hql)
  obtain ⟨q, hq⟩ : ∃ q, q = w.heap.size := ⟨_, rfl⟩
  rw [← hq] at hq0 ho0 hql FO0 R1 ⊢
  have Hq := Lib.hid hq
  obtain ⟨B, hB⟩ : ∃ B, B = w1.heap.size := ⟨_, rfl⟩
  have HN := Lib.hid hB
  rw [← hB] at hl0 ho0 ⊢
  generalize World.alloc w1 _ = W at g2 hl0 hq0 ho0 FO0 ⊢
  have HL0 := Lib.hid hl0
  have HQ0 := Lib.hid hq0
  have HO0 := Lib.hid ho0
  have G2 := Lib.hid g2
  clear hq hl0 hq0 ho0 g2 hB hql
  go_loopg [25] 4 (fun gg iv wr => ∃ k : Nat, iv = .int .i64 (k : Int) ∧ k ≤ 4 ∧ gg = 4 - k ∧ Hid (QRep wr q ((exL.take k).foldl pushL [])) ∧ Hid (RdI wr (some ⟨B, 0, none⟩) 4 exL ∧ Out wr q (some ⟨B, 0, none⟩) exL) ∧ Hid (Off w1.heap.size q w1 wr))
  case atStart => exact ⟨0, rfl, by omega, rfl, HQ0.out, ⟨HL0.out, HO0.out⟩, FO0.out⟩
  case round =>
    obtain ⟨k, rfl, hk, rfl, hq, hl, hf⟩ := hrel
    by_cases hlt : k < 4
    · obtain ⟨hx0, hx1⟩ := hl.out.1.at (show k < exL.length from hlt)
      rw [Nat.zero_add] at hx0 hx1
      have hts := foldl_take exL k hlt
      have hin : In64 (exL.getD k (0, 0)).1 := by
        have : ∀ k, k < 4 → In64 (exL.getD k (0, 0)).1 := by
          intro k hk
          match k, hk with
          | 0, _ => exact ⟨by decide, by decide⟩
          | 1, _ => exact ⟨by decide, by decide⟩
          | 2, _ => exact ⟨by decide, by decide⟩
          | 3, _ => exact ⟨by decide, by decide⟩
        exact this k hlt
      have hlen : ((exL.take k).foldl pushL []).length < 1000000 := by
        have := foldl_len (exL.take k) []
        simp at this
        omega
      generalize exL.getD k (0, 0) = x at hx0 hx1 hts hin
      have gb : Grew wr (wr.alloc (.cells #[.int .i64 x.1, .int .i64 x.2] 32)) := (Grew.refl wr).alloc _
      have HP := Lib.hid (push_any q _ x _ (hq.out.grew gb) hin hlen)
      rw [← hts] at HP
      have hl2 := And.intro (hl.out.1.kept gb) (hl.out.2.grew hq.out.lt gb)
      have HL2 := Lib.hid hl2
      have F2 := Lib.hid (hf.out.trans (Off.of_grew gb (by exact hf.out.size) hq.out.lt))
      clear hts hin hlen gb hl2
      go_wp2_with (go_at_call 18; (with_reducible refine HP.out.mono ?_); rintro e w2 ⟨rfl, r2, o2⟩; have R2 := Lib.hid r2; have O2 := Lib.hid o2; clear r2 o2)
      go_roundg (4 - (k + 1))
      case measure => omega
      case rel => exact ⟨k + 1, by go_num, by omega, rfl, R2, Lib.hid (HL2.out.1.off HL2.out.2 O2.out (Nat.le_refl _)), Lib.hid (F2.out.trans (O2.out.mono (by exact F2.out.size)))⟩
    · obtain rfl : k = 4 := by omega
      have e4 : exL.take 4 = exL := rfl
      rw [e4, ex_push] at hq
      have RV := hq
      have FO := hf
      have HR1 := R1
      clear hq hf hl HL0 HQ0 HO0 FO0 R1
      go_wp2_with fail
      (with_reducible refine (pop_any q [(5, 0), (7, 10), (9, 10)] _ RV.out (by simp)).mono ?_)
      rintro e w2 ⟨rfl, r2, o2⟩
      have R2 : Hid (QRep w2 q [(7, 10), (9, 10)]) := Lib.hid r2
      have FO2 := Lib.hid (FO.out.trans (o2.mono (by exact FO.out.size)))
      clear r2 o2 RV FO
      simp only [first, List.headD_cons, List.isEmpty_cons, Bool.not_false]
      go_wp2_with fail
      have gg : Grew w2 (w2.alloc (.cells #[.int .i64 5, .int .i64 0] 32)) := (Grew.refl w2).alloc _
      have RV := Lib.hid (R2.out.grew gg)
      have FO := Lib.hid (FO2.out.trans (Off.of_grew gg (by exact FO2.out.size) R2.out.lt))
      have X20 : Hid (BoxQ (w2.alloc (.cells #[.int .i64 5, .int .i64 0] 32)) q w2.heap.size (5, 0)) := Lib.hid ⟨⟨by go_simp, by go_simp⟩, R2.out.apartS gg (Nat.le_refl _)⟩
      obtain ⟨S2, hS2⟩ : ∃ S, S = w2.heap.size := ⟨_, rfl⟩
      rw [← hS2] at X20 ⊢
      have sz2 : S2 < (w2.alloc (.cells #[.int .i64 5, .int .i64 0] 32)).heap.size := by rw [hS2]; simp
      generalize World.alloc w2 _ = V2 at gg RV FO X20  sz2 ⊢
      clear gg hS2
      (with_reducible refine (pop_any q [(7, 10), (9, 10)] _ RV.out (by simp)).mono ?_)
      rintro e w3 ⟨rfl, r3, o3⟩
      have R3 : Hid (QRep w3 q [(9, 10)]) := Lib.hid r3
      have FO3 := Lib.hid (FO.out.trans (o3.mono (by exact FO.out.size)))
      have X2 := Lib.hid (X20.out.off o3)
      clear X20
      clear r3 o3 RV FO
      simp only [first, List.headD_cons, List.isEmpty_cons, Bool.not_false]
      go_wp2_with fail
      have gg : Grew w3 (w3.alloc (.cells #[.int .i64 7, .int .i64 10] 32)) := (Grew.refl w3).alloc _
      have RV := Lib.hid (R3.out.grew gg)
      have FO := Lib.hid (FO3.out.trans (Off.of_grew gg (by exact FO3.out.size) R3.out.lt))
      have X30 : Hid (BoxQ (w3.alloc (.cells #[.int .i64 7, .int .i64 10] 32)) q w3.heap.size (7, 10)) := Lib.hid ⟨⟨by go_simp, by go_simp⟩, R3.out.apartS gg (Nat.le_refl _)⟩
      have X20 := Lib.hid (X2.out.grew R3.out.lt gg)
      clear X2
      obtain ⟨S3, hS3⟩ : ∃ S, S = w3.heap.size := ⟨_, rfl⟩
      rw [← hS3] at X30 ⊢
      have sz3 : S3 < (w3.alloc (.cells #[.int .i64 7, .int .i64 10] 32)).heap.size := by rw [hS3]; simp
      generalize World.alloc w3 _ = V3 at gg RV FO X30 X20 sz3 ⊢
      clear gg hS3
      (with_reducible refine (pop_any q [(9, 10)] _ RV.out (by simp)).mono ?_)
      rintro e w4 ⟨rfl, r4, o4⟩
      have R4 : Hid (QRep w4 q []) := Lib.hid r4
      have FO4 := Lib.hid (FO.out.trans (o4.mono (by exact FO.out.size)))
      have X2 := Lib.hid (X20.out.off o4)
      clear X20
      have X3 := Lib.hid (X30.out.off o4)
      clear X30
      clear r4 o4 RV FO
      simp only [first, List.headD_cons, List.isEmpty_cons, Bool.not_false]
      have tkI := Lib.hid trivial
      have tkJ := Lib.hid trivial
      go_wp2_with (first
        | (clear tkI; refine wpList_insD 1 6 _ rfl rfl (w4.heap.size + 2) 0 _ rfl (madeD _ _ (by simp)) (by decide) ⟨by decide, by decide⟩ ⟨by decide, by decide⟩ ?_; intro w5 hM5 hT5; rw [if_neg (by simp)] at hM5; have L5 := Lib.hid ((RdI.kept (madeL (w4.alloc (.cells #[.int .i64 9, .int .i64 10] 32)) (w4.heap.size + 1) exJ 2 _ _ (by simp) rfl rfl (by omega)) ((Below.refl _ _).alloc (Nat.le_refl _) _)).keep (w' := w5) fun _ b o hp _ => (by obtain ⟨rfl, rfl⟩ : w4.heap.size + 1 = b ∧ 0 = o := (by simpa using hp); exact mapTurned_other hT5 _ (by omega))); have G5 := Lib.hid (show Grew w4 w5 from Below.turned ((((Grew.refl w4).alloc _).alloc _).alloc _) hT5 (by omega) (by simp; omega)); have Y5 : Hid (Bx w4.heap.size 0 (9, 10) w5) := Lib.hid (Bx.keepB ⟨by go_simp, by go_simp⟩ (mapTurned_other hT5 w4.heap.size (by omega))); have M5 := Lib.hid hM5; have Z5 := Lib.hid (show w4.heap.size + 3 ≤ w5.heap.size from Nat.le_trans (by simp) hT5.grown.size); clear hM5 hT5)
        | (clear tkJ; refine wpList_insD 2 6 _ rfl rfl (w4.heap.size + 2) (0 + 1) _ rfl M5.out (by decide) ⟨by decide, by decide⟩ ⟨by decide, by decide⟩ ?_; intro w6 hM6 hT6; have L6 := Lib.hid (L5.out.keep (w' := w6) fun _ b o hp _ => (by obtain ⟨rfl, rfl⟩ : w4.heap.size + 1 = b ∧ 0 = o := (by simpa using hp); exact mapTurned_other hT6 _ (by omega))); have G6 := Lib.hid (show Grew w4 w6 from Below.turned G5.out hT6 (by omega) (by have := Z5.out; omega)); have Y6 : Hid (Bx w4.heap.size 0 (9, 10) w6) := Lib.hid (Y5.out.keepB (mapTurned_other hT6 w4.heap.size (by omega))); have M6 := Lib.hid hM6; clear hM6 hT6))
      have hM6 := M6.out
      have hl6 := L6.out
      have gg6 := G6.out
      have hdur : Dur w6 (w4.heap.size + 2) (fun i => (if i = 2 then some (6 : Int) else if i = 1 then some 6 else none).getD 0) := ⟨_, (fun i => if i = 2 then some (6 : Int) else if i = 1 then some 6 else none), hM6, (fun i v hv => by
        replace hv : (if i = 2 then some (6 : Int) else if i = 1 then some 6 else none) = some v := hv
        split at hv
        · obtain rfl := Option.some.inj hv; exact ⟨by decide, by decide⟩
        · split at hv
          · obtain rfl := Option.some.inj hv; exact ⟨by decide, by decide⟩
          · cases hv), rfl⟩
      have hokJ : itOk exJ := fun x hx => by
        rcases List.mem_cons.1 hx with rfl | hx
        · exact ⟨⟨by decide, by decide⟩, ⟨by decide, by decide⟩⟩
        · rcases List.mem_cons.1 hx with rfl | hx
          · exact ⟨⟨by decide, by decide⟩, ⟨by decide, by decide⟩⟩
          · cases hx
      have HJ := Lib.hid hokJ
      have HDu := Lib.hid hdur
      have HL6 := Lib.hid hl6
      have R6 := Lib.hid (R4.out.grew gg6)
      have F6 := Lib.hid (FO4.out.trans (Off.of_grew gg6 (by exact FO4.out.size) R4.out.lt))
      have X26 := Lib.hid (X2.out.grew R4.out.lt gg6)
      have X36 := Lib.hid (X3.out.grew R4.out.lt gg6)
      clear hM6 hl6 gg6 M6 L6 G6 M5 L5 G5 Z5 hdur hokJ R4 FO4 X2 X3 Y5 sz2 sz3 hmm
      have ef0 : feas (fun i => (if i = 2 then some (6 : Int) else if i = 1 then some 6 else none).getD 0) 0 exJ = (0, 0) := by decide
      have ef1 : feas (fun i => (if i = 2 then some (6 : Int) else if i = 1 then some 6 else none).getD 0) 1 exJ = (2, 14) := by decide
      generalize (fun i : Int => (if i = 2 then some (6 : Int) else if i = 1 then some 6 else none).getD 0) = g at HDu ef0 ef1
      have HF0 : Hid (∀ W, Grew w6 W → Calls Try.prog 23 #[.int .i64 0, .slice (some ⟨w4.heap.size + 1, 0, none⟩) 2 2, .map (some (w4.heap.size + 2))] W fun e w' => e = .returned (.tuple #[.int .i64 0, .int .i64 0]) ∧ Grew W w') := Lib.hid fun W hW => by
        have := feasible_any 0 _ 2 2 _ exJ g W rfl (by omega) (HL6.out.kept hW) HJ.out (HDu.out.grew hW)
        rwa [ef0] at this
      have HF1 : Hid (∀ W, Grew w6 W → Calls Try.prog 23 #[.int .i64 1, .slice (some ⟨w4.heap.size + 1, 0, none⟩) 2 2, .map (some (w4.heap.size + 2))] W fun e w' => e = .returned (.tuple #[.int .i64 2, .int .i64 14]) ∧ Grew W w') := Lib.hid fun W hW => by
        have := feasible_any 1 _ 2 2 _ exJ g W rfl (by omega) (HL6.out.kept hW) HJ.out (HDu.out.grew hW)
        rwa [ef1] at this
      have HLen : Hid (∀ W, Grew w6 W → Calls Try.prog 14 #[.pointer (some ⟨q, 0, none⟩)] W fun e w' => e = .returned (.int .i64 0) ∧ W = w') := Lib.hid fun W hW => len_any q [] W (R6.out.grew hW)
      clear ef0 ef1 HDu HL6 HJ
      generalize w4.heap.size + 2 = mb at HF0 HF1 ⊢
      generalize w4.heap.size + 1 = lb at HF0 HF1 ⊢
      generalize w4.heap.size = S4 at Y6 ⊢
      go_wp2_with fail
      (with_reducible refine (HF0.out _ (Grew.refl _)).mono ?_)
      rintro e w7 ⟨rfl, g7⟩
      have G7 := Lib.hid g7
      clear g7
      go_wp2_with fail
      (with_reducible refine (HF1.out _ G7.out).mono ?_)
      rintro e w8 ⟨rfl, g8⟩
      have G8 := Lib.hid (G7.out.trans g8)
      clear g8 G7
      obtain ⟨x20, x21⟩ := (X26.out.grew R6.out.lt G8.out).1
      obtain ⟨x30, x31⟩ := (X36.out.grew R6.out.lt G8.out).1
      obtain ⟨x40, x41⟩ := Y6.out.grew G8.out
      simp only [] at x20 x30 x40
      clear x21 x31 x41
      go_wp2_with (go_at_call 14; (with_reducible refine (HLen.out _ G8.out).mono ?_); rintro e _ ⟨rfl, rfl⟩)
      go_ret
      obtain ⟨d1, hd1, _⟩ := HR1.out
      have hb : Below w.heap.size w1 w8 := (hd1.below F6.out (Below.size G1.out) (by rw [Hq.out]; exact Nat.le_refl _)).trans (Below.mono G8.out (by have := F6.out.size; have := Below.size G1.out; omega))
      exact ⟨rfl, Below.trans G1.out hb⟩
end Go.Proofs.Ytjcoghjkjnhljaa
