/-
  LAYER 12 (cpu): two copies of a bus (as XCpuTwo, beside the reference).
-/
import Derived.Test.YtbhglpiiabpdjaaDoorCpuMr
namespace Go.Proofs.YtbhglpiiabpdjaaDoor
open Go Go.RowKit Go.IntWalk Go.WideShapes
set_option linter.unusedSimpArgs false
set_option linter.unusedVariables false
set_option maxRecDepth 8000
section
variable {dst : Option Tmp} {ty : TypeId} {pos : String} {after : Array Edge} {g : Option (Nat × Bool)} {a : Act} {w : World} {T : Value → World → Prop}
theorem rn_fld_39_0 {x : Operand} {S o : Nat} (hx : a.eval x = .pointer (some ⟨S, o, none⟩)) (h : T (.pointer (some ⟨S, o, none⟩)) w) : Runs Tryd.prog ⟨dst, .fieldAddr 39 x 0, ty, pos, after, g⟩ a w T := by
  refine Runs.value (v := .pointer (some ⟨S, o, none⟩)) (w' := w) ?_ h
  simp only [execOp, hx]
  go_simp
theorem rn_fld_39_1 {x : Operand} {S o : Nat} (hx : a.eval x = .pointer (some ⟨S, o, none⟩)) (h : T (.pointer (some ⟨S, o + 73, none⟩)) w) : Runs Tryd.prog ⟨dst, .fieldAddr 39 x 1, ty, pos, after, g⟩ a w T := by
  refine Runs.value (v := .pointer (some ⟨S, o + 73, none⟩)) (w' := w) ?_ h
  simp only [execOp, hx]
  go_simp
theorem rn_add_3 {o1 o2 : Operand} {b c : Int} (hx : a.eval o1 = .int .i64 b) (hy : a.eval o2 = .int .i64 c) (hb : -9223372036854775808 ≤ b + c ∧ b + c ≤ 9223372036854775807) (h : T (.int .i64 (b + c)) w) : Runs Tryd.prog ⟨dst, .binOp .add 3 o1 o2 3, ty, pos, after, g⟩ a w T := by
  refine Runs.value (v := .int .i64 (b + c)) (w' := w) ?_ h
  have hw : IntKind.i64.wrap (b + c) = b + c := IntWalk.i64_in _ hb
  simp only [execOp, hx, hy]
  go_simp
end
theorem runs_alw {dst : Option Tmp} {ty : TypeId} {pos : String} {after : Array Edge} {g : Option (Nat × Bool)} {a : Act} {w : World} {T : Value → World → Prop} (t : TypeId) (zs : List Value) (hz : ∀ w, (zeroValue t).run Tryd.prog w = .ok (.agg zs.toArray) w)
    (h : ∀ w', Blk w.heap.size zs t w' → Grew w w' → T (.pointer (some ⟨w.heap.size, 0, none⟩)) w') : Runs Tryd.prog ⟨dst, .alloc t, ty, pos, after, g⟩ a w T := by
  refine Runs.value (v := .pointer (some ⟨w.heap.size, 0, none⟩)) (w' := w.alloc (.cells zs.toArray t)) ?_ (h _ (Blk.new w _ _) ((Grew.refl _).alloc _))
  have hrun : (Instr.alloc t true (.tuple #[])).run Tryd.prog w = .ok (.pointer (some ⟨w.heap.size, 0, none⟩)) (w.alloc (.cells zs.toArray t)) := by
    unfold Instr.alloc
    simp only [Sem.run_bind, hz, Result.andThen_ok]
    rfl
  simp only [execOp, Sem.run_bind, hrun, Result.andThen_ok, Sem.run_pure]
theorem runs_stw {dst : Option Tmp} {ty : TypeId} {pos : String} {after : Array Edge} {g : Option (Nat × Bool)} {a : Act} {w : World} {T : Value → World → Prop} (t : TypeId) {x y : Operand} {b : Nat} {vs us : List Value} (hx : a.eval x = .pointer (some ⟨b, 0, none⟩)) (hy : a.eval y = .agg us.toArray) (hb : Blk b vs t w) (hl : us.length = vs.length) (hi : (Tryd.prog.info? t).map (·.size) = some us.length) (h1 : ∀ v ∈ us, v.oneCell' = true)
    (h : ∀ w', Blk b us t w' → Chg w w' (fun k => k = b) → T undef w') : Runs Tryd.prog ⟨dst, .store t x y, ty, pos, after, g⟩ a w T := fun K Q hk =>
  wp_store_mid t x y rfl b 0 us.toArray hx hy (hb.there (by simp [hl])) (by rw [hi]; simp) (all_oneCell_toArray h1) (hk _ _ (h _ (by simpa using hb.setAll (us := us) hl) (by simpa using setCells_chg b us 0 w)))
/-- Two copies of a bus in two variables; nothing of the one is of the other. -/
structure Two (M : Nat) (w : World) (W : Wd) (q1 q2 : Nat) : Prop where
  bus : ∃ S1 S2, Bus M w q1 W S1 ∧ Bus M w q2 W S2 ∧ (∀ k, S1 k → ¬ S2 k) ∧ (∀ k, S1 k → M ≤ k) ∧ (∀ k, S2 k → M ≤ k)
theorem Two.of {M q1 q2 : Nat} {w : World} {W : Wd} {p0 p1 p2 r0 r1 r2 : Option Addr} {c0 c1 c2 d0 d1 d2 : Nat} (h1 : CopyOf M w W p0 p1 p2 c0 c1 c2) (h2 : CopyOf M w W r0 r1 r2 d0 d1 d2)
    (hd : ∀ a b, (p0 = some a ∨ p1 = some a ∨ p2 = some a) → (r0 = some b ∨ r1 = some b ∨ r2 = some b) → a.block ≠ b.block)
    (hq1 : Blk q1 [.slice p0 W.ws.length c0, .slice p1 W.rs.length c1, .int .i64 W.fl, .slice p2 W.cs.length c2] 37 w) (hq2 : Blk q2 [.slice r0 W.ws.length d0, .slice r1 W.rs.length d1, .int .i64 W.fl, .slice r2 W.cs.length d2] 37 w) (hne : q1 ≠ q2) (hM1 : M ≤ q1) (hM2 : M ≤ q2) : Two M w W q1 q2 := by
  have b1 := h1.bus hq1 hM1
  have b2 := h2.bus hq2 hM2
  have t1 : ∀ a, (p0 = some a ∨ p1 = some a ∨ p2 = some a) → a.block ≠ q2 := fun a h e => by
    rcases h with h | h | h
    · obtain ⟨cur, hh⟩ := h1.ow.kind encH a h
      exact kinds_ne hh hq2 (by decide) e
    · obtain ⟨cur, hh⟩ := h1.or.kind encH a h
      exact kinds_ne hh hq2 (by decide) e
    · obtain ⟨cur, hh⟩ := h1.oc.kind encL a h
      exact kinds_ne hh hq2 (by decide) e
  have t2 : ∀ a, (r0 = some a ∨ r1 = some a ∨ r2 = some a) → a.block ≠ q1 := fun a h e => by
    rcases h with h | h | h
    · obtain ⟨cur, hh⟩ := h2.ow.kind encH a h
      exact kinds_ne hh hq1 (by decide) e
    · obtain ⟨cur, hh⟩ := h2.or.kind encH a h
      exact kinds_ne hh hq1 (by decide) e
    · obtain ⟨cur, hh⟩ := h2.oc.kind encL a h
      exact kinds_ne hh hq1 (by decide) e
  have n1 : ∀ k, (k = q1 ∨ (∃ a, p0 = some a ∧ a.block = k) ∨ (∃ a, p1 = some a ∧ a.block = k) ∨ ∃ a, p2 = some a ∧ a.block = k) → k = q1 ∨ ∃ a, (p0 = some a ∨ p1 = some a ∨ p2 = some a) ∧ a.block = k := fun k h => by
    rcases h with h | ⟨a, h, e⟩ | ⟨a, h, e⟩ | ⟨a, h, e⟩
    · exact .inl h
    · exact .inr ⟨a, .inl h, e⟩
    · exact .inr ⟨a, .inr (.inl h), e⟩
    · exact .inr ⟨a, .inr (.inr h), e⟩
  have n2 : ∀ k, (k = q2 ∨ (∃ a, r0 = some a ∧ a.block = k) ∨ (∃ a, r1 = some a ∧ a.block = k) ∨ ∃ a, r2 = some a ∧ a.block = k) → k = q2 ∨ ∃ a, (r0 = some a ∨ r1 = some a ∨ r2 = some a) ∧ a.block = k := fun k h => by
    rcases h with h | ⟨a, h, e⟩ | ⟨a, h, e⟩ | ⟨a, h, e⟩
    · exact .inl h
    · exact .inr ⟨a, .inl h, e⟩
    · exact .inr ⟨a, .inr (.inl h), e⟩
    · exact .inr ⟨a, .inr (.inr h), e⟩
  refine ⟨_, _, ⟨_, _, _, _, _, _, b1⟩, ⟨_, _, _, _, _, _, b2⟩, fun k hk hk2 => ?_, fun k hk => (b1.low k hk).1, fun k hk => (b2.low k hk).1⟩
  rcases n1 k hk with rfl | ⟨a, ha, rfl⟩
  · rcases n2 k hk2 with e | ⟨b, hb, e⟩
    · exact hne e
    · exact t2 b hb e
  · rcases n2 _ hk2 with e | ⟨b, hb, e⟩
    · exact t1 a ha e
    · exact hd a b ha hb e.symm
theorem CopyOf.lt {N : Nat} {w : World} {W : Wd} {wp rp cp : Option Addr} {wc rc cc : Nat} (h : CopyOf N w W wp rp cp wc rc cc) : ∀ a, (wp = some a ∨ rp = some a ∨ cp = some a) → N ≤ a.block ∧ a.block < w.heap.size := fun a ha => by
  rcases ha with ha | ha | ha
  · exact h.ow.place encH a ha
  · exact h.or.place encH a ha
  · exact h.oc.place encL a ha
/-- Two buses that share nothing. -/
def Pair (N q1 q2 : Nat) (W1 W2 : Wd) (w : World) : Prop := ∃ S1 S2, Bus N w q1 W1 S1 ∧ Bus N w q2 W2 S2 ∧ ∀ k, S1 k → ¬ S2 k
theorem Pair.symm {N q1 q2 : Nat} {W1 W2 : Wd} {w : World} (h : Pair N q1 q2 W1 W2 w) : Pair N q2 q1 W2 W1 w := by
  obtain ⟨S1, S2, h1, h2, hd⟩ := h
  exact ⟨S2, S1, h2, h1, fun k h h' => hd k h' h⟩
theorem Pair.grew {N q1 q2 : Nat} {W1 W2 : Wd} {w w' : World} (h : Pair N q1 q2 W1 W2 w) (hg : Grew w w') : Pair N q1 q2 W1 W2 w' := by
  obtain ⟨S1, S2, h1, h2, hd⟩ := h
  exact ⟨S1, S2, h1.grew hg, h2.grew hg, hd⟩
/-- The first bus moves, beside blocks of other types. -/
theorem Pair.left {N q1 q2 : Nat} {W1 W2 : Wd} {w : World} (h : Pair N q1 q2 W1 W2 w) : ∃ S, Bus N w q1 W1 S ∧ ∀ (T : Nat → Prop) (W1' : Wd) (w' : World), (∀ k, T k → N ≤ k ∧ ∃ vs e, free e = true ∧ Blk k vs e w) → (∃ S', Bus N w' q1 W1' S' ∧ Moved T S S' w w') → N ≤ w.heap.size →
    Pair N q1 q2 W1' W2 w' ∧ Below N w w' ∧ ∀ (D : Nat) (us : List Value) (e' : TypeId), free e' = true → Blk D us e' w → ¬ T D → Blk D us e' w' := by
  obtain ⟨S1, S2, h1, h2, hd⟩ := h
  refine ⟨S1, h1, fun T W1' w' hT ⟨S', hb, hm⟩ hN => ⟨⟨S', S2, hb, h2.chg hm.chg fun k hk hk2 => ?_, fun k hk hk2 => ?_⟩, hm.below hN (fun k hk => (hT k hk).1) fun k hk => (h1.low k hk).1, fun D us e' he hD hnt => hD.chg hm.chg fun hk => ?_⟩⟩
  · rcases hk2 with hk2 | hk2
    · obtain ⟨_, vs, e, he, hB⟩ := hT k hk2
      exact h2.aside hB he hk
    · exact hd k hk2 hk
  · rcases hm.new k hk with h | h
    · exact hd k h hk2
    · have := (h2.low k hk2).2.lt; omega
  · rcases hk with hk | hk
    · exact hnt hk
    · exact h1.aside hD he hk
theorem Two.pair {M q1 q2 : Nat} {w : World} {W : Wd} (h : Two M w W q1 q2) : Pair M q1 q2 W W w := by
  obtain ⟨S1, S2, h1, h2, hd, _, _⟩ := h.bus
  exact ⟨S1, S2, h1, h2, hd⟩
theorem runN_add (I : Im) : ∀ (a b : Nat) (s : St) (W : Wd), runN I (a + b) s W = if (runN I a s W).2.1 = 1 then ((runN I b (runN I a s W).1 (runN I a s W).2.2.2).1, (runN I b (runN I a s W).1 (runN I a s W).2.2.2).2.1, (runN I a s W).2.2.1 + (runN I b (runN I a s W).1 (runN I a s W).2.2.2).2.2.1, (runN I b (runN I a s W).1 (runN I a s W).2.2.2).2.2.2) else runN I a s W
  | 0, b, s, W => by
    rw [Nat.zero_add]
    show runN I b s W = if (1 : Int) = 1 then _ else _
    rw [if_pos rfl]
    show runN I b s W = ((runN I b s W).1, (runN I b s W).2.1, 0 + (runN I b s W).2.2.1, (runN I b s W).2.2.2)
    rw [Nat.zero_add]
  | a + 1, b, s, W => by
    rw [Nat.add_right_comm, runN_succ, runN_succ]
    by_cases ho : (step I s W).2.1 = 1
    · rw [if_pos ho, if_pos ho, runN_add I a b]
      dsimp only
      split
      · dsimp only
        rw [Nat.add_right_comm]
      · rfl
    · rw [if_neg ho, if_neg ho]
      dsimp only
      rw [if_neg ho]
theorem run_at (z : Int) (L : Nat) (hz : z = (L : Int)) (I : Im) (s : St) (W : Wd) (N c p q : Nat) (S : Nat → Prop) (w : World) (hcb : Blk c (stv s) CPT w) (hbus : Bus N w q W S) (hIm : ImgAt N w p I) (hIo : I.Ok) (hE : EnvN N w) (hs : s.Ok) (hl : W.cs.length + 2 * L ≤ 70000) (hN : N ≤ w.heap.size) (hNc : N ≤ c) (hWo : W.Ok) :
    Calls Tryd.prog 18 #[.pointer (some ⟨c, 0, none⟩), .pointer (some ⟨p, 0, none⟩), (.iface 47 (.pointer (some ⟨q, 0, none⟩))), .int .i64 z] w fun e w' => e = .returned (.tuple #[.int .i64 (runN I L s W).2.1, .int .i64 ((runN I L s W).2.2.1 : Nat)]) ∧ Pf CPT N c q S (runN I L s W).1 (runN I L s W).2.2.2 w w' ∧ (runN I L s W).1.Ok ∧ (runN I L s W).2.2.2.Ok ∧ (runN I L s W).2.2.2.cs.length ≤ W.cs.length + 2 * L := by
  subst hz
  exact run_any L I s W N c p q S w hcb hbus hIm hIo hE hs hl hN hNc hWo
theorem grdC : Tryd.prog.eqGuardType Tryd.prog.depth 43 = false := by kernel_rfl
end Go.Proofs.YtbhglpiiabpdjaaDoor
