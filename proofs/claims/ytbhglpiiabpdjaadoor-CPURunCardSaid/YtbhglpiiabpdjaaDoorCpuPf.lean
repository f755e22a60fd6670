/-
  LAYER 12 (cpu): what stays of the program's tables, of an image, of a processor while a bus is called; whole structs copied.
-/
import Derived.Test.YtbhglpiiabpdjaaDoorCpuMb
namespace Go.Proofs.YtbhglpiiabpdjaaDoor
open Go Go.RowKit Go.IntWalk Go.WideShapes
set_option linter.unusedSimpArgs false
set_option linter.unusedVariables false
set_option maxRecDepth 8000

/-! ### The tables -/
abbrev insv (r : Int × Int) : List Value := [.int .i64 r.1, .int .i64 r.2]
theorem encS : Enc 2 insv := ⟨fun _ => rfl, fun x u hu => by simp at hu; rcases hu with rfl | rfl <;> rfl, by decide⟩
def inss : List (Int × Int) := [(0, 0), (0, 0), (0, 0), (0, 0), (0, 1), (0, 2), (0, 3), (0, 4), (0, 5), (0, 6), (0, 7), (0, 8), (0, 10), (0, 11), (1, 0), (1, 0), (3, 0), (3, 0), (4, 0), (0, 0), (0, 0), (0, 0), (0, 0), (5, 0), (6, 0), (0, 0), (7, 0), (1, 0), (2, 0), (0, 0), (0, 0)]
def ins (op : Nat) : Int × Int := inss.getD op (0, 0)
def insCells : List Value := flatL insv inss
structure EnvI (w : World) : Prop where
  tab : w.var? Tryd.prog "trickle/cpu.instructions" = some insCells.toArray
theorem EnvI.cell {w : World} (h : EnvI w) (k : Nat) (hk : k < 31) (j : Nat) {v : Value} (hv : (insv (ins k))[j]? = some v) : w.cell? ⟨0, k * 2 + j, none⟩ = some v := by
  have h1 := World.var?_cell (show Tryd.prog.globalNamed "trickle/cpu.instructions" = some 0 by kernel_rfl) h.tab (k * 2 + j)
  rw [h1]
  have h2 : inss[k]? = some (ins k) := by
    have hl : k < inss.length := hk
    unfold ins
    simp only [List.getD, List.getElem?_eq_getElem hl, Option.getD_some]
  have h3 := flatL_get encS h2 hv
  simpa [insCells] using h3
theorem var?_chg {P : Program} {w w' : World} {n : String} {cs : Array Value} {T : Nat → Prop} {g : Nat} (hg : P.globalNamed n = some g) (hb : Chg w w' T) (hT : ¬ T g) (h : w.var? P n = some cs) : w'.var? P n = some cs := by
  unfold World.var? at h ⊢
  simp only [hg, Option.bind_some] at h ⊢
  have hlt : g < w.heap.size := by
    rcases Nat.lt_or_ge g w.heap.size with h' | h'
    · exact h'
    · simp [Array.getElem?_eq_none h'] at h
  rw [hb.block g hlt hT]
  exact h
/-- The three tables lie below N. -/
structure EnvN (N : Nat) (w : World) : Prop where
  ops : Env w
  cst : EnvC w
  ins : EnvI w
  l1 : 1 < N
  l2 : 2 < N
  l3 : 0 < N
theorem EnvN.chg {N : Nat} {w w' : World} {T : Nat → Prop} (h : EnvN N w) (hc : Chg w w' T) (hT : ∀ k, T k → N ≤ k) : EnvN N w' :=
  ⟨⟨var?_chg (g := 1) (by kernel_rfl) hc (fun e => by have := hT _ e; have := h.l1; omega) h.ops.ops⟩, ⟨var?_chg (g := 2) (by kernel_rfl) hc (fun e => by have := hT _ e; have := h.l2; omega) h.cst.tab⟩,
   ⟨var?_chg (g := 0) (by kernel_rfl) hc (fun e => by have := hT _ e; have := h.l3; omega) h.ins.tab⟩, h.l1, h.l2, h.l3⟩
theorem EnvN.grew {N : Nat} {w w' : World} (h : EnvN N w) (hg : Grew w w') : EnvN N w' := h.chg (Chg.of_grew hg (fun _ => False)) fun _ h => h.elim
theorem EnvN.up {N M : Nat} {w : World} (h : EnvN N w) (hN : N ≤ M) : EnvN M w := ⟨h.ops, h.cst, h.ins, Nat.lt_of_lt_of_le h.l1 hN, Nat.lt_of_lt_of_le h.l2 hN, Nat.lt_of_lt_of_le h.l3 hN⟩

/-! ### The image -/
abbrev IMT : TypeId := 28
abbrev glv (g : ByteArray × Int × Int × Int) : List Value := [.string g.1, .int .i64 g.2.1, .int .i16 g.2.2.1, .int .i64 g.2.2.2]
theorem encG : Enc 4 glv := ⟨fun _ => rfl, fun x u hu => by simp at hu; rcases hu with rfl | rfl | rfl | rfl <;> rfl, by decide⟩
abbrev iv (z : Int) : List Value := [.int .i64 z]
theorem encZ : Enc 1 iv := ⟨fun _ => rfl, fun x u hu => by simp at hu; subst hu; rfl, by decide⟩
theorem encD : Enc 5 cdv := ⟨fun _ => rfl, fun x u hu => by simp at hu; rcases hu with rfl | rfl | rfl | rfl | rfl <;> rfl, by decide⟩
/-- The rows of an image, all below N. -/
structure ImRows (N : Nat) (w : World) (I : Im) (gp ap kp : Option Addr) (gc ac kc : Nat) : Prop where
  gs : RdL 4 glv w gp gc I.gs
  addr : RdL 1 iv w ap ac I.addr
  code : RdL 5 cdv w kp kc I.code
  gl : 0 < I.gs.length → ∀ a, gp = some a → a.block < N
  al : 0 < I.addr.length → ∀ a, ap = some a → a.block < N
  kl : 0 < I.code.length → ∀ a, kp = some a → a.block < N
theorem RdL.keepAt {α : Type} {k : Nat} {enc : α → List Value} {w w' : World} {p : Option Addr} {c : Nat} {xs : List α} {T : Nat → Prop} (h : RdL k enc w p c xs) (hc : Chg w w' T) (ha : 0 < xs.length → ∀ a, p = some a → ¬ T a.block) : RdL k enc w' p c xs :=
  ⟨h.cap, h.max, fun hn => by
    obtain ⟨b, o, rfl, hx⟩ := h.cells hn
    exact ⟨b, o, rfl, fun i x hi j v hv => (World.cell?_of_block (w := w) (w' := w') (a := ⟨b, o + i * k + j, none⟩) (hc.block b (World.block_lt_of_cell? _ _ (hx i x hi j v hv)) (ha hn _ rfl))).trans (hx i x hi j v hv)⟩⟩
theorem ImRows.chg {N : Nat} {w w' : World} {I : Im} {gp ap kp : Option Addr} {gc ac kc : Nat} {T : Nat → Prop} (h : ImRows N w I gp ap kp gc ac kc) (hc : Chg w w' T) (hT : ∀ k, T k → N ≤ k) : ImRows N w' I gp ap kp gc ac kc :=
  ⟨h.gs.keepAt hc fun hn a e e' => by have := hT _ e'; have := h.gl hn a e; omega, h.addr.keepAt hc fun hn a e e' => by have := hT _ e'; have := h.al hn a e; omega, h.code.keepAt hc fun hn a e e' => by have := hT _ e'; have := h.kl hn a e; omega, h.gl, h.al, h.kl⟩
/-- The fields of an image that nobody looks at. -/
structure Rest where
  v0 : Value
  v5 : Value
  v7 : Value
  v8 : Value
  v9 : Value
  v10 : Value
/-- The cells of an image. -/
abbrev imv (I : Im) (r : Rest) (gp ap kp hp : Option Addr) (gc ac kc hc : Nat) : List Value := [r.v0, .slice gp I.gs.length gc, .int .i64 I.sens, .int .i64 I.outs, .slice hp I.chans hc, r.v5, .slice ap I.addr.length ac, r.v7, r.v8, r.v9, r.v10, .slice kp I.code.length kc]
structure Im.Ok (I : Im) : Prop where
  code : ∀ x ∈ I.code, I16 x.i
  addr : ∀ z ∈ I.addr, -9223372036854775808 ≤ z ∧ z ≤ 9223372036854775807
  lc : I.code.length ≤ 9223372036854775807
  lens : ∀ g ∈ I.gs, -9223372036854775808 ≤ g.2.1 ∧ g.2.1 ≤ 9223372036854775807
/-- The image in its box at p. -/
def ImgAt (N : Nat) (w : World) (p : Nat) (I : Im) : Prop := ∃ r gp ap kp hp gc ac kc hc, Blk p (imv I r gp ap kp hp gc ac kc hc) IMT w ∧ ImRows N w I gp ap kp gc ac kc
theorem ImgAt.chg {N p : Nat} {w w' : World} {I : Im} {T : Nat → Prop} (h : ImgAt N w p I) (hc : Chg w w' T) (hT : ∀ k, T k → N ≤ k) (hp : ¬ T p) : ImgAt N w' p I := by
  obtain ⟨r, gp, ap, kp, hp', gc, ac, kc, hc', hb, hr⟩ := h
  exact ⟨r, gp, ap, kp, hp', gc, ac, kc, hc', hb.chg hc hp, hr.chg hc hT⟩
theorem ImgAt.grew {N p : Nat} {w w' : World} {I : Im} (h : ImgAt N w p I) (hg : Grew w w') : ImgAt N w' p I := h.chg (Chg.of_grew hg (fun _ => False)) (fun _ h => h.elim) id
theorem ImgAt.no {N M p q : Nat} {w : World} {I : Im} {W : Wd} {S : Nat → Prop} (h : ImgAt N w p I) (hb : Bus M w q W S) : ¬ S p := by
  obtain ⟨r, gp, ap, kp, hp', gc, ac, kc, hc', hk, hr⟩ := h
  exact hb.aside hk
theorem ImgAt.ne {N p c : Nat} {w : World} {I : Im} {vs : List Value} {e : TypeId} (h : ImgAt N w p I) (hb : Blk c vs e w) (he : (e != IMT) = true) : p ≠ c := by
  obtain ⟨r, gp, ap, kp, hp', gc, ac, kc, hc', hk, hr⟩ := h
  exact hk.ne hb fun e' => by rw [← e'] at he; simp at he

/-! ### A processor at c and a bus at q -/
def free (e : TypeId) : Bool := e != WT && (e != 29 && e != 96)
/-- From w the world has come to w', where the processor at c is in the state s and the bus at q is W. -/
structure Pf (e : TypeId) (N c q : Nat) (S : Nat → Prop) (s : St) (W : Wd) (w w' : World) : Prop where
  cpu : Blk c (stv s) e w'
  bus : ∃ S', Bus N w' q W S' ∧ Moved (fun k => k = c) S S' w w'
section
variable {e : TypeId} {N c q : Nat} {S : Nat → Prop} {s : St} {W W2 : Wd} {w w' w2 : World}
theorem Pf.start (hc : Blk c (stv s) e w) (hb : Bus N w q W S) : Pf e N c q S s W w w := ⟨hc, S, hb, Moved.refl _ _ _⟩
theorem Pf.grew (h : Pf e N c q S s W w w') (hg : Grew w' w2) : Pf e N c q S s W w w2 := by
  obtain ⟨h1, S', h2, h3⟩ := h
  exact ⟨h1.grew hg, S', h2.grew hg, h3.grow hg⟩
theorem Pf.size (h : Pf e N c q S s W w w') : w.heap.size ≤ w'.heap.size := by
  obtain ⟨_, _, _, h3⟩ := h
  exact h3.size
theorem Pf.cell (h : Pf e N c q S s W w w') (i : Nat) (v : Value) (he : free e = true) : Blk c ((stv s).set i v) e (w'.setCell ⟨c, i, none⟩ v) ∧ ∃ S', Bus N (w'.setCell ⟨c, i, none⟩ v) q W S' ∧ Moved (fun k => k = c) S S' w (w'.setCell ⟨c, i, none⟩ v) := by
  obtain ⟨h1, S', h2, h3⟩ := h
  have hn := h2.aside h1 he
  exact ⟨h1.set i v, S', h2.chg (Chg.set w' ⟨c, i, none⟩ v) (fun k hk e' => by have e2 : k = c := e'; subst e2; exact hn hk), h3.set ⟨c, i, none⟩ v rfl⟩
/-- A register or a frame slot is set. -/
theorem Pf.set (h : Pf e N c q S s W w w') (k : Nat) (v : Int) (he : free e = true := by decide) : Pf e N c q S (s.to k v s.pc) W w (w'.setCell ⟨c, 1 + k, none⟩ (.int .i16 v)) := by
  obtain ⟨h1, h2⟩ := h.cell (1 + k) (.int .i16 v) he
  exact ⟨by rw [← stv_set]; exact h1, h2⟩
/-- The program counter is set. -/
theorem Pf.pc (h : Pf e N c q S s W w w') (p : Int) (he : free e = true := by decide) : Pf e N c q S ⟨p, s.xs⟩ W w (w'.setCell ⟨c, 0, none⟩ (.int .i64 p)) := by
  obtain ⟨h1, h2⟩ := h.cell 0 (.int .i64 p) he
  exact ⟨by rw [← stv_setpc]; exact h1, h2⟩
/-- The bus is called. -/
theorem Pf.called {S1 : Nat → Prop} (h1 : Blk c (stv s) e w') (hb : Bus N w' q W S1) (h3 : Moved (fun k => k = c) S S1 w w') (he : free e = true) (hx : ∃ S2, Bus N w2 q W2 S2 ∧ Moved No S1 S2 w' w2) : Pf e N c q S s W2 w w2 := by
  obtain ⟨S2, hb2, hm⟩ := hx
  exact ⟨h1.moved hb hm he, S2, hb2, h3.trans (hm.mono fun _ h => h.elim)⟩
theorem Pf.other {B : Nat} {vs : List Value} {e' : TypeId} (h : Pf e N c q S s W w w') (hB : Blk B vs e' w) (hs : ¬ S B) (hne : B ≠ c) : Blk B vs e' w' := by
  obtain ⟨_, S', _, hm⟩ := h
  exact hB.chg hm.chg fun h1 => h1.elim (fun e => hne e) hs
theorem Pf.low (h : Pf e N c q S s W w w') (hb : Bus N w q W2 S) (hc : N ≤ c) : ∃ T : Nat → Prop, Chg w w' T ∧ (∀ k, T k → N ≤ k) ∧ (∀ k, T k → k = c ∨ S k) := by
  obtain ⟨_, S', _, hm⟩ := h
  exact ⟨_, hm.chg, fun k hk => hk.elim (fun e => e ▸ hc) fun h => (hb.low k h).1, fun k hk => hk⟩
theorem Pf.env (h : Pf e N c q S s W w w') (hb : Bus N w q W2 S) (hc : N ≤ c) (hE : EnvN N w) : EnvN N w' := by
  obtain ⟨T, h1, h2, _⟩ := h.low hb hc
  exact hE.chg h1 h2
theorem Pf.img {p : Nat} {I : Im} (h : Pf e N c q S s W w w') (hb : Bus N w q W2 S) (hc : N ≤ c) (hI : ImgAt N w p I) (hne : p ≠ c) : ImgAt N w' p I := by
  obtain ⟨T, h1, h2, h3⟩ := h.low hb hc
  exact hI.chg h1 h2 fun hp => (h3 p hp).elim hne (hI.no hb)
end
/-! ### The methods of the bus, beside a processor -/
section
variable {e : TypeId} {N c q : Nat} {S : Nat → Prop} {s : St} {W : Wd} {w V : World}
theorem spend_pf (h : Pf e N c q S s W w V) (n v : Int) (hl : W.cs.length ≤ 100000) (hN : N ≤ w.heap.size) (he : free e = true := by decide) : Calls Tryd.prog 29 #[.pointer (some ⟨q, 0, none⟩), .int .i64 n, .int .i64 v] V fun r w' => r = .returned (.bool (W.call 8 n v).okb) ∧ Pf e N c q S s (W.call 8 n v) w w' := by
  obtain ⟨h1, S1, h2, h3⟩ := h
  exact (spnd_any n v N q W S1 V h2 hl (Nat.le_trans hN h3.size)).mono fun r w' h => ⟨h.1, Pf.called h1 h2 h3 he h.2⟩
theorem send_pf (h : Pf e N c q S s W w V) (n v : Int) (bv : I16 v) (hl : W.cs.length ≤ 100000) (hN : N ≤ w.heap.size) (he : free e = true := by decide) : Calls Tryd.prog 38 #[.pointer (some ⟨q, 0, none⟩), .int .i64 n, .int .i16 v] V fun r w' => r = .returned (.bool (W.call 4 n v).okb) ∧ Pf e N c q S s (W.call 4 n v) w w' := by
  obtain ⟨h1, S1, h2, h3⟩ := h
  exact (send_any n v N q W S1 V h2 hl (Nat.le_trans hN h3.size) bv).mono fun r w' h => ⟨h.1, Pf.called h1 h2 h3 he h.2⟩
theorem emit_pf (h : Pf e N c q S s W w V) (v : Int) (bv : I16 v) (hl : W.cs.length ≤ 100000) (hN : N ≤ w.heap.size) (he : free e = true := by decide) : Calls Tryd.prog 39 #[.pointer (some ⟨q, 0, none⟩), .int .i16 v] V fun r w' => r = .returned (.bool (W.call 5 v 0).okb) ∧ Pf e N c q S s (W.call 5 v 0) w w' := by
  obtain ⟨h1, S1, h2, h3⟩ := h
  exact (emit_any v N q W S1 V h2 hl (Nat.le_trans hN h3.size) bv).mono fun r w' h => ⟨h.1, Pf.called h1 h2 h3 he h.2⟩
theorem outp_pf (h : Pf e N c q S s W w V) (n v : Int) (bv : I16 v) (hl : W.cs.length ≤ 100000) (hN : N ≤ w.heap.size) (he : free e = true := by decide) : Calls Tryd.prog 40 #[.pointer (some ⟨q, 0, none⟩), .int .i64 n, .int .i16 v] V fun r w' => r = .returned (.bool (W.call 6 n v).okb) ∧ Pf e N c q S s (W.call 6 n v) w w' := by
  obtain ⟨h1, S1, h2, h3⟩ := h
  exact (outp_any n v N q W S1 V h2 hl (Nat.le_trans hN h3.size) bv).mono fun r w' h => ⟨h.1, Pf.called h1 h2 h3 he h.2⟩
theorem logw_pf (h : Pf e N c q S s W w V) (n : Int) (hl : W.cs.length ≤ 100000) (hN : N ≤ w.heap.size) (he : free e = true := by decide) : Calls Tryd.prog 41 #[.pointer (some ⟨q, 0, none⟩), .int .i64 n] V fun r w' => r = .returned (.bool (W.call 7 n 0).okb) ∧ Pf e N c q S s (W.call 7 n 0) w w' := by
  obtain ⟨h1, S1, h2, h3⟩ := h
  exact (logw_any n N q W S1 V h2 hl (Nat.le_trans hN h3.size)).mono fun r w' h => ⟨h.1, Pf.called h1 h2 h3 he h.2⟩
theorem load_pf (h : Pf e N c q S s W w V) (n : Int) (hd : dat n = true) (hl : W.cs.length ≤ 100000) (hN : N ≤ w.heap.size) (he : free e = true := by decide) : Calls Tryd.prog 34 #[.pointer (some ⟨q, 0, none⟩), .int .i64 n] V fun r w' => r = .returned (.tuple #[.int .i16 (W.load n).1, .bool (W.load n).2.1]) ∧ Pf e N c q S s (W.load n).2.2 w w' := by
  obtain ⟨h1, S1, h2, h3⟩ := h
  exact (load_any n hd N q W S1 V h2 hl (Nat.le_trans hN h3.size)).mono fun r w' h => ⟨h.1, Pf.called h1 h2 h3 he h.2⟩
theorem store_pf (h : Pf e N c q S s W w V) (n v : Int) (hd : dat n = true) (bv : I16 v) (hl : W.cs.length ≤ 100000) (hN : N ≤ w.heap.size) (he : free e = true := by decide) : Calls Tryd.prog 35 #[.pointer (some ⟨q, 0, none⟩), .int .i64 n, .int .i16 v] V fun r w' => r = .returned (.bool (W.store n v).1) ∧ Pf e N c q S s (W.store n v).2 w w' := by
  obtain ⟨h1, S1, h2, h3⟩ := h
  exact (store_any n v hd bv N q W S1 V h2 hl (Nat.le_trans hN h3.size)).mono fun r w' h => ⟨h.1, Pf.called h1 h2 h3 he h.2⟩
theorem read_pf (h : Pf e N c q S s W w V) (n : Int) (hl : W.cs.length ≤ 100000) (hN : N ≤ w.heap.size) (he : free e = true := by decide) : Calls Tryd.prog 37 #[.pointer (some ⟨q, 0, none⟩), .int .i64 n] V fun r w' => r = .returned (.tuple #[.int .i16 (W.read n).1, .bool (W.read n).2.1]) ∧ Pf e N c q S s (W.read n).2.2 w w' := by
  obtain ⟨h1, S1, h2, h3⟩ := h
  exact (read_any n N q W S1 V h2 hl (Nat.le_trans hN h3.size)).mono fun r w' h => ⟨h.1, Pf.called h1 h2 h3 he h.2⟩
end
/-! ### Whole structs -/
theorem setCells_chg (b : Nat) : ∀ (vs : List Value) (o : Nat) (w : World), Chg w (w.setCells b o vs) (fun k => k = b)
  | [], _, w => Chg.refl w _
  | v :: r, o, w => by
    rw [World.setCells]
    exact (Chg.set w ⟨b, o, none⟩ v).trans (setCells_chg b r (o + 1) _)
theorem setCells_blk {b : Nat} {e : TypeId} : ∀ (r : List Value) (o : Nat) (vs : List Value) (w : World), o + r.length ≤ vs.length → Blk b vs e w → Blk b (vs.take o ++ r ++ vs.drop (o + r.length)) e (w.setCells b o r)
  | [], o, vs, w, _, h => by simpa [World.setCells] using h
  | v :: r, o, vs, w, hl, h => by
    rw [World.setCells]
    have h1 := setCells_blk r (o + 1) (vs.set o v) _ (by simp at hl ⊢; omega) (h.set o v)
    have e0 : (vs.set o v).take (o + 1) = vs.take o ++ [v] := by
      simp only [List.length_cons] at hl
      rw [List.take_set, List.take_succ_eq_append_getElem (by omega : o < vs.length), List.set_append_right _ _ (by simp; omega)]
      simp [show o - min o vs.length = 0 by omega]
    have e : (vs.set o v).take (o + 1) ++ r ++ (vs.set o v).drop (o + 1 + r.length) = vs.take o ++ (v :: r) ++ vs.drop (o + (v :: r).length) := by
      rw [e0, List.drop_set_of_lt (by omega), List.length_cons, show o + 1 + r.length = o + (r.length + 1) by omega]
      simp
    rw [e] at h1
    exact h1
theorem Blk.setAll {b : Nat} {e : TypeId} {vs us : List Value} {w : World} (h : Blk b vs e w) (hl : us.length = vs.length) : Blk b us e (w.setCells b 0 us) := by
  have := setCells_blk us 0 vs w (by omega) h
  simpa [hl] using this
theorem Blk.there {b : Nat} {e : TypeId} {vs : List Value} {w : World} (h : Blk b vs e w) {n : Nat} (hn : n = vs.length) : w.there b 0 n := fun j hj => ⟨by rw [Nat.zero_add, h.cell, List.getElem?_eq_getElem (by omega)]; rfl, h.free _⟩
theorem Blk.range {b : Nat} {e : TypeId} {vs : List Value} {w : World} (h : Blk b vs e w) : w.rangeAt b 0 vs := fun j v hv => by rw [Nat.zero_add, h.cell]; exact hv
def zst : St := ⟨0, List.replicate 72 0⟩
theorem zst_ok : zst.Ok := ⟨by simp [zst], fun v hv => by rw [List.eq_of_mem_replicate hv]; exact zero16⟩
abbrev CPT : TypeId := 43
abbrev STT : TypeId := 33
theorem zeroC (w : World) : (zeroValue CPT).run Tryd.prog w = .ok (.agg (stv zst).toArray) w := by kernel_rfl
theorem zeroS (w : World) : (zeroValue STT).run Tryd.prog w = .ok (.agg (stv zst).toArray) w := by kernel_rfl
section
variable {ops : Array Oper} {rest : List Oper} {o : Oper} {a : Act} {Q : Exit → Act → World → Prop} {w : World}
/-- A variable of a struct type is made. -/
theorem wpList_alloc_whole {P : Program} (hg : o.guard = none) (T : TypeId) (ho : o.op = .alloc T) (zs : Array Value) (hz : ∀ w, (zeroValue T).run P w = .ok (.agg zs) w)
    (h : wpList P ops Q rest (a.put o.dst (.pointer (some ⟨w.heap.size, 0, none⟩))) (w.alloc (.cells zs T))) : wpList P ops Q (o :: rest) a w := by
  refine wpList_plain hg fun K hK => ?_
  unfold Oper.wp
  have hrun : (Instr.alloc T true (.tuple #[])).run P w = .ok (.pointer (some ⟨w.heap.size, 0, none⟩)) (w.alloc (.cells zs T)) := by
    unfold Instr.alloc
    simp only [Sem.run_bind, hz, Result.andThen_ok]
    rfl
  simp only [execOp, ho, Sem.run_bind, hrun, Result.andThen_ok, Sem.run_pure]
  exact hK _ _ h
end
theorem sizeC : (Tryd.prog.info? CPT).map (·.size) = some 73 := by kernel_rfl
theorem sizeS : (Tryd.prog.info? STT).map (·.size) = some 73 := by kernel_rfl
section
variable {ops : Array Oper} {rest : List Oper} {o : Oper} {a : Act} {Q : Exit → Act → World → Prop} {w : World}
theorem load_st {e : TypeId} {fs : Array Field} (hu : Tryd.prog.underlying e = some (.struct fs)) (hi : (Tryd.prog.info? e).map (·.size) = some 73) (hg : o.guard = none) (x : Operand) (ho : o.op = .load e x) (b : Nat) (hx : a.eval x = .pointer (some ⟨b, 0, none⟩)) (s : St) (hs : s.Ok) (hb : Blk b (stv s) e w)
    (h : wpList Tryd.prog ops Q rest (a.put o.dst (.agg (stv s).toArray)) w) : wpList Tryd.prog ops Q (o :: rest) a w :=
  wpList_load_mid hg e x ho b 0 hx (stv s) _ hb.range hu rfl (by rw [hi, stv_len hs]) h
theorem store_st {e : TypeId} (hi : (Tryd.prog.info? e).map (·.size) = some 73) (hg : o.guard = none) (x y : Operand) (ho : o.op = .store e x y) (b : Nat) (hx : a.eval x = .pointer (some ⟨b, 0, none⟩)) (s s0 : St) (hs : s.Ok) (hs0 : s0.Ok) (hy : a.eval y = .agg (stv s).toArray) (hb : Blk b (stv s0) e w)
    (h : ∀ w', Blk b (stv s) e w' → Chg w w' (fun k => k = b) → wpList Tryd.prog ops Q rest (a.put o.dst undef) w') : wpList Tryd.prog ops Q (o :: rest) a w :=
  wpList_store_mid hg e x y ho b 0 (stv s).toArray hx hy (hb.there (by simp [stv_len hs, stv_len hs0])) (by rw [hi]; simp [stv_len hs]) (all_oneCell_toArray (stv_one s))
    (h _ (by simpa using hb.setAll (us := stv s) (by rw [stv_len hs, stv_len hs0])) (by simpa using setCells_chg b (stv s) 0 w))
theorem alloc_cpu (hg : o.guard = none) (ho : o.op = .alloc CPT) (h : ∀ w', Blk w.heap.size (stv zst) CPT w' → Grew w w' → wpList Tryd.prog ops Q rest (a.put o.dst (.pointer (some ⟨w.heap.size, 0, none⟩))) w') : wpList Tryd.prog ops Q (o :: rest) a w :=
  wpList_alloc_whole hg CPT ho _ zeroC (h _ (Blk.new w _ _) ((Grew.refl _).alloc _))
theorem alloc_st (hg : o.guard = none) (ho : o.op = .alloc STT) (h : ∀ w', Blk w.heap.size (stv zst) STT w' → Grew w w' → wpList Tryd.prog ops Q rest (a.put o.dst (.pointer (some ⟨w.heap.size, 0, none⟩))) w') : wpList Tryd.prog ops Q (o :: rest) a w :=
  wpList_alloc_whole hg STT ho _ zeroS (h _ (Blk.new w _ _) ((Grew.refl _).alloc _))
end
/-- A state and a number are handed back. -/
theorem ret_st {fn : Func} {p0 p1 : Tmp} (h : fn.results = #[.cell p0 STT, .tmp p1]) {tmps : Array Value} {w : World} {S0 : Nat} {s : St} {v : Value} {R : Ending → World → Prop} (hs : s.Ok) (hp0 : tmps.getD p0 undef = .pointer (some ⟨S0, 0, none⟩)) (hp1 : tmps.getD p1 undef = v) (hb : Blk S0 (stv s) STT w)
    (hR : R (.returned (.tuple #[.agg (stv s).toArray, v])) w) : bodyPost Tryd.prog fn R .ret { tmps := tmps, defers := [] } w := by
  refine bodyPost_ret (v := .tuple #[.agg (stv s).toArray, v]) ?_ rfl hR
  rw [Array.getD_eq_getD_getElem?] at hp0 hp1
  have hl := run_loadVar_mid (P := Tryd.prog) w S0 0 STT (stv s) _ hb.range Tryd.underlying33 rfl (by rw [sizeS, stv_len hs])
  simp [results, h, hp0, hp1, asAddr, hl]
end Go.Proofs.YtbhglpiiabpdjaaDoor
