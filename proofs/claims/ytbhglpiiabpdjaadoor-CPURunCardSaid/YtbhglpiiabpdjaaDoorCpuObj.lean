/-
  LAYER 12 (cpu): the simulated bus in memory; the state of a processor in memory; what a call on the bus may change.
-/
import Derived.Test.YtbhglpiiabpdjaaDoorCpuPlain
import Derived.Deep.MidRow
namespace Go.Proofs.YtbhglpiiabpdjaaDoor
open Go Go.RowKit Go.IntWalk Go.WideShapes
set_option linter.unusedSimpArgs false
set_option linter.unusedVariables false

abbrev h16 (z : Int) : List Value := [.int .i16 z]
theorem encH : Enc 1 h16 := ⟨fun _ => rfl, fun x u hu => by simp at hu; subst hu; rfl, by decide⟩
abbrev clv (c : Int × Int × Int) : List Value := [.int .i64 c.1, .int .i64 c.2.1, .int .i64 c.2.2]
theorem encL : Enc 3 clv := ⟨fun _ => rfl, fun x u hu => by simp at hu; rcases hu with rfl | rfl | rfl <;> rfl, by decide⟩
theorem infoH : (Tryd.prog.info? 29).map (fun i => (i.zero, i.size, i.bytes)) = some (some (.int .i16 0), 1, 2) := by kernel_rfl
theorem infoL : (Tryd.prog.info? 96).map (fun i => (i.zero, i.size, i.bytes)) = some (some (.agg #[.int .i64 0, .int .i64 0, .int .i64 0]), 3, 24) := by kernel_rfl
/-- The state as cells. -/
def stv (s : St) : List Value := .int .i64 s.pc :: s.xs.map (Value.int .i16)
theorem stv_len {s : St} (h : s.Ok) : (stv s).length = 73 := by simp [stv, h.len]
theorem stv_pc (s : St) : (stv s)[0]? = some (.int .i64 s.pc) := rfl
theorem stv_at {s : St} (h : s.Ok) {k : Nat} (hk : k < 72) : (stv s)[1 + k]? = some (.int .i16 (s.reg k)) := by
  rw [Nat.add_comm]
  simp [stv, h.at hk]
theorem stv_set (s : St) (k : Nat) (v : Int) : (stv s).set (1 + k) (.int .i16 v) = stv (s.to k v s.pc) := by
  rw [Nat.add_comm]
  simp [stv, St.to, List.map_set]
theorem stv_setpc (s : St) (p : Int) : (stv s).set 0 (.int .i64 p) = stv ⟨p, s.xs⟩ := rfl
theorem stv_one (s : St) : ∀ v ∈ stv s, v.oneCell' = true := fun v hv => by
  rcases List.mem_cons.1 hv with rfl | hv
  · rfl
  · obtain ⟨x, _, rfl⟩ := List.mem_map.1 hv
    rfl
abbrev WT : TypeId := 37
/-- A block of a bus. -/
def Kind3 (w : World) (k : Nat) : Prop := ∃ cs e fr, w.heap[k]? = some (.cells cs e fr) ∧ (e = WT ∨ e = 29 ∨ e = 96)
theorem Kind3.lt {w : World} {k : Nat} (h : Kind3 w k) : k < w.heap.size := by obtain ⟨_, _, _, h, _⟩ := h; exact lt_of_heap h
theorem Kind3.not {w : World} {k : Nat} (h : Kind3 w k) {vs : List Value} {e : TypeId} (hb : Blk k vs e w) (h1 : e ≠ WT) (h2 : e ≠ 29) (h3 : e ≠ 96) : False := by
  obtain ⟨cs, e', fr, h, he⟩ := h
  have h4 : w.heap[k]? = _ := hb
  rw [h] at h4
  simp only [Option.some.injEq, Obj.cells.injEq] at h4
  rcases he with rfl | rfl | rfl
  · exact h1 h4.2.1.symm
  · exact h2 h4.2.1.symm
  · exact h3 h4.2.1.symm
theorem kinds_ne {w : World} {a b : Nat} {cs cs' : Array Value} {e e' : TypeId} {fr fr' : Nat × Nat} (h : w.heap[a]? = some (.cells cs e fr)) (h' : w.heap[b]? = some (.cells cs' e' fr')) (he : e ≠ e') : a ≠ b := fun hab => by
  subst hab
  rw [h] at h'
  simp only [Option.some.injEq, Obj.cells.injEq] at h'
  exact he h'.2.1
/-- The bus at the block q, where its slices lie; S names its blocks, none of them below N. -/
structure BusAt (N : Nat) (w : World) (q : Nat) (W : Wd) (S : Nat → Prop) (wp rp cp : Option Addr) (wc rc cc : Nat) : Prop where
  rcd : Blk q [.slice wp W.ws.length wc, .slice rp W.rs.length rc, .int .i64 W.fl, .slice cp W.cs.length cc] WT w
  ow : OwR w N 29 1 h16 (.slice wp W.ws.length wc) W.ws
  rd : RdL 1 h16 w rp rc W.rs
  oc : OwR w N 96 3 clv (.slice cp W.cs.length cc) W.cs
  rt : ∀ a, rp = some a → ∃ cs fr, w.heap[a.block]? = some (.cells cs 29 fr)
  ne : ∀ a b, wp = some a → rp = some b → a.block ≠ b.block
  sq : S q
  sw : ∀ a, wp = some a → S a.block
  sr : ∀ a, rp = some a → S a.block
  sc : ∀ a, cp = some a → S a.block
  low : ∀ k, S k → N ≤ k ∧ Kind3 w k
theorem RdL.chg {α : Type} {k : Nat} {enc : α → List Value} {w w' : World} {p : Option Addr} {c : Nat} {xs : List α} {T : Nat → Prop} (h : RdL k enc w p c xs) (hc : Chg w w' T) (ha : ∀ a, p = some a → ¬ T a.block) : RdL k enc w' p c xs :=
  ⟨h.cap, h.max, fun hn => by
    obtain ⟨b, o, rfl, hx⟩ := h.cells hn
    exact ⟨b, o, rfl, fun i x hi j v hv => (World.cell?_of_block (w := w) (w' := w') (a := ⟨b, o + i * k + j, none⟩) (hc.block b (World.block_lt_of_cell? _ _ (hx i x hi j v hv)) (ha _ rfl))).trans (hx i x hi j v hv)⟩⟩
section
variable {N q : Nat} {w w' : World} {W : Wd} {S : Nat → Prop} {wp rp cp : Option Addr} {wc rc cc : Nat}
theorem Kind3.chg {k : Nat} {T : Nat → Prop} (h : Kind3 w k) (hc : Chg w w' T) (ha : ¬ T k) : Kind3 w' k := by
  obtain ⟨cs, e, fr, h, he⟩ := h
  exact ⟨cs, e, fr, (hc.block k (lt_of_heap h) ha).trans h, he⟩
theorem BusAt.chg {T : Nat → Prop} (h : BusAt N w q W S wp rp cp wc rc cc) (hc : Chg w w' T) (ha : ∀ k, S k → ¬ T k) : BusAt N w' q W S wp rp cp wc rc cc :=
  ⟨h.rcd.chg hc (ha _ h.sq), h.ow.chg hc fun a e => ha _ (h.sw a e), h.rd.chg hc fun a e => ha _ (h.sr a e), h.oc.chg hc fun a e => ha _ (h.sc a e),
   fun a e => by
    obtain ⟨cs, fr, h1⟩ := h.rt a e
    exact ⟨cs, fr, (hc.block _ (lt_of_heap h1) (ha _ (h.sr a e))).trans h1⟩, h.ne, h.sq, h.sw, h.sr, h.sc, fun k hk => ⟨(h.low k hk).1, (h.low k hk).2.chg hc (ha k hk)⟩⟩
theorem BusAt.grew (h : BusAt N w q W S wp rp cp wc rc cc) (hg : Grew w w') : BusAt N w' q W S wp rp cp wc rc cc := h.chg (Chg.of_grew hg (fun _ => False)) fun _ _ => id
theorem BusAt.qw (h : BusAt N w q W S wp rp cp wc rc cc) : ∀ a, wp = some a → a.block ≠ q := fun a e => by
  obtain ⟨cur, h1⟩ := h.ow.kind encH a e
  exact kinds_ne h1 h.rcd (by decide)
theorem BusAt.qr (h : BusAt N w q W S wp rp cp wc rc cc) : ∀ a, rp = some a → a.block ≠ q := fun a e => by
  obtain ⟨cs, fr, h1⟩ := h.rt a e
  exact kinds_ne h1 h.rcd (by decide)
theorem BusAt.qc (h : BusAt N w q W S wp rp cp wc rc cc) : ∀ a, cp = some a → a.block ≠ q := fun a e => by
  obtain ⟨cur, h1⟩ := h.oc.kind encL a e
  exact kinds_ne h1 h.rcd (by decide)
theorem BusAt.wcn (h : BusAt N w q W S wp rp cp wc rc cc) : ∀ a b, wp = some a → cp = some b → a.block ≠ b.block := fun a b e e' => by
  obtain ⟨cur, h1⟩ := h.ow.kind encH a e
  obtain ⟨cur', h2⟩ := h.oc.kind encL b e'
  exact kinds_ne h1 h2 (by decide)
theorem BusAt.rcn (h : BusAt N w q W S wp rp cp wc rc cc) : ∀ a b, rp = some a → cp = some b → a.block ≠ b.block := fun a b e e' => by
  obtain ⟨cs, fr, h1⟩ := h.rt a e
  obtain ⟨cur', h2⟩ := h.oc.kind encL b e'
  exact kinds_ne h1 h2 (by decide)
end
/-- The bus, wherever its slices lie. -/
def Bus (N : Nat) (w : World) (q : Nat) (W : Wd) (S : Nat → Prop) : Prop := ∃ wp rp cp wc rc cc, BusAt N w q W S wp rp cp wc rc cc
/-- Of the old blocks only those of S (and of T) have changed; the blocks of S' are of S, or new. -/
structure Moved (T S S' : Nat → Prop) (w w' : World) : Prop where
  chg : Chg w w' (fun k => T k ∨ S k)
  new : ∀ k, S' k → S k ∨ w.heap.size ≤ k
theorem Moved.refl (T S : Nat → Prop) (w : World) : Moved T S S w w := ⟨Chg.refl _ _, fun _ h => .inl h⟩
theorem Moved.of_grew (T S : Nat → Prop) {w w' : World} (h : Grew w w') : Moved T S S w w' := ⟨Chg.of_grew h _, fun _ h => .inl h⟩
theorem Moved.trans {T S S1 S2 : Nat → Prop} {w w1 w2 : World} (h : Moved T S S1 w w1) (h' : Moved T S1 S2 w1 w2) : Moved T S S2 w w2 :=
  ⟨⟨h'.chg.os.trans h.chg.os, h'.chg.tape.trans h.chg.tape, h'.chg.output.trans h.chg.output, Nat.le_trans h.chg.size h'.chg.size, fun k hk hs => by
    refine (h'.chg.block k (by have := h.chg.size; omega) fun h1 => ?_).trans (h.chg.block k hk hs)
    rcases h1 with h1 | h1
    · exact hs (.inl h1)
    · rcases h.new k h1 with h2 | h2
      · exact hs (.inr h2)
      · omega⟩, fun k hk => by
    rcases h'.new k hk with h1 | h1
    · exact h.new k h1
    · exact .inr (by have := h.chg.size; omega)⟩
theorem Moved.mono {T T' S S' : Nat → Prop} {w w' : World} (h : Moved T S S' w w') (ht : ∀ k, T k → T' k) : Moved T' S S' w w' := ⟨h.chg.mono fun k hk => hk.imp (ht k) id, h.new⟩
theorem Moved.size {T S S' : Nat → Prop} {w w' : World} (h : Moved T S S' w w') : w.heap.size ≤ w'.heap.size := h.chg.size
theorem Moved.grow {T S S' : Nat → Prop} {w w' w2 : World} (h : Moved T S S' w w') (hg : Grew w' w2) : Moved T S S' w w2 := h.trans (Moved.of_grew T S' hg)
theorem Moved.set {T S S' : Nat → Prop} {w w' : World} (h : Moved T S S' w w') (a : Addr) (v : Value) (ha : T a.block) : Moved T S S' w (w'.setCell a v) :=
  h.trans ⟨(Chg.set w' a v).mono fun _ e => .inl (e ▸ ha), fun _ h => .inl h⟩
/-- Nothing else. -/
abbrev No : Nat → Prop := fun _ => False
section
variable {N q : Nat} {w w' : World} {W : Wd} {S S' T : Nat → Prop}
theorem Bus.chg (h : Bus N w q W S) (hc : Chg w w' T) (ha : ∀ k, S k → ¬ T k) : Bus N w' q W S := by
  obtain ⟨a, b, c, d, e, f, h⟩ := h
  exact ⟨a, b, c, d, e, f, h.chg hc ha⟩
theorem Bus.grew (h : Bus N w q W S) (hg : Grew w w') : Bus N w' q W S := h.chg (Chg.of_grew hg (fun _ => False)) fun _ _ => id
theorem Bus.low (h : Bus N w q W S) : ∀ k, S k → N ≤ k ∧ Kind3 w k := by
  obtain ⟨a, b, c, d, e, f, h⟩ := h
  exact h.low
/-- A box of another type is none of the bus's blocks, and stays. -/
theorem Bus.aside (h : Bus N w q W S) {B : Nat} {vs : List Value} {e : TypeId} (hb : Blk B vs e w) (he : (e != WT && (e != 29 && e != 96)) = true := by decide) : ¬ S B := fun hs => by
  simp only [Bool.and_eq_true, bne_iff_ne, ne_eq] at he
  exact (h.low B hs).2.not hb he.1 he.2.1 he.2.2
theorem Blk.moved {B : Nat} {vs : List Value} {e : TypeId} (hb : Blk B vs e w) (h : Bus N w q W S) (hm : Moved No S S' w w') (he : (e != WT && (e != 29 && e != 96)) = true := by decide) : Blk B vs e w' :=
  hb.chg hm.chg fun h1 => h1.elim id (h.aside hb he)
theorem Moved.below (h : Moved T S S' w w') {M : Nat} (hM : M ≤ w.heap.size) (hT : ∀ k, T k → M ≤ k) (hS : ∀ k, S k → M ≤ k) : Below M w w' := h.chg.below hM fun k hk => hk.elim (hT k) (hS k)
end
/-- The slice's block, and what append says of it. -/
theorem append_row2 {α : Type} {k : Nat} {enc : α → List Value} {P : Program} {w : World} {ops : Array Oper} {rest : List Oper} {o : Oper} {a : Act} {Q : Exit → Act → World → Prop} (E : Enc k enc) (hgd : o.guard = none) (s x : Operand) (t : TypeId)
    (ho : o.op = .call { callee := .builtin .append, args := #[s, x], argTypes := #[t, t] })
    (base : Nat) (e : TypeId) (z : Value) (by' : Nat) (ht : P.underlying t = some (.slice e)) (hi : (P.info? e).map (fun i => (i.zero, i.size, i.bytes)) = some (some z, k, by')) (hzs : z.cells.size = k)
    (v : Value) (xs : List α) (hs : a.eval s = v) (hown : OwR w base e k enc v xs)
    (p : Option Addr) (n c : Nat) (ys : List α) (hx : a.eval x = .slice p n c) (hl : ys.length = n) (hin : Rw k enc w p c ys)
    (hbytes : (xs.length + ys.length) * by' ≤ 140737488355328) (h63 : xs.length + ys.length ≤ 9223372036854775807) (hbase : base ≤ w.heap.size)
    (h : ∀ p' c' zs w', Hid (zs = xs ++ ys) → OwR w' base e k enc (.slice p' zs.length c') zs → Below base w w' → Chg w w' (fun j => v.ownBlock = some j) → (∀ a', p' = some a' → v.ownBlock = some a'.block ∨ a'.block = w.heap.size) → wpList P ops Q rest (a.put o.dst (.slice p' zs.length c')) w') : wpList P ops Q (o :: rest) a w := by
  obtain ⟨v', w', hrun, h2, h3, h4, h5⟩ := run_append_row (P := P) E t o.type base e z by' ht hi hzs v xs hown p n c ys hl hin hbytes h63 hbase
  obtain ⟨p', c', rfl, _, _⟩ := h2.parts E
  refine wpList_plain hgd fun K hK => ?_
  unfold Oper.wp
  simp [execOp, ho, resolve, invoke, builtin, hs, hx, hrun, Result.andThen]
  have := h p' c' _ w' rfl h2 h3 (Chg.of_grownBy h4) (fun a' ha' => by
    subst ha'
    rw [ownBlock_sl] at h5
    rcases h5 with h5 | h5
    · exact .inl h5.symm
    · exact .inr (by simpa using h5))
  rw [List.length_append] at this
  exact hK _ _ this
section
variable {N q : Nat} {w : World} {W : Wd} {S : Nat → Prop} {wp rp cp : Option Addr} {wc rc cc : Nat}
/-- A call is recorded. -/
theorem BusAt.called (h : BusAt N w q W S wp rp cp wc rc cc) (k a b : Int) {V w3 : World} (hg : Grew w V) {p2 : Option Addr} {c2 : Nat} (ho : OwR w3 N 96 3 clv (.slice p2 (W.cs ++ [(k, a, b)]).length c2) (W.cs ++ [(k, a, b)]))
    (hc : Chg V w3 (fun j => Value.ownBlock (.slice cp W.cs.length cc) = some j)) (hp : ∀ a', p2 = some a' → Value.ownBlock (.slice cp W.cs.length cc) = some a'.block ∨ a'.block = V.heap.size) :
    ∃ S', BusAt N (w3.setCell ⟨q, 3, none⟩ (.slice p2 (W.cs ++ [(k, a, b)]).length c2)) q (W.call k a b) S' wp rp p2 wc rc c2 ∧ Moved No S S' w (w3.setCell ⟨q, 3, none⟩ (.slice p2 (W.cs ++ [(k, a, b)]).length c2)) := by
  have hV := h.grew hg
  rw [ownBlock_sl] at hc hp
  have hT : ∀ j, Option.map (·.block) cp = some j → ∃ x, cp = some x ∧ x.block = j := fun j hj => by
    cases hcp : cp with
    | none => rw [hcp] at hj; cases hj
    | some x => rw [hcp] at hj; exact ⟨x, rfl, by simpa using hj⟩
  have q3 : Blk q _ WT w3 := hV.rcd.chg hc fun e => by
    obtain ⟨x, hx, he⟩ := hT _ e
    exact hV.qc x hx he
  have w3' : OwR w3 N 29 1 h16 _ _ := hV.ow.chg hc fun y hy e => by
    obtain ⟨x, hx, he⟩ := hT _ e
    exact hV.wcn y x hy hx he.symm
  have r3 := hV.rd.chg hc fun y hy e => by
    obtain ⟨x, hx, he⟩ := hT _ e
    exact hV.rcn y x hy hx he.symm
  have hs : Chg w3 (w3.setCell ⟨q, 3, none⟩ (.slice p2 (W.cs ++ [(k, a, b)]).length c2)) (fun j => j = q) := Chg.set w3 _ _
  have pk := ho.kind encL
  refine ⟨fun j => (S j ∧ ¬ ∃ x, cp = some x ∧ x.block = j) ∨ ∃ x, p2 = some x ∧ x.block = j, ⟨?_, w3'.chg hs fun a' e => hV.qw a' e, r3.chg hs fun a' e => hV.qr a' e, ho.chg hs fun a' e => ?_, fun a' e => ?_, h.ne, .inl ⟨h.sq, fun ⟨x, hx, he⟩ => h.qc x hx he⟩, fun a' e => .inl ⟨h.sw a' e, fun ⟨x, hx, he⟩ => h.wcn a' x e hx he.symm⟩, fun a' e => .inl ⟨h.sr a' e, fun ⟨x, hx, he⟩ => h.rcn a' x e hx he.symm⟩, fun a' e => .inr ⟨a', e, rfl⟩, fun j hj => ?_⟩, ⟨?_, fun j hj => ?_⟩⟩
  · exact q3.set 3 _
  · obtain ⟨cur, h1⟩ := pk a' e
    exact kinds_ne h1 q3 (by decide)
  · obtain ⟨cs, fr, h1⟩ := hV.rt a' e
    have h2 := (hc.block _ (lt_of_heap h1) fun e' => by
      obtain ⟨x, hx, he⟩ := hT _ e'
      exact hV.rcn a' x e hx he.symm).trans h1
    exact ⟨cs, fr, (hs.block _ (lt_of_heap h2) (hV.qr a' e)).trans h2⟩
  · have new : ∀ x, p2 = some x → N ≤ x.block ∧ Kind3 (w3.setCell ⟨q, 3, none⟩ (.slice p2 (W.cs ++ [(k, a, b)]).length c2)) x.block := fun x hx => by
      obtain ⟨cur, h1⟩ := pk x hx
      have h2 := (hs.block _ (lt_of_heap h1) (kinds_ne h1 q3 (by decide))).trans h1
      exact ⟨(ho.place encL x hx).1, _, _, _, h2, .inr (.inr rfl)⟩
    rcases hj with ⟨hj, hjc⟩ | ⟨x, hx, rfl⟩
    · refine ⟨(h.low j hj).1, ?_⟩
      by_cases hjq : j = q
      · subst hjq
        exact ⟨_, _, _, q3.set 3 (.slice p2 (W.cs ++ [(k, a, b)]).length c2), .inl rfl⟩
      · exact ((hV.low j hj).2.chg hc fun e => hjc (hT _ e)).chg hs hjq
    · exact new x hx
  · refine ⟨hs.os.trans (hc.os.trans hg.os), hs.tape.trans (hc.tape.trans hg.tape), hs.output.trans (hc.output.trans hg.output), by have := hg.size; have := hc.size; have := hs.size; omega, fun j hj hn => ?_⟩
    have n1 : ¬ S j := fun h' => hn (.inr h')
    have e1 : w3.heap[j]? = w.heap[j]? := (hc.block j (by have := hg.size; omega) fun e => by
      obtain ⟨x, hx, rfl⟩ := hT _ e
      exact n1 (h.sc x hx)).trans (hg.block j hj)
    exact (hs.block j (by have := hg.size; have := hc.size; omega) fun e => n1 (e ▸ h.sq)).trans e1
  · rcases hj with ⟨hj, _⟩ | ⟨x, hx, rfl⟩
    · exact .inl hj
    · rcases hp x hx with e | e
      · obtain ⟨y, hy, he⟩ := hT _ e
        exact .inl (he ▸ h.sc y hy)
      · exact .inr (by have := hg.size; omega)
end
end Go.Proofs.YtbhglpiiabpdjaaDoor
