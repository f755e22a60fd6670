/-
  THE SPLITTER OF LAYER 3 (cobs) in memory: its record, its candidate, and what lies aside of both.
-/
import Derived.Test.YtkkooghmeoodaaaCells
import Derived.Test.YtkkooghmeoodaaaCobsLaws
namespace Go.Proofs.Ytkkooghmeoodaaa
open Go Go.RowKit Go.IntWalk

/-- The record at block sb: a limit, a candidate of its own with the bytes ac, and a count. -/
def Spl (w : World) (sb most : Nat) (ac : List UInt8) (sk : Nat) : Prop :=
  ∃ p n c, w.heap[sb]? = some (.cells #[.int .i64 most, .slice p n c, .int .i64 sk] 46) ∧ OwnV w sb 5 (.slice p n c) (bvs ac)
/-- The blocks of the splitter: its record and its candidate's. -/
def Cand (w : World) (sb k : Nat) : Prop := k = sb ∨ ∃ p n c, w.cell? ⟨sb, 1, none⟩ = some (.slice p n c) ∧ p.map (·.block) = some k
/-- Of the blocks below N only the splitter's have changed, and none of the others has become one of them. -/
structure Off (N sb : Nat) (w w' : World) : Prop where
  os : w'.os = w.os
  tape : w'.tape = w.tape
  output : w'.output = w.output
  size : w.heap.size ≤ w'.heap.size
  block : ∀ k, k < N → ¬ Cand w sb k → w'.heap[k]? = w.heap[k]? ∧ ¬ Cand w' sb k

theorem Off.refl (N sb : Nat) (w : World) : Off N sb w w := ⟨rfl, rfl, rfl, Nat.le_refl _, fun _ _ h => ⟨rfl, h⟩⟩
theorem Off.trans {N sb : Nat} {a b c : World} (h : Off N sb a b) (h2 : Off N sb b c) : Off N sb a c :=
  ⟨h2.os.trans h.os, h2.tape.trans h.tape, h2.output.trans h.output, Nat.le_trans h.size h2.size, fun k hk hc => by
    obtain ⟨h3, h4⟩ := h.block k hk hc
    obtain ⟨h5, h6⟩ := h2.block k hk h4
    exact ⟨h5.trans h3, h6⟩⟩
theorem Off.mono {N M sb : Nat} {a b : World} (h : Off N sb a b) (hm : M ≤ N) : Off M sb a b := ⟨h.os, h.tape, h.output, h.size, fun k hk hc => h.block k (by omega) hc⟩
theorem cand_same {w w' : World} {sb : Nat} (h : w'.heap[sb]? = w.heap[sb]?) (k : Nat) : Cand w' sb k ↔ Cand w sb k := by
  have e : w'.cell? ⟨sb, 1, none⟩ = w.cell? ⟨sb, 1, none⟩ := World.cell?_of_block (w := w) (w' := w') (a := ⟨sb, 1, none⟩) h
  unfold Cand
  rw [e]
/-- What touches neither the record nor what is below N. -/
theorem Off.of_below {N sb : Nat} {w w' : World} (h : Below N w w') (hs : w'.heap[sb]? = w.heap[sb]?) : Off N sb w w' :=
  ⟨h.os, h.tape, h.output, h.size, fun k hk hc => ⟨h.block k hk, fun h' => hc ((cand_same hs k).1 h')⟩⟩
theorem Off.of_big {N sb : Nat} {w w' : World} (h : Below w.heap.size w w') (hN : N ≤ w.heap.size) (hs : sb < w.heap.size) : Off N sb w w' := Off.of_below (h.mono hN) (h.block sb hs)

theorem Spl.lt {w : World} {sb most : Nat} {ac : List UInt8} {sk : Nat} (h : Spl w sb most ac sk) : sb < w.heap.size := by
  obtain ⟨p, n, c, h1, _⟩ := h
  exact (Array.getElem?_eq_some_iff.1 h1).1
theorem spl_cells {w : World} {sb most : Nat} {v : Value} {sk : Nat} (h : w.heap[sb]? = some (.cells #[.int .i64 most, v, .int .i64 sk] 46)) :
    w.cell? ⟨sb, 0, none⟩ = some (.int .i64 most) ∧ w.cell? ⟨sb, 1, none⟩ = some v ∧ w.cell? ⟨sb, 2, none⟩ = some (.int .i64 sk) ∧ ∀ j, w.frozen? ⟨sb, j, none⟩ = false := by
  refine ⟨?_, ?_, ?_, fun j => ?_⟩
  · simp [World.cell?, h]
  · simp [World.cell?, h]
  · simp [World.cell?, h]
  · simp [World.frozen?, h]
/-- The splitter's blocks, told. -/
theorem Spl.cand {w : World} {sb most : Nat} {p : Option Addr} {n c sk : Nat} (h : w.heap[sb]? = some (.cells #[.int .i64 most, .slice p n c, .int .i64 sk] 46)) (k : Nat) : Cand w sb k ↔ (k = sb ∨ p.map (·.block) = some k) := by
  unfold Cand
  rw [(spl_cells h).2.1]
  constructor
  · rintro (h | ⟨p', n', c', h1, h2⟩)
    · exact .inl h
    · simp only [Option.some.injEq, Value.slice.injEq] at h1
      obtain ⟨rfl, _, _⟩ := h1
      exact .inr h2
  · rintro (h | h)
    · exact .inl h
    · exact .inr ⟨p, n, c, rfl, h⟩
/-- Below the splitter nothing is the splitter's. -/
theorem Spl.below {w w' : World} {N sb most : Nat} {ac : List UInt8} {sk M : Nat} (h : Spl w sb most ac sk) (ho : Off M sb w w') (hM : N ≤ M) (hN : N ≤ sb) : Below N w w' :=
  ⟨ho.os, ho.tape, ho.output, ho.size, fun k hk => by
    obtain ⟨p, n, c, h1, h2⟩ := h
    refine (ho.block k (by omega) fun hc => ?_).1
    rcases (Spl.cand h1 k).1 hc with rfl | hc
    · omega
    · cases p with
      | none => simp at hc
      | some a =>
        simp at hc
        have := (h2.parts.2.2.2 a rfl).1
        omega⟩
theorem Spl.keep {w w' : World} {sb most : Nat} {ac : List UInt8} {sk : Nat} (h : Spl w sb most ac sk) (hb : ∀ k, k < w.heap.size → Cand w sb k → w'.heap[k]? = w.heap[k]?) : Spl w' sb most ac sk := by
  obtain ⟨p, n, c, h1, h2⟩ := h
  refine ⟨p, n, c, ?_, h2.keep fun a ha hl => hb a.block hl ((Spl.cand h1 _).2 (.inr (by simp [ha])))⟩
  rw [hb sb (Array.getElem?_eq_some_iff.1 h1).1 (.inl rfl)]
  exact h1
theorem Spl.kept {w w' : World} {sb most : Nat} {ac : List UInt8} {sk : Nat} (h : Spl w sb most ac sk) (hb : Below w.heap.size w w') : Spl w' sb most ac sk := h.keep fun k hk _ => hb.block k hk

/-- A slice that lies aside of the splitter. -/
def Out (w : World) (sb : Nat) (p : Option Addr) : Prop := ∀ a, p = some a → ¬ Cand w sb a.block
theorem Bin.off {w w' : World} {N sb : Nat} {p : Option Addr} {c : Nat} {xs : List UInt8} (h : Bin w p c xs) (ho : Out w sb p) (hf : Off N sb w w') (hN : w.heap.size ≤ N) : Bin w' p c xs :=
  h.keep fun b o hp hb => (hf.block b (by omega) (ho _ hp)).1
theorem Out.off {w w' : World} {N sb : Nat} {p : Option Addr} {e : TypeId} (ho : Out w sb p) (ht : Typ w p e) (hf : Off N sb w w') (hN : w.heap.size ≤ N) : Out w' sb p := fun a ha => by
  subst ha
  have := ht.lt
  exact (hf.block a.block (by omega) (ho a rfl)).2
theorem Typ.off {w w' : World} {N sb : Nat} {p : Option Addr} {e : TypeId} (ht : Typ w p e) (ho : Out w sb p) (hf : Off N sb w w') (hN : w.heap.size ≤ N) : Typ w' p e :=
  ht.keep fun a ha hb => (hf.block a.block (by omega) (ho a ha)).1
/-- A new block is none of the splitter's. -/
theorem Spl.new {w : World} {sb most : Nat} {ac : List UInt8} {sk N : Nat} {p : Option Addr} (h : Spl w sb most ac sk) (hN : w.heap.size ≤ N) (hp : ∀ a, p = some a → N ≤ a.block) : Out w sb p := fun a ha hc => by
  have h1 := hp a ha
  have h2 := h.lt
  obtain ⟨q, n, c, h3, h4⟩ := h
  rcases (Spl.cand h3 _).1 hc with h5 | h5
  · omega
  · cases q with
    | none => simp at h5
    | some b =>
      simp at h5
      have := (h4.parts.2.2.2 b rfl).2
      omega
/-- The record stays where a row of another type is written. -/
theorem rec_row {w w' : World} {base sb : Nat} {cs : Array Value} {e : TypeId} {p : Option Addr} {n c : Nat} {vs us : List Value} {v' : Value} (h : w.heap[sb]? = some (.cells cs 46)) (hown : OwnV w base e (.slice p n c) us) (hne : e ≠ 46) (ha : Appended w base e p c vs v' w') : w'.heap[sb]? = w.heap[sb]? := by
  obtain ⟨p', c', rfl, _, hk, _, _⟩ := ha
  refine hk.block sb (Array.getElem?_eq_some_iff.1 h).1 fun hp => ?_
  cases p with
  | none => simp at hp
  | some a =>
    simp at hp
    obtain ⟨cs', fr, h2⟩ := hown.parts.2.2.1 a rfl
    rw [hp, h] at h2
    simp only [Option.some.injEq, Obj.cells.injEq] at h2
    exact hne h2.2.1.symm
/-- append to the candidate, and the record's new field: none but the splitter's blocks have changed. -/
theorem off_append {w w' w2 : World} {sb most sk : Nat} {p p' : Option Addr} {n n' c c' : Nat} {vs : List Value} {v' : Value} (hrec : w.heap[sb]? = some (.cells #[.int .i64 most, .slice p n c, .int .i64 sk] 46))
    (ha : Appended w sb 5 p c vs v' w') (hb : ∀ k, k ≠ sb → w2.heap[k]? = w'.heap[k]?) (hr : w2.heap[sb]? = some (.cells #[.int .i64 most, .slice p' n' c', .int .i64 sk] 46))
    (hv : p'.map (·.block) = p.map (·.block) ∨ p'.map (·.block) = some w.heap.size) (hw : w2.os = w'.os ∧ w2.tape = w'.tape ∧ w2.output = w'.output ∧ w'.heap.size ≤ w2.heap.size) : Off w.heap.size sb w w2 := by
  obtain ⟨p1, c1, rfl, _, hk, _, _⟩ := ha
  refine ⟨hw.1.trans hk.os, hw.2.1.trans hk.tape, hw.2.2.1.trans hk.output, Nat.le_trans hk.size hw.2.2.2, fun k hkl hc => ?_⟩
  have hc' := fun h => hc ((Spl.cand hrec k).2 h)
  refine ⟨?_, fun h => ?_⟩
  · rw [hb k (fun e => hc' (.inl e))]
    exact hk.block k hkl (fun e => hc' (.inr e))
  · rcases (Spl.cand hr k).1 h with h | h
    · exact hc' (.inl h)
    · rcases hv with hv | hv
      · exact hc' (.inr (hv ▸ h))
      · rw [hv] at h
        simp at h
        omega
end Go.Proofs.Ytkkooghmeoodaaa
