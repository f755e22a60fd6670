/-
  LAYER 6 (deadlinequeue): the queue in memory: its record, its items, its map; what lies aside of them.
-/
import Derived.Test.YtjcoghjkjnhljaaDqLess
import Derived.Test.YtjcoghjkjnhljaaMaps
namespace Go.Proofs.Ytjcoghjkjnhljaa
open Go Go.RowKit Go.IntWalk Go.Sort

/-- Of the blocks that were there only those that S names may have changed. -/
structure Chg (w w' : World) (S : Nat → Prop) : Prop where
  os : w'.os = w.os
  tape : w'.tape = w.tape
  output : w'.output = w.output
  size : w.heap.size ≤ w'.heap.size
  block : ∀ k, k < w.heap.size → ¬ S k → w'.heap[k]? = w.heap[k]?
theorem Chg.refl (w : World) (S : Nat → Prop) : Chg w w S := ⟨rfl, rfl, rfl, Nat.le_refl _, fun _ _ _ => rfl⟩
theorem Chg.trans {a b c : World} {S : Nat → Prop} (h : Chg a b S) (h' : Chg b c S) : Chg a c S :=
  ⟨h'.os.trans h.os, h'.tape.trans h.tape, h'.output.trans h.output, Nat.le_trans h.size h'.size, fun k hk hs => (h'.block k (by have := h.size; omega) hs).trans (h.block k hk hs)⟩
theorem Chg.mono {a b : World} {S T : Nat → Prop} (h : Chg a b S) (hST : ∀ k, S k → T k) : Chg a b T := ⟨h.os, h.tape, h.output, h.size, fun k hk hs => h.block k hk fun h' => hs (hST k h')⟩
theorem Chg.of_grew {a b : World} (h : Grew a b) (S : Nat → Prop) : Chg a b S := ⟨h.os, h.tape, h.output, h.size, fun k hk _ => h.block k hk⟩
theorem Chg.of_turned {a b : World} {m : Nat} (h : a.mapTurned b m) : Chg a b (fun k => k = m) := by
  have := h.grown
  exact ⟨this.os, this.tape, this.output, this.size, fun k hk hs => this.block k hk (fun e => hs (Option.some.inj e))⟩
theorem Chg.of_grown {a b : World} {row : Option Nat} (h : a.grownBy b row) : Chg a b (fun k => row = some k) := ⟨h.os, h.tape, h.output, h.size, fun k hk hs => h.block k hk (fun e => hs e.symm)⟩
theorem Chg.set (w : World) (a : Addr) (v : Value) : Chg w (w.setCell a v) (fun k => k = a.block) :=
  ⟨rfl, rfl, rfl, by simp, fun k _ hs => heap_setCell_other w a k v hs⟩

/-- The place of the item with an ID. -/
def plc (d : Array It) (i : Int) : Option Int := (d.toList.findIdx? (fun x => x.1 == i)).map Int.ofNat
theorem plc_none {d : Array It} {i : Int} (h : hasId i d.toList = false) : plc d i = none := by
  unfold plc
  rw [Option.map_eq_none_iff, List.findIdx?_eq_none_iff]
  simp only [hasId, List.any_eq_false] at h
  intro x hx
  simpa using h x hx
theorem plc_some {d : Array It} {i : Int} {v : Int} (h : plc d i = some v) : ∃ k, k < d.size ∧ v = (k : Int) ∧ d[k]!.1 = i := by
  unfold plc at h
  rw [Option.map_eq_some_iff] at h
  obtain ⟨k, hk, rfl⟩ := h
  rw [List.findIdx?_eq_some_iff_getElem] at hk
  obtain ⟨hl, h1, _⟩ := hk
  have hl' : k < d.size := by simpa using hl
  refine ⟨k, hl', rfl, ?_⟩
  simpa [hl'] using h1
theorem plc_at {d : Array It} (hd : Ids d.toList) {k : Nat} (hk : k < d.size) : plc d d[k]!.1 = some (k : Int) := by
  cases h : plc d d[k]!.1 with
  | none =>
    unfold plc at h
    rw [Option.map_eq_none_iff, List.findIdx?_eq_none_iff] at h
    have := h d[k]! ((mem_get d).2 ⟨k, hk, rfl⟩)
    simp at this
  | some v =>
    obtain ⟨k', hk', rfl, he⟩ := plc_some h
    rcases Nat.lt_trichotomy k k' with hl | hl | hl
    · exact absurd he (ids_ne hd hk' hk (by omega))
    · rw [hl]
    · exact absurd he (ids_ne hd hk' hk (by omega))
theorem plc_isSome {d : Array It} {i : Int} : (plc d i).isSome = hasId i d.toList := by
  cases h : hasId i d.toList with
  | false => rw [plc_none h]; rfl
  | true =>
    cases h1 : plc d i with
    | some v => rfl
    | none =>
      unfold plc at h1
      rw [Option.map_eq_none_iff, List.findIdx?_eq_none_iff] at h1
      obtain ⟨x, hx, rfl⟩ := hasId_iff.1 h
      have := h1 x hx
      simp at this
/-- What a function must say to be the place of the items. -/
theorem plc_ext {d : Array It} (hd : Ids d.toList) (f : Int → Option Int) (h1 : ∀ k, k < d.size → f d[k]!.1 = some (k : Int)) (h2 : ∀ i v, f i = some v → ∃ k, k < d.size ∧ d[k]!.1 = i) : f = plc d := by
  funext i
  cases hf : f i with
  | some v =>
    obtain ⟨k, hk, rfl⟩ := h2 i v hf
    rw [h1 k hk] at hf
    rw [plc_at hd hk, ← hf]
  | none =>
    cases hp : plc d i with
    | none => rfl
    | some v =>
      obtain ⟨k, hk, _, rfl⟩ := plc_some hp
      rw [h1 k hk] at hf
      cases hf
theorem swp_toList (d : Array It) (i j : Nat) : (swp d i j).toList = (d.toList.set i d[j]!).set j d[i]! := by simp [swp]
theorem swp_perm (d : Array It) {i j : Nat} (hi : i < d.size) (hj : j < d.size) : (swp d i j).toList.Perm d.toList := by
  have := perm_set_set d.toList i j (by simpa using hi) (by simpa using hj)
  rw [swp_toList]
  have e1 : d[j]! = d.toList[j]'(by simpa using hj) := by simp [hj]
  have e2 : d[i]! = d.toList[i]'(by simpa using hi) := by simp [hi]
  rw [e1, e2]
  exact this
theorem plc_swp {d : Array It} (hd : Ids d.toList) {i j : Nat} (hi : i < d.size) (hj : j < d.size) :
    (fun k => if k = d[i]!.1 then some (j : Int) else if k = d[j]!.1 then some (i : Int) else plc d k) = plc (swp d i j) := by
  have hd' : Ids (swp d i j).toList := ids_perm (swp_perm d hi hj).symm hd
  refine plc_ext hd' _ (fun k hk => ?_) (fun k v hv => ?_)
  · have hk' : k < d.size := by simpa [swp_size] using hk
    show (if (swp d i j)[k]!.1 = d[i]!.1 then some (j : Int) else if (swp d i j)[k]!.1 = d[j]!.1 then some (i : Int) else plc d (swp d i j)[k]!.1) = some (k : Int)
    by_cases e1 : k = j
    · have hg : (swp d i j)[k]! = d[i]! := by rw [swp_get d hi hj, if_pos e1]
      rw [hg, if_pos rfl, e1]
    · by_cases e2 : k = i
      · have hg : (swp d i j)[k]! = d[j]! := by rw [swp_get d hi hj, if_neg e1, if_pos e2]
        rw [hg, if_neg (ids_ne hd hj hi (by omega)), if_pos rfl, e2]
      · have hg : (swp d i j)[k]! = d[k]! := by rw [swp_get d hi hj, if_neg e1, if_neg e2]
        rw [hg, if_neg (ids_ne hd hk' hi e2), if_neg (ids_ne hd hk' hj e1)]
        exact plc_at hd hk'
  · have hs : (swp d i j).size = d.size := swp_size d i j
    replace hv : (if k = d[i]!.1 then some (j : Int) else if k = d[j]!.1 then some (i : Int) else plc d k) = some v := hv
    by_cases e1 : k = d[i]!.1
    · refine ⟨j, by omega, ?_⟩
      rw [swp_get d hi hj, if_pos rfl, e1]
    · rw [if_neg e1] at hv
      by_cases e2 : k = d[j]!.1
      · by_cases e3 : i = j
        · subst e3; exact absurd e2 e1
        · refine ⟨i, by omega, ?_⟩
          rw [swp_get d hi hj, if_neg e3, if_pos rfl, e2]
      · rw [if_neg e2] at hv
        obtain ⟨k', hk', _, rfl⟩ := plc_some hv
        refine ⟨k', by omega, ?_⟩
        rw [swp_get d hi hj, if_neg (fun e => e2 (by rw [e])), if_neg (fun e => e1 (by rw [e]))]

/-! ### The queue's memory -/
theorem zero_int : ∀ w, (zeroValue 3).run Try.prog w = .ok (.int .i64 0) w := fun _ => by kernel_rfl
/-- The map of the places. -/
def MapP (w : World) (b s : Nat) (f : Int → Option Int) : Prop := MapG 3 (elmInt Try.underlying3 zero_int) w b s f
/-- The record at q, and the map in it. -/
def Rec (w : World) (q : Nat) (p : Option Addr) (n c : Nat) (m : Option Nat) : Prop := w.heap[q]? = some (.cells #[.slice p n c, .map m] 65)
/-- The queue at q, with the heap d. -/
structure QueM (w : World) (q : Nat) (d : Array It) (p : Option Addr) (c : Nat) (m : Option Nat) : Prop where
  record : Rec w q p d.size c m
  own : OwI w (q + 1) 32 (.slice p d.size c) d.toList
  map : (m = none ∧ d = #[]) ∨ ∃ b, m = some b ∧ q < b ∧ MapP w b d.size (plc d)
  ids : Ids d.toList
  in64 : ∀ k, k < d.size → In64 d[k]!.1
def Que (w : World) (q : Nat) (d : Array It) : Prop := ∃ p c m, QueM w q d p c m
/-- The blocks of the queue. -/
def Cand (w : World) (q k : Nat) : Prop := k = q ∨ (∃ p n c, w.cell? ⟨q, 0, none⟩ = some (.slice p n c) ∧ p.map (·.block) = some k) ∨ w.cell? ⟨q, 1, none⟩ = some (.map (some k))
theorem Rec.cells {w : World} {q : Nat} {p : Option Addr} {n c : Nat} {m : Option Nat} (h : Rec w q p n c m) : w.cell? ⟨q, 0, none⟩ = some (.slice p n c) ∧ w.cell? ⟨q, 1, none⟩ = some (.map m) ∧ ∀ o, w.frozen? ⟨q, o, none⟩ = false := by
  unfold Rec at h
  refine ⟨?_, ?_, fun o => ?_⟩
  · simp [World.cell?, h]
  · simp [World.cell?, h]
  · simp [World.frozen?, h]
theorem Rec.lt {w : World} {q : Nat} {p : Option Addr} {n c : Nat} {m : Option Nat} (h : Rec w q p n c m) : q < w.heap.size := (Array.getElem?_eq_some_iff.1 h).1
theorem Rec.keep {w w' : World} {q : Nat} {p : Option Addr} {n c : Nat} {m : Option Nat} (h : Rec w q p n c m) (hb : w'.heap[q]? = w.heap[q]?) : Rec w' q p n c m := hb.trans h
theorem Rec.cand {w : World} {q : Nat} {p : Option Addr} {n c : Nat} {m : Option Nat} (h : Rec w q p n c m) (k : Nat) : Cand w q k ↔ (k = q ∨ p.map (·.block) = some k ∨ m = some k) := by
  obtain ⟨h1, h2, _⟩ := h.cells
  unfold Cand
  rw [h1, h2]
  constructor
  · rintro (h | ⟨p', n', c', h3, h4⟩ | h)
    · exact .inl h
    · simp only [Option.some.injEq, Value.slice.injEq] at h3
      obtain ⟨rfl, _, _⟩ := h3
      exact .inr (.inl h4)
    · simp only [Option.some.injEq, Value.map.injEq] at h
      exact .inr (.inr h)
  · rintro (h | h | h)
    · exact .inl h
    · exact .inr (.inl ⟨p, n, c, rfl, h⟩)
    · exact .inr (.inr (by rw [h]))
section
variable {w w' : World} {q : Nat} {d : Array It} {p : Option Addr} {c : Nat} {m : Option Nat}
theorem QueM.keep (h : QueM w q d p c m) (hb : ∀ k, k < w.heap.size → Cand w q k → w'.heap[k]? = w.heap[k]?) : QueM w' q d p c m := by
  have hc := h.record.cand
  refine ⟨h.record.keep (hb q h.record.lt ((hc q).2 (.inl rfl))), h.own.keep fun a ha hl => hb a.block hl ((hc _).2 (.inr (.inl (by simp [ha])))), ?_, h.ids, h.in64⟩
  rcases h.map with h1 | ⟨b, h1, h2, h3⟩
  · exact .inl h1
  · exact .inr ⟨b, h1, h2, MapG.keep h3 (hb b h3.lt ((hc b).2 (.inr (.inr h1))))⟩
theorem QueM.grew (h : QueM w q d p c m) (hg : Grew w w') : QueM w' q d p c m := h.keep fun k hk _ => hg.block k hk
theorem Que.grew (h : Que w q d) (hg : Grew w w') : Que w' q d := let ⟨p, c, m, h⟩ := h; ⟨p, c, m, h.grew hg⟩
theorem Que.lt (h : Que w q d) : q < w.heap.size := let ⟨_, _, _, h⟩ := h; h.record.lt
/-- A queue with an item has its row and its map. -/
theorem QueM.full (h : QueM w q d p c m) (hd : 0 < d.size) : ∃ g b, p = some ⟨g, 0, none⟩ ∧ m = some b ∧ q < g ∧ g < w.heap.size ∧ q < b ∧ MapP w b d.size (plc d) ∧ g ≠ b := by
  obtain ⟨g, rfl, h1, h2⟩ := h.own.at hd
  rcases h.map with ⟨_, e⟩ | ⟨b, h3, h4, h5⟩
  · rw [e] at hd
    simp at hd
  · refine ⟨g, b, rfl, h3, by omega, h2, h4, h5, fun e => ?_⟩
    subst e
    obtain ⟨es, clock, hb⟩ := MapG.ismap h5
    rcases h.own.parts with ⟨p', c', hv, _, ⟨hp, _⟩ | ⟨g', cur, hp, _, hg, _⟩⟩
    · simp only [Value.slice.injEq] at hv
      obtain ⟨rfl, _, _⟩ := hv
      cases hp
    · simp only [Value.slice.injEq] at hv
      obtain ⟨rfl, _, _⟩ := hv
      simp only [Option.some.injEq, Addr.mk.injEq, and_true] at hp
      rw [hp, hg] at hb
      cases hb
end
/-- Of the blocks below N only the queue's have changed, and none of the others has become one of them. -/
structure Off (N q : Nat) (w w' : World) : Prop where
  os : w'.os = w.os
  tape : w'.tape = w.tape
  output : w'.output = w.output
  size : w.heap.size ≤ w'.heap.size
  block : ∀ k, k < N → ¬ Cand w q k → w'.heap[k]? = w.heap[k]? ∧ ¬ Cand w' q k
theorem Off.refl (N q : Nat) (w : World) : Off N q w w := ⟨rfl, rfl, rfl, Nat.le_refl _, fun _ _ h => ⟨rfl, h⟩⟩
theorem Off.trans {N q : Nat} {a b c : World} (h : Off N q a b) (h2 : Off N q b c) : Off N q a c :=
  ⟨h2.os.trans h.os, h2.tape.trans h.tape, h2.output.trans h.output, Nat.le_trans h.size h2.size, fun k hk hc => by
    obtain ⟨h3, h4⟩ := h.block k hk hc
    obtain ⟨h5, h6⟩ := h2.block k hk h4
    exact ⟨h5.trans h3, h6⟩⟩
theorem Off.mono {N M q : Nat} {a b : World} (h : Off N q a b) (hm : M ≤ N) : Off M q a b := ⟨h.os, h.tape, h.output, h.size, fun k hk hc => h.block k (by omega) hc⟩
/-- From what the record said and says. -/
theorem Off.of_rec {w w' : World} {q : Nat} {p p' : Option Addr} {n n' c c' : Nat} {m m' : Option Nat} (h : Rec w q p n c m) (h' : Rec w' q p' n' c' m')
    (hg : Chg w w' (fun k => k = q ∨ p.map (·.block) = some k ∨ m = some k)) (hp : p'.map (·.block) = p.map (·.block) ∨ ∀ k, p'.map (·.block) = some k → w.heap.size ≤ k) (hm : m' = m ∨ ∀ k, m' = some k → w.heap.size ≤ k) : Off w.heap.size q w w' :=
  ⟨hg.os, hg.tape, hg.output, hg.size, fun k hk hc => by
    have hc' := fun e => hc ((h.cand k).2 e)
    refine ⟨hg.block k hk hc', fun e => ?_⟩
    rcases (h'.cand k).1 e with e | e | e
    · exact hc' (.inl e)
    · rcases hp with hp | hp
      · exact hc' (.inr (.inl (hp ▸ e)))
      · have := hp k e; omega
    · rcases hm with hm | hm
      · exact hc' (.inr (.inr (hm ▸ e)))
      · have := hm k e; omega⟩
theorem Off.of_grew {N q : Nat} {w w' : World} (h : Grew w w') (hN : N ≤ w.heap.size) (hq : q < w.heap.size) : Off N q w w' :=
  ⟨h.os, h.tape, h.output, h.size, fun k hk hc => ⟨h.block k (by omega), fun e => hc (by
    have e0 : w'.cell? ⟨q, 0, none⟩ = w.cell? ⟨q, 0, none⟩ := World.cell?_of_block (w := w) (w' := w') (a := ⟨q, 0, none⟩) (h.block q hq)
    have e1 : w'.cell? ⟨q, 1, none⟩ = w.cell? ⟨q, 1, none⟩ := World.cell?_of_block (w := w) (w' := w') (a := ⟨q, 1, none⟩) (h.block q hq)
    unfold Cand at e ⊢
    rwa [e0, e1] at e)⟩⟩
/-- Below the queue nothing is the queue's. -/
theorem Que.below {w w' : World} {N M q : Nat} {d : Array It} (h : Que w q d) (ho : Off M q w w') (hM : N ≤ M) (hN : N ≤ q) : Below N w w' :=
  ⟨ho.os, ho.tape, ho.output, ho.size, fun k hk => by
    obtain ⟨p, c, m, h⟩ := h
    refine (ho.block k (by omega) fun hc => ?_).1
    rcases (h.record.cand k).1 hc with rfl | hc | hc
    · omega
    · cases p with
      | none => simp at hc
      | some a =>
        simp at hc
        have := (h.own.place a rfl).1
        omega
    · rcases h.map with ⟨e, _⟩ | ⟨b, e, h1, _⟩
      · rw [e] at hc; cases hc
      · rw [e] at hc
        have := Option.some.inj hc
        omega⟩
/-- A slice that lies aside of the queue. -/
def Out (w : World) (q : Nat) (p : Option Addr) (xs : List It) : Prop := 0 < xs.length → ∀ a, p = some a → ¬ Cand w q a.block
theorem RdI.off {w w' : World} {N q : Nat} {p : Option Addr} {c : Nat} {xs : List It} (h : RdI w p c xs) (ho : Out w q p xs) (hf : Off N q w w') (hN : w.heap.size ≤ N) : RdI w' p c xs ∧ Out w' q p xs := by
  refine ⟨h.keep fun h0 b o hp hb => (hf.block b (by omega) (ho h0 _ hp)).1, fun h0 a ha => ?_⟩
  obtain ⟨b, o, rfl, hc⟩ := h.cells h0
  obtain rfl := Option.some.inj ha
  have hl := RdI.lt h h0
  exact (hf.block b (by omega) (ho h0 _ rfl)).2
/-- A new block is none of the queue's. -/
theorem Que.new {w : World} {q N : Nat} {d : Array It} {p : Option Addr} {xs : List It} (h : Que w q d) (hN : w.heap.size ≤ N) (hp : ∀ a, p = some a → N ≤ a.block) : Out w q p xs := fun _ a ha hc => by
  have h1 := hp a ha
  obtain ⟨p', c, m, h⟩ := h
  have h2 := h.record.lt
  rcases (h.record.cand _).1 hc with h5 | h5 | h5
  · omega
  · cases p' with
    | none => simp at h5
    | some b =>
      simp at h5
      have := (h.own.place b rfl).2
      omega
  · rcases h.map with ⟨e, _⟩ | ⟨b, e, _, h6⟩
    · rw [e] at h5; cases h5
    · rw [e] at h5
      have := Option.some.inj h5
      have := MapG.lt h6
      omega
end Go.Proofs.Ytjcoghjkjnhljaa
