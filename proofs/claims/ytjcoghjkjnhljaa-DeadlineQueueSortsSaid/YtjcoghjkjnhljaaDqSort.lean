/-
  LAYER 6 (deadlinequeue): for the statement Sorts: the queue, a box and a map aside of it; the order.
-/
import Derived.Test.YtjcoghjkjnhljaaDqLaw6
namespace Go.Proofs.Ytjcoghjkjnhljaa
open Go Go.RowKit Go.IntWalk Go.Sort
set_option maxRecDepth 8000
set_option linter.unusedSimpArgs false

theorem QRep.chg {w w' : World} {q S : Nat} {L : List It} (h : QRep w q L) (hc : Chg w w' (fun k => k = S)) (hn : ¬ Cand w q S) : QRep w' q L := by
  obtain ⟨d, ⟨p, c, m, h1⟩, h2⟩ := h
  exact ⟨d, ⟨p, c, m, h1.keep fun j hj hcd => hc.block j hj fun e => hn (by rw [← e]; exact hcd)⟩, h2⟩
theorem cand_chg {w w' : World} {q S : Nat} (hq : q < w.heap.size) (hc : Chg w w' (fun k => k = S)) (hS : q ≠ S) (k : Nat) : Cand w' q k ↔ Cand w q k := by
  have hb := hc.block q hq hS
  have e0 : w'.cell? ⟨q, 0, none⟩ = w.cell? ⟨q, 0, none⟩ := World.cell?_of_block (w := w) (w' := w') (a := ⟨q, 0, none⟩) hb
  have e1 : w'.cell? ⟨q, 1, none⟩ = w.cell? ⟨q, 1, none⟩ := World.cell?_of_block (w := w) (w' := w') (a := ⟨q, 1, none⟩) hb
  unfold Cand
  rw [e0, e1]
theorem cand_self (w : World) (q : Nat) : Cand w q q := .inl rfl
theorem QRep.in64 {w : World} {q : Nat} {L : List It} (h : QRep w q L) : ∀ x ∈ L, In64 x.1 := by
  obtain ⟨d, ⟨p, c, m, h1⟩, h2⟩ := h
  intro x hx
  obtain ⟨i, hi, rfl⟩ := (mem_get d).1 (h2.perm.mem_iff.2 hx)
  exact h1.in64 i hi
theorem QRep.srt {w : World} {q : Nat} {L : List It} (h : QRep w q L) : Srt L := let ⟨_, _, h2⟩ := h; h2.srt
theorem Spot.chg {N g o S : Nat} {x : It} {w w' : World} (h : Spot N g o x w) (hc : Chg w w' (fun k => k = S)) (hS : g ≠ S) : Spot N g o x w' := by
  have hb := hc.block g (World.block_lt_of_cell? _ _ h.bx.1) hS
  exact ⟨⟨(World.cell?_of_block (w := w) (w' := w') (a := ⟨g, o, none⟩) hb).trans h.bx.1, (World.cell?_of_block (w := w) (w' := w') (a := ⟨g, o + 1, none⟩) hb).trans h.bx.2⟩,
    (World.frozen?_of_block (w := w) (w' := w') (a := ⟨g, o, none⟩) hb).trans h.f0, (World.frozen?_of_block (w := w) (w' := w') (a := ⟨g, o + 1, none⟩) hb).trans h.f1, h.lo⟩
theorem Spot.off {N g q : Nat} {x : It} {w w' : World} (h : Spot N g 0 x w) (ho : Off w.heap.size q w w') (hn : ¬ Cand w q g) : Spot N g 0 x w' := by
  obtain ⟨h1, h2⟩ := ho.keeps (World.block_lt_of_cell? _ _ h.bx.1) hn
  exact ⟨⟨(h1 0).trans h.bx.1, (h1 1).trans h.bx.2⟩, (h2 0).trans h.f0, (h2 1).trans h.f1, h.lo⟩
/-- What the law has while it pops: a queue, the IDs that were seen, the last item. -/
structure Sorting (w : World) (q b S s : Nat) (L seen : List It) (last : It) : Prop where
  rep : QRep w q L
  map : MapB w b s (seenF seen)
  nb : ¬ Cand w q b
  last : Spot 0 S 0 last w
  ns : ¬ Cand w q S
  ne : b ≠ S
theorem Sorting.grew {w w' : World} {q b S s : Nat} {L seen : List It} {last : It} (h : Sorting w q b S s L seen last) (hg : Grew w w') : Sorting w' q b S s L seen last :=
  ⟨h.rep.grew hg, MapG.keep h.map (hg.block b (MapG.lt h.map)), fun hc => h.nb ((cand_grew h.rep.lt hg _).1 hc), h.last.grew hg, fun hc => h.ns ((cand_grew h.rep.lt hg _).1 hc), h.ne⟩
theorem Sorting.off {w w' : World} {q b S s : Nat} {L K seen : List It} {last : It} (h : Sorting w q b S s L seen last) (ho : Off w.heap.size q w w') (hr : QRep w' q K) : Sorting w' q b S s K seen last :=
  have hb := ho.block b (MapG.lt h.map) h.nb
  have hs := ho.block S (World.block_lt_of_cell? _ _ h.last.bx.1) h.ns
  ⟨hr, MapG.keep h.map hb.1, hb.2, h.last.off ho h.ns, hs.2, h.ne⟩
/-- The map has been written. -/
theorem Sorting.turned {w w' : World} {q b S s t : Nat} {L seen sn : List It} {last : It} (h : Sorting w q b S s L seen last) (hc : Chg w w' (fun k => k = b)) (hM : MapB w' b t (seenF sn)) : Sorting w' q b S t L sn last :=
  have hq : q ≠ b := fun e => h.nb (by rw [← e]; exact cand_self _ _)
  have hcd := cand_chg h.rep.lt hc hq
  ⟨h.rep.chg hc h.nb, hM, fun hx => h.nb ((hcd _).1 hx), h.last.chg hc (Ne.symm h.ne), fun hx => h.ns ((hcd _).1 hx), h.ne⟩
/-- The last item has been laid. -/
theorem Sorting.laid {w : World} {q b S s : Nat} {L seen : List It} {last : It} (x : It) (h : Sorting w q b S s L seen last) : Sorting ((w.setCell ⟨S, 0, none⟩ (.int .i64 x.1)).setCell ⟨S, 1, none⟩ (.int .i64 x.2)) q b S s L seen x := by
  have hc : Chg w ((w.setCell ⟨S, 0, none⟩ (.int .i64 x.1)).setCell ⟨S, 1, none⟩ (.int .i64 x.2)) (fun k => k = S) := (Chg.set w ⟨S, 0, none⟩ _).trans (Chg.set _ ⟨S, 1, none⟩ _)
  have hq : q ≠ S := fun e => h.ns (by rw [← e]; exact cand_self _ _)
  have hcd := cand_chg h.rep.lt hc hq
  refine ⟨h.rep.chg hc h.ns, MapG.keep h.map (hc.block b (MapG.lt h.map) h.ne), fun hx => h.nb ((hcd _).1 hx), ?_, fun hx => h.ns ((hcd _).1 hx), h.ne⟩
  obtain ⟨⟨h0, h1⟩, f0, f1, hl⟩ := h.last
  refine ⟨⟨by go_simp, by go_simp⟩, by go_simp, by go_simp, hl⟩
theorem has_push_iff (id : Int) (L : List It) (x : It) : hasId id (pushL L x) = (x.1 == id || hasId id L) := by
  unfold pushL
  rw [hasId_perm (ins_perm x (rem x.1 L))]
  show (x.1 == id || hasId id (rem x.1 L)) = _
  cases h : x.1 == id with
  | true => rfl
  | false =>
    simp only [Bool.false_or]
    have hne : x.1 ≠ id := by simpa using h
    rw [Bool.eq_iff_iff, hasId_iff, hasId_iff]
    constructor
    · rintro ⟨y, hy, rfl⟩
      exact ⟨y, (List.mem_filter.1 hy).1, rfl⟩
    · rintro ⟨y, hy, rfl⟩
      exact ⟨y, List.mem_filter.2 ⟨hy, by simpa using Ne.symm hne⟩, rfl⟩
theorem has_fold (id : Int) : ∀ (l acc : List It), hasId id (l.foldl pushL acc) = (hasId id acc || hasId id l)
  | [], acc => by simp [hasId]
  | x :: l, acc => by
    rw [List.foldl_cons, has_fold id l, has_push_iff]
    show _ = (hasId id acc || (x.1 == id || hasId id l))
    cases hasId id acc <;> cases x.1 == id <;> simp
/-- The items that the operations push. -/
def itsOf (xs : List Opx) : List It := xs.map fun x => x.2
theorem itsOf_at (xs : List Opx) (k : Nat) (h : k < xs.length) : (itsOf xs).getD k (0, 0) = (xs.getD k (0, 0, 0)).2 := by simp [itsOf, List.getD, h]
theorem has_all (xs : List Opx) (k : Nat) (h : k < xs.length) : hasId (xs.getD k (0, 0, 0)).2.1 ((itsOf xs).foldl pushL []) = true := by
  rw [has_fold, Bool.or_eq_true]
  right
  rw [hasId_iff]
  have e : xs.getD k (0, 0, 0) = xs[k] := by simp [List.getD, h]
  exact ⟨xs[k].2, List.mem_map.2 ⟨_, List.getElem_mem h, rfl⟩, by rw [e]⟩
theorem srt_step {L : List It} (hs : Srt L) (hd : Ids L) (k : Nat) (h : k + 1 < L.length) : bef (L.getD k (0, 0)) (L.getD (k + 1) (0, 0)) = true := by
  have e0 : L.getD k (0, 0) = L[k] := by simp [List.getD, show k < L.length by omega]
  have e1 : L.getD (k + 1) (0, 0) = L[k + 1] := by simp [List.getD, h]
  rw [e0, e1]
  have h1 := List.pairwise_iff_getElem.1 hs k (k + 1) (by omega) h (by omega)
  have h2 := List.pairwise_iff_getElem.1 hd k (k + 1) (by omega) h (by omega)
  cases hb : bef L[k] L[k + 1] with
  | true => rfl
  | false => exact absurd (congrArg Prod.fst (bef_anti hb h1)) h2
theorem ids_fresh {L : List It} (hd : Ids L) (k : Nat) (h : k < L.length) : hasId (L.getD k (0, 0)).1 (L.take k) = false := by
  have e0 : L.getD k (0, 0) = L[k] := by simp [List.getD, h]
  rw [e0, ← Bool.not_eq_true, hasId_iff]
  rintro ⟨y, hy, e⟩
  obtain ⟨i, hi, rfl⟩ := List.mem_iff_getElem.1 hy
  rw [List.getElem_take] at e
  simp at hi
  exact List.pairwise_iff_getElem.1 hd i k (by omega) h (by omega) e
theorem first_drop (L : List It) (k : Nat) (h : k < L.length) : first (L.drop k) = L.getD k (0, 0) ∧ (L.drop k).isEmpty = false ∧ (L.drop k).tail = L.drop (k + 1) := by
  rw [drop_consI L k h]
  exact ⟨rfl, rfl, rfl⟩
end Go.Proofs.Ytjcoghjkjnhljaa
