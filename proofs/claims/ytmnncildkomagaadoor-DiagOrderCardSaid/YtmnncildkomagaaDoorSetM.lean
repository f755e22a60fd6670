/-
  MAPS USED AS SETS (any program, any key that has a law): the keys in the order in which they came; every value is true. What a range over such a map hands out. Nothing of the program stands here.
-/
import Derived.WalkKit
import Derived.Lib.Hide
import Derived.Maps.OwnSet
import Derived.Maps.RangeRun
import Derived.Test.YtmnncildkomagaaDoorChg
namespace Go.Proofs.YtmnncildkomagaaDoor
open Go Go.RowKit
open Go.Maps (Keyed)
open Go.ChangeMaps (setBlock modify_eq_set)
set_option linter.unusedSimpArgs false
set_option linter.unusedVariables false

structure MapIs {α : Type} (P : Program) (k : TypeId) (kv : α → Value) (es : Array MapEntry) (clock : Nat) (L : List α) : Prop where
  keys : es.toList.map (·.key) = L.map kv
  vals : ∀ e ∈ es.toList, e.val = .bool true
  born : ∀ e ∈ es.toList, e.born < clock
  once : (es.toList.map (·.born)).Nodup
  nodup : L.Nodup
  key : ∀ x ∈ L, ∃ l, keyOf P k (kv x) = some l
def SetM {α : Type} (P : Program) (k : TypeId) (kv : α → Value) (w : World) (b : Nat) (L : List α) : Prop :=
  ∃ es clock, w.heap[b]? = some (.map es clock) ∧ MapIs P k kv es clock L
variable {α : Type} {P : Program} {k t e : TypeId} {kv : α → Value} {w w' : World} {b : Nat} {L : List α}
theorem SetM.lt (h : SetM P k kv w b L) : b < w.heap.size := let ⟨_, _, h, _⟩ := h; lt_of_heap h
theorem SetM.keep (h : SetM P k kv w b L) (hb : w'.heap[b]? = w.heap[b]?) : SetM P k kv w' b L := by
  obtain ⟨es, c, h1, h2⟩ := h
  exact ⟨es, c, hb.trans h1, h2⟩
theorem SetM.chg {S : Nat → Prop} (h : SetM P k kv w b L) (hc : Chg w w' S) (hn : ¬ S b) : SetM P k kv w' b L := h.keep (hc.block b h.lt hn)
theorem SetM.grew (h : SetM P k kv w b L) (hg : Grew w w') : SetM P k kv w' b L := h.keep (Below.block hg b h.lt)
theorem SetM.made (w : World) : SetM P k kv (w.alloc (.map #[] 0)) w.heap.size ([] : List α) :=
  ⟨#[], 0, heap_alloc_new w _, ⟨rfl, fun e he => by simp at he, fun e he => by simp at he, by simp, List.nodup_nil, fun x hx => by simp at hx⟩⟩
theorem setBlock_other (w : World) (b : Nat) (o : Obj) {k : Nat} (hk : k ≠ b) : (setBlock w b o).heap[k]? = w.heap[k]? := by
  simp [setBlock, Array.getElem?_setIfInBounds, Ne.symm hk]
theorem chg_setBlock (w : World) (b : Nat) (o : Obj) : Chg w (setBlock w b o) (fun j => j = b) :=
  ⟨rfl, rfl, rfl, by simp [setBlock], fun k _ hk => setBlock_other _ _ _ hk⟩
theorem MapIs.size {es : Array MapEntry} {clock : Nat} (h : MapIs P k kv es clock L) : es.size = L.length := by
  have := congrArg List.length h.keys
  simpa using this
theorem MapIs.mem {es : Array MapEntry} {clock : Nat} (h : MapIs P k kv es clock L) {x : MapEntry} (hx : x ∈ es.toList) : ∃ y ∈ L, x.key = kv y := by
  have h1 : x.key ∈ es.toList.map (·.key) := List.mem_map.2 ⟨x, hx, rfl⟩
  rw [h.keys] at h1
  obtain ⟨y, hy, e⟩ := List.mem_map.1 h1
  exact ⟨y, hy, e.symm⟩
theorem MapIs.keyed {es : Array MapEntry} {clock : Nat} (h : MapIs P k kv es clock L) : ∀ x ∈ es.toList, ∃ l, keyOf P k x.key = some l := fun x hx => by
  obtain ⟨y, hy, e⟩ := h.mem hx
  rw [e]
  exact h.key y hy
theorem MapIs.keyInj {es : Array MapEntry} {clock : Nat} (h : MapIs P k kv es clock L) (hi : ∀ x y, kv x = kv y → x = y) : (es.toList.map (·.key)).Nodup := by
  rw [h.keys]
  exact List.pairwise_map.2 (h.nodup.imp fun hne e => hne (hi _ _ e))
/-- A key more. -/
def putL {α : Type} [DecidableEq α] (x : α) (L : List α) : List α := if x ∈ L then L else L ++ [x]
theorem mem_putL {α : Type} [DecidableEq α] (x : α) (L : List α) (z : α) : z ∈ putL x L ↔ z = x ∨ z ∈ L := by
  unfold putL
  split
  · rename_i h
    constructor
    · exact .inr
    · rintro (rfl | h')
      · exact h
      · exact h'
  · rw [List.mem_append, List.mem_singleton]
    exact or_comm
/-- A key is laid. -/
theorem SetM.put [DecidableEq α] (h : SetM P k kv w b L) (K : Keyed P k) (ht : P.underlying t = some (.map k e)) (hi : ∀ x y, kv x = kv y → x = y) (x : α) (hx : ∃ l, keyOf P k (kv x) = some l) :
    ∃ w', (Instr.mapUpdate t (.map (some b)) (kv x) (.bool true)).run P w = .ok () w' ∧ SetM P k kv w' b (putL x L) ∧ Chg w w' (fun j => j = b) := by
  obtain ⟨es, clock, hb, hM⟩ := h
  obtain ⟨kl, hkey⟩ := hx
  rcases K.find w hkey es.toList hM.keyed with ⟨h1, h2⟩ | ⟨j, e0, h1, h2, h3⟩
  · have hn : x ∉ L := fun hm => by
      have h3 : kv x ∈ es.toList.map (·.key) := by rw [hM.keys]; exact List.mem_map.2 ⟨x, hm, rfl⟩
      obtain ⟨y, hy, ey⟩ := List.mem_map.1 h3
      exact h2 y hy ey
    refine ⟨setBlock w b (.map (es.push ⟨kv x, .bool true, clock⟩) (clock + 1)), ?_, ?_, chg_setBlock _ _ _⟩
    · simp [Instr.mapUpdate, run_underlying ht, MapKept.run_getObj_map hb, K.check w false hkey, h1, MapKept.run_setObj_map _ hb, Result.andThen, setBlock]
    · rw [show putL x L = L ++ [x] from if_neg hn]
      refine ⟨es.push ⟨kv x, .bool true, clock⟩, clock + 1, ?_, ?_, ?_, ?_, ?_, ?_, ?_⟩
      · simp [setBlock, lt_of_heap hb]
      · rw [Array.toList_push, List.map_append, hM.keys, List.map_append]
        rfl
      · intro z hz
        rw [Array.toList_push] at hz
        rcases List.mem_append.1 hz with hz | hz
        · exact hM.vals z hz
        · rw [List.mem_singleton.1 hz]
      · intro z hz
        rw [Array.toList_push] at hz
        rcases List.mem_append.1 hz with hz | hz
        · exact Nat.lt_succ_of_lt (hM.born z hz)
        · rw [List.mem_singleton.1 hz]
          exact Nat.lt_succ_self _
      · rw [Array.toList_push, List.map_append]
        refine List.nodup_append.2 ⟨hM.once, by simp, fun a ha c hc => ?_⟩
        obtain ⟨z, hz, rfl⟩ := List.mem_map.1 ha
        have h3 := hM.born z hz
        simp at hc
        omega
      · refine List.nodup_append.2 ⟨hM.nodup, by simp, fun a ha c hc => ?_⟩
        rw [List.mem_singleton.1 hc]
        intro e
        exact hn (e ▸ ha)
      · intro z hz
        rcases List.mem_append.1 hz with hz | hz
        · exact hM.key z hz
        · rw [List.mem_singleton.1 hz]
          exact ⟨kl, hkey⟩
  · have hj : es[j]? = some e0 := by simpa using h2
    have he0 : e0 ∈ es.toList := List.mem_of_getElem? h2
    have hm : x ∈ L := by
      obtain ⟨y, hy, ey⟩ := hM.mem he0
      rw [h3] at ey
      rw [hi x y ey]
      exact hy
    have hsame : es.modify j (fun e' => { e' with key := kv x, val := .bool true }) = es := by
      apply Array.toList_inj.1
      rw [Array.toList_modify, modify_eq_set _ _ _ _ h2]
      have hjl : j < es.toList.length := (List.getElem?_eq_some_iff.1 h2).1
      have hget : es.toList[j] = e0 := (List.getElem?_eq_some_iff.1 h2).2
      have : ({ e0 with key := kv x, val := .bool true } : MapEntry) = e0 := by
        have h4 := hM.vals e0 he0
        cases e0
        simp only at h3 h4
        rw [h3, h4]
      rw [this, ← hget, List.set_getElem_self]
    refine ⟨setBlock w b (.map es clock), ?_, ?_, chg_setBlock _ _ _⟩
    · conv => rhs; rw [← hsame]
      simp [Instr.mapUpdate, run_underlying ht, MapKept.run_getObj_map hb, K.check w false hkey, h1, hj, h3, K.stays w hkey, MapKept.run_setObj_map _ hb, Result.andThen, setBlock]
    · rw [show putL x L = L from if_pos hm]
      exact ⟨es, clock, by simp [setBlock, lt_of_heap hb], hM⟩
theorem SetM.len (h : SetM P k kv w b L) (ht : P.underlying t = some (.map k e)) (ty : TypeId) : (Builtin.len_ #[t] ty #[.map (some b)]).run P w = .ok (.int .i64 (L.length : Int)) w := by
  obtain ⟨es, clock, hb, hM⟩ := h
  rw [← hM.size]
  simp [Builtin.len_, run_underlying ht, MapKept.run_getObj_map hb]
  rfl
/-- A range over the map at b, its iterator at r: pre has come. -/
def Ranged (P : Program) (k : TypeId) (kv : α → Value) (w : World) (b r : Nat) (L pre : List α) : Prop :=
  ∃ (es : Array MapEntry) (clock : Nat) (seen : Array Nat) (ys : List MapEntry), w.heap[b]? = some (.map es clock) ∧ MapIs P k kv es clock L ∧ w.heap[r]? = some (.mapIter (some b) clock seen clock) ∧
    seen.toList = ys.map (·.born) ∧ (∀ y ∈ ys, y ∈ es.toList) ∧ (ys.map (·.born)).Nodup ∧ ys.map (·.key) = pre.map kv
theorem Ranged.keep {r : Nat} {pre : List α} (h : Ranged P k kv w b r L pre) (hb : w'.heap[b]? = w.heap[b]?) (hr : w'.heap[r]? = w.heap[r]?) : Ranged P k kv w' b r L pre := by
  obtain ⟨es, clock, seen, ys, h1, h2, h3, h4⟩ := h
  exact ⟨es, clock, seen, ys, hb.trans h1, h2, hr.trans h3, h4⟩
theorem Ranged.lt {r : Nat} {pre : List α} (h : Ranged P k kv w b r L pre) : b < w.heap.size ∧ r < w.heap.size := by
  obtain ⟨es, clock, seen, ys, h1, h2, h3, h4⟩ := h
  exact ⟨lt_of_heap h1, lt_of_heap h3⟩
theorem Ranged.ne {r : Nat} {pre : List α} (h : Ranged P k kv w b r L pre) : b ≠ r := by
  obtain ⟨es, clock, seen, ys, h1, h2, h3, h4⟩ := h
  intro e
  rw [e, h3] at h1
  simp at h1
theorem SetM.range (h : SetM P k kv w b L) (ht : P.underlying t = some (.map k e)) : ∃ w', (Instr.range t (.map (some b))).run P w = .ok (.pointer (some ⟨w.heap.size, 0, none⟩)) w' ∧ Ranged P k kv w' b w.heap.size L [] ∧ Grew w w' := by
  obtain ⟨es, clock, hb, hM⟩ := h
  refine ⟨_, run_range_map w t k e b es clock ht hb, ⟨es, clock, #[], [], ?_, hM, heap_alloc_new _ _, rfl, fun y hy => by simp at hy, by simp, rfl⟩, (Below.refl _ w).alloc (Nat.le_refl _) _⟩
  exact (Below.heap_alloc _ _ _ (lt_of_heap hb)).trans hb
theorem map_inj {β : Type} (f : MapEntry → β) : ∀ {l : List MapEntry}, (l.map f).Nodup → ∀ {a c : MapEntry}, a ∈ l → c ∈ l → f a = f c → a = c
  | [], _, a, c, ha, _, _ => by simp at ha
  | z :: l, hn, a, c, ha, hc, he => by
    rw [List.map_cons, List.nodup_cons] at hn
    rcases List.mem_cons.1 ha with ea | ha' <;> rcases List.mem_cons.1 hc with ec | hc'
    · rw [ea, ec]
    · exact absurd (List.mem_map.2 ⟨c, hc', by rw [← he, ea]⟩) hn.1
    · exact absurd (List.mem_map.2 ⟨a, ha', by rw [he, ec]⟩) hn.1
    · exact map_inj f hn.2 ha' hc' he
theorem nodup_born {es ys : List MapEntry} (ho : (es.map (·.born)).Nodup) (hs : ∀ y ∈ ys, y ∈ es) {x : MapEntry} (hx : x ∈ es) (hb : x.born ∈ ys.map (·.born)) : x ∈ ys := by
  obtain ⟨y, hy, e⟩ := List.mem_map.1 hb
  rw [← map_inj _ ho (hs y hy) hx e]
  exact hy
theorem len_sub : ∀ {a b : List Nat}, a.Nodup → (∀ x ∈ a, x ∈ b) → a.length ≤ b.length
  | [], b, _, _ => Nat.zero_le _
  | x :: a, b, hn, hs => by
    have hx := hs x (List.mem_cons_self ..)
    have h1 := len_sub (b := b.erase x) (List.nodup_cons.1 hn).2 (fun y hy => (List.mem_erase_of_ne (fun e => (List.nodup_cons.1 hn).1 (by rw [← e]; exact hy))).2 (hs y (List.mem_cons_of_mem _ hy)))
    rw [List.length_erase_of_mem hx] at h1
    have h2 := List.length_pos_of_mem hx
    rw [List.length_cons]
    omega
/-- The next step: nothing is left, or one more comes. -/
theorem Ranged.next {r : Nat} {pre : List α} (h : Ranged P k kv w b r L pre) (hi : ∀ x y, kv x = kv y → x = y) (ty : TypeId) :
    ((pre.Nodup ∧ ∀ x, x ∈ pre ↔ x ∈ L) ∧ (Instr.next (.pointer (some ⟨r, 0, none⟩)) false ty).run P w = .ok (.tuple #[.bool false]) w) ∨
    ∃ x w', x ∈ L ∧ x ∉ pre ∧ pre.length < L.length ∧ (Instr.next (.pointer (some ⟨r, 0, none⟩)) false ty).run P w = .ok (.tuple #[.bool true, kv x, .bool true]) w' ∧
      (Instr.entry (.pointer (some ⟨r, 0, none⟩))).run P w' = .ok (.tuple #[kv x, .bool true]) w' ∧ Ranged P k kv w' b r L (pre ++ [x]) ∧ Chg w w' (fun j => j = r) := by
  obtain ⟨es, clock, seen, ys, hb, hM, hr, hs, hy, hn, hk⟩ := h
  have hsub : ∀ {x : MapEntry}, x ∈ es.toList → seen.contains x.born = true → x ∈ ys := fun {x} hx hc => by
    refine nodup_born hM.once hy hx ?_
    rw [← hs]
    simpa using hc
  have hyn : ys.Nodup := List.Pairwise.of_map (S := fun a b => a ≠ b) (·.born) (fun a b h e => h (by rw [e])) hn
  have hlen : pre.length = ys.length := by
    have := congrArg List.length hk
    simpa using this.symm
  have hpn : pre.Nodup := by
    have h1 : (ys.map (·.key)).Nodup := by
      exact List.pairwise_map.2 (hyn.imp_of_mem fun ha hc hne e => hne (map_inj _ (hM.keyInj hi) (hy _ ha) (hy _ hc) e))
    rw [hk] at h1
    exact List.Pairwise.of_map (S := fun a b => a ≠ b) kv (fun a b h e => h (by rw [e])) h1
  have hpL : ∀ x ∈ pre, x ∈ L := fun x hx => by
    have h1 : kv x ∈ ys.map (·.key) := by rw [hk]; exact List.mem_map.2 ⟨x, hx, rfl⟩
    obtain ⟨y, hy1, ey⟩ := List.mem_map.1 h1
    obtain ⟨z, hz, ez⟩ := hM.mem (hy y hy1)
    rw [hi x z (ey.symm.trans ez)]
    exact hz
  rcases run_next_at w ty r b clock clock seen es clock hr hb hM.born (Nat.le_refl _) with ⟨h0, hrun⟩ | ⟨x, hx, w1, hw1, hrun⟩
  · refine .inl ⟨⟨hpn, fun x => ⟨hpL x, fun hx => ?_⟩⟩, hrun⟩
    have h1 : kv x ∈ es.toList.map (·.key) := by rw [hM.keys]; exact List.mem_map.2 ⟨x, hx, rfl⟩
    obtain ⟨y, hy1, ey⟩ := List.mem_map.1 h1
    have hc : seen.contains y.born = true := by
      cases hcc : seen.contains y.born with
      | true => rfl
      | false =>
        have : y ∈ (leftOf es seen).toList := by
          unfold leftOf
          simp only [Array.toList_filter, List.mem_filter, hcc, Bool.not_false, and_true]
          exact hy1
        have h2 : (leftOf es seen).toList.length = 0 := by simpa using h0
        rw [List.length_eq_zero_iff.1 h2] at this
        simp at this
    have h2 := hsub hy1 hc
    have h3 : kv x ∈ pre.map kv := by rw [← hk, ← ey]; exact List.mem_map.2 ⟨y, h2, rfl⟩
    obtain ⟨z, hz, ez⟩ := List.mem_map.1 h3
    rw [← hi z x ez]
    exact hz
  · have hx1 : x ∈ es.toList ∧ seen.contains x.born = false := by
      unfold leftOf at hx
      simpa using hx
    obtain ⟨y, hyL, ey⟩ := hM.mem hx1.1
    have hxy : x ∉ ys := fun h => by
      have : x.born ∈ seen.toList := by rw [hs]; exact List.mem_map.2 ⟨x, h, rfl⟩
      have h2 := hx1.2
      simp at h2
      exact h2 (by simpa using this)
    have hxb : x.born ∉ ys.map (·.born) := fun h => hxy (nodup_born hM.once hy hx1.1 h)
    have hr1 : w1.heap[r]? = some (.mapIter (some b) clock seen clock) := by rcases hw1 with rfl | rfl <;> exact hr
    have hb1 : w1.heap[b]? = some (.map es clock) := by rcases hw1 with rfl | rfl <;> exact hb
    have hne : b ≠ r := fun e => by rw [e, hr] at hb; simp at hb
    have hb2 : (setBlock w1 r (.mapIter (some b) clock (seen.push x.born) clock)).heap[b]? = some (.map es clock) := (setBlock_other _ _ _ hne).trans hb1
    have hr2 : (setBlock w1 r (.mapIter (some b) clock (seen.push x.born) clock)).heap[r]? = some (.mapIter (some b) clock (seen.push x.born) clock) := by simp [setBlock, lt_of_heap hr1]
    have hval := hM.vals x hx1.1
    have hent := run_entry_at (P := P) _ r b clock seen es clock x hr2 hb2 hx1.1 hM.once
    rw [ey, hval] at hent hrun
    have hcm : Chg w w1 (fun j => j = r) := by
      rcases hw1 with rfl | rfl
      · exact ⟨rfl, rfl, rfl, Nat.le_refl _, fun _ _ _ => rfl⟩
      · exact Chg.of_grew (Below.refl _ _).drew _
    refine .inr ⟨y, _, hyL, fun hp => ?_, ?_, hrun, hent, ⟨es, clock, seen.push x.born, ys ++ [x], hb2, hM, hr2, by rw [Array.toList_push, hs, List.map_append]; rfl, fun z hz => ?_, ?_, ?_⟩, hcm.trans (chg_setBlock _ _ _)⟩
    · have h3 : kv y ∈ ys.map (·.key) := by rw [hk]; exact List.mem_map.2 ⟨y, hp, rfl⟩
      obtain ⟨z, hz, ez⟩ := List.mem_map.1 h3
      refine hxy ?_
      rw [← map_inj _ (hM.keyInj hi) (hy z hz) hx1.1 (ez.trans ey.symm)]
      exact hz
    · have hle : ((ys ++ [x]).map (·.born)).length ≤ (es.toList.map (·.born)).length := len_sub (by
        rw [List.map_append]
        refine List.nodup_append.2 ⟨hn, by simp, fun a ha c hc e => ?_⟩
        simp at hc
        exact hxb (by rw [← hc, ← e]; exact ha)) (fun z hz => by
        obtain ⟨y1, hy1, rfl⟩ := List.mem_map.1 hz
        refine List.mem_map.2 ⟨y1, ?_, rfl⟩
        rcases List.mem_append.1 hy1 with hz | hz
        · exact hy y1 hz
        · rw [List.mem_singleton.1 hz]; exact hx1.1)
      have hsz : es.toList.length = L.length := Array.length_toList.trans hM.size
      simp only [List.length_map, List.length_append, List.length_singleton] at hle
      rw [hsz] at hle
      omega
    · rcases List.mem_append.1 hz with hz | hz
      · exact hy z hz
      · rw [List.mem_singleton.1 hz]; exact hx1.1
    · rw [List.map_append]
      refine List.nodup_append.2 ⟨hn, by simp, fun a ha c hc e => ?_⟩
      simp at hc
      exact hxb (by rw [← hc, ← e]; exact ha)
    · rw [List.map_append, hk, List.map_append]
      simp [ey]
end Go.Proofs.YtmnncildkomagaaDoor
