/-
  RANGES OVER A FUNCTION (any program), as Each, in a wider form: the iterator names the blocks that the body must keep (P): it may change those of them that are new (from N on), and no others; a round is told what has come so far. The law for the loop. Nothing of the program stands here.
-/
import Derived.Test.YtmnncildkomagaaDoorChg
import Derived.RangeFuncIn
import Derived.RangeFuncRecord
import Derived.RangeFuncLeaves
import Derived.RangeFuncSeq
namespace Go.Proofs.YtmnncildkomagaaDoor
open Go Go.RowKit

/-- Sets of blocks. -/
abbrev Blks := Nat → Prop
/-- A claim of the loop's side: it speaks of no block of P; P may turn into any set that has no further old block. -/
def Abides {β : Type} (N : Nat) (J : Blks → β → World → Prop) : Prop := ∀ P P' s W W', J P s W → Chg W W' (fun k => P k ∧ N ≤ k) → (∀ k, k < W.heap.size → P' k → P k) → J P' s W'
/-- The blocks of P lie as they lay. -/
structure Kept (P : Blks) (W W' : World) : Prop where
  size : W.heap.size ≤ W'.heap.size
  same : ∀ k, k < W.heap.size → P k → W'.heap[k]? = W.heap[k]?
theorem Kept.refl (P : Blks) (W : World) : Kept P W W := ⟨Nat.le_refl _, fun _ _ _ => rfl⟩
theorem Kept.trans {P : Blks} {A B C : World} (h : Kept P A B) (k : Kept P B C) : Kept P A C :=
  ⟨Nat.le_trans h.size k.size, fun i hi hp => (k.same i (Nat.lt_of_lt_of_le hi h.size) hp).trans (h.same i hi hp)⟩
theorem Kept.sub {P P' : Blks} {A B : World} (h : Kept P A B) (hs : ∀ k, P' k → P k) : Kept P' A B := ⟨h.size, fun k hk hp => h.same k hk (hs k hp)⟩
theorem Kept.heap {P : Blks} {A B : World} (h : Kept P A B) {k : Nat} (hp : P k) {o : Obj} (ho : A.heap[k]? = some o) : B.heap[k]? = some o := (h.same k (lt_of_heap ho) hp).trans ho
theorem Kept.of_grew {P : Blks} {A B : World} (h : Grew A B) : Kept P A B := ⟨Below.size h, fun k hk _ => Below.block h k hk⟩
theorem Kept.of_chg {P S : Blks} {A B : World} (h : Chg A B S) (hd : ∀ k, P k → ¬ S k) : Kept P A B := ⟨h.size, fun k hk hp => h.block k hk (hd k hp)⟩
theorem chg_put (W : World) (r : Nat) (o : Obj) : Chg W (W.putObj r o) (fun k => k = r) := ⟨rfl, rfl, rfl, by simp, fun _ _ hk => World.putObj_heap_other hk⟩
theorem Abides.put {β : Type} {N : Nat} {J : Blks → β → World → Prop} (h : Abides N J) {P : Blks} {s : β} {W : World} (hs : J P s W) {r : Nat} (hr : P r) (hN : N ≤ r) (o : Obj) : J P s (W.putObj r o) :=
  h P P s W _ hs ((chg_put W r o).mono fun _ e => e ▸ ⟨hr, hN⟩) (fun _ _ h => h)
theorem Abides.grew {β : Type} {N : Nat} {J : Blks → β → World → Prop} (h : Abides N J) {P P' : Blks} {s : β} {W W' : World} (hs : J P s W) (hg : Grew W W') (hp : ∀ k, k < W.heap.size → P' k → P k) : J P' s W' :=
  h P P' s W W' hs (Chg.of_grew hg _) hp
theorem Abides.and {β : Type} {N : Nat} {J K : Blks → β → World → Prop} (h : Abides N J) (h' : Abides N K) : Abides N (fun P s W => J P s W ∧ K P s W) :=
  fun P P' s W W' hs hc hp => ⟨h P P' s W W' hs.1 hc hp, h' P P' s W W' hs.2 hc hp⟩
/-- A call of yield, at whatever depth. -/
def Yields (P : Program) (l : Nat) (args : Array Value) (W : World) (R : Ending → World → Prop) : Prop :=
  ∃ fn tmps assign body, (Instr.yield l args).run P W = .ok (.round l fn tmps assign body) W ∧ ∀ m, RoundIn Fence.wide m P l fn tmps assign body W R
theorem Yields.mono {P : Program} {l : Nat} {args : Array Value} {W : World} {R R' : Ending → World → Prop} (h : Yields P l args W R) (hr : ∀ e w, R e w → R' e w) : Yields P l args W R' := by
  obtain ⟨fn, tmps, assign, body, hy, hR⟩ := h
  exact ⟨fn, tmps, assign, body, hy, fun m => (hR m).mono hr⟩
theorem round_wide {P : Program} {m : Nat} {l l' f : Nat} {tmps : Array Value} {assign body : Code} {W : World} {R : Ending → World → Prop} (h : RoundIn Fence.wide m P l f tmps assign body W R) : RoundIn (Fence.wide.inRound l') m P l f tmps assign body W R := h
/-- How the body of a round may be left. -/
def eachPost {α : Type} (P : Blks) (I : Blks → List α → World → Prop) (Ix : Code → Blks → List α → World → Prop) (xs : List α) (W : World) : Exit → Act → World → Prop
  | .normal, _, W' => Kept P W W' ∧ I P xs W'
  | .ret, _, W' => Kept P W W' ∧ Ix .ret P xs W'
  | .exit id, _, W' => Kept P W W' ∧ Ix (.exit id) P xs W'
  | .goto t, _, W' => Kept P W W' ∧ Ix (.goto t) P xs W'
  | .panic _, _, _ => False
  | .outgrown, _, _ => False
/-- What an iterator's value promises in the world w, in which the blocks P₀ are its own: called with whatever loop's yield, it yields elements that are fresh (Fr), one by one, and ends in S, or, where a round says 'no more', in Sp. -/
def Gives {α : Type} (P : Program) (gf : Nat) (lb : Array Value) (encs : α → Array Value) (Fr : List α → α → Prop) (P₀ : Blks) (S Sp : List α → Prop) (w : World) : Prop :=
  ∀ (n l : Nat) (J Jx : Blks → List α → World → Prop) (W : World), Grew w W → Abides w.heap.size J → Abides w.heap.size Jx →
    (∀ P1 pre x W1, J P1 pre W1 → Fr pre x → (∀ k, P1 k → k < W1.heap.size) → Yields P l (encs x) W1 fun e W' => (e = .returned (.bool true) ∧ J P1 (pre ++ [x]) W' ∧ Kept P1 W1 W') ∨ (e = .returned (.bool false) ∧ Jx P1 (pre ++ [x]) W' ∧ Kept P1 W1 W')) →
    J P₀ [] W → CallsIn Fence.wide n P gf (#[.func (.yield l) #[] #[]] ++ lb) W fun e W' => (∃ v, e = .returned v) ∧ ((∃ xs P1, S xs ∧ J P1 xs W') ∨ (∃ pre P1, Sp pre ∧ Jx P1 pre W'))
/-- THE LOOP. -/
theorem wpIn_each {α : Type} {P : Program} {n : Nat} {g : Operand} {ps : Array Tmp} {assign body : Code} {Q : Exit → Act → World → Prop} {a : Act} {w : World} {gf : Nat} {lb : Array Value}
    (hg : a.eval g = .func (.func gf) #[] lb) (eg : ∀ args w, (callFunc gf args).run P w = .ok (.enter gf args) w) {encs : α → Array Value} (hps : ∀ x, (encs x).size = ps.size)
    {Fr : List α → α → Prop}
    {P₀ : Blks} {S Sp : List α → Prop} (hseq : Gives P gf lb encs Fr P₀ S Sp w) (hP₀ : ∀ k, P₀ k → k < w.heap.size)
    (I : Blks → List α → World → Prop) (Ix : Code → Blks → List α → World → Prop) (hI : Abides w.heap.size I) (hIx : ∀ c, Abides w.heap.size (Ix c)) (h0 : I P₀ [] w) (As : Nat → α → Act → World → Prop)
    (hassign : ∀ (l m : Nat) (x : α) (W : World) (K : Act → World → Prop), (∀ a1 W1, Grew W W1 → As W.heap.size x a1 W1 → K a1 W1) →
      assign.wpIn (Fence.wide.inRound l) m P (Exit.then K (fun _ _ _ => False)) { tmps := (ps.zip (encs x)).foldl (fun t (p, v) => t.setIfInBounds p v) a.tmps, defers := [] } W)
    (hput : ∀ (z : Nat) (x : α) (a1 : Act) (W1 : World) (r : Nat) (o : Obj), r < z → As z x a1 W1 → As z x a1 (W1.putObj r o))
    (hbody : ∀ (l m z : Nat) (P1 : Blks) (pre : List α) (x : α) (a1 : Act) (W : World), I P1 pre W → Fr pre x → (∀ k, P1 k → k < z) → z ≤ W.heap.size → As z x a1 W → body.wpIn (Fence.wide.inRound l) m P (eachPost P1 I Ix (pre ++ [x]) W) a1 W)
    (hdone : ∀ (D : Nat) (P1 : Blks) (xs : List α) (W : World), w.heap.size ≤ D → P1 D → S xs → I P1 xs W → W.heap[D]? = some (.deferred (some [])) → Q .normal { a with defers := { target := .collected D, args := #[] } :: a.defers } W)
    (hstop : ∀ (D : Nat) (c : Code) (P1 : Blks) (pre : List α) (W : World), w.heap.size ≤ D → P1 D → Sp pre → Ix c P1 pre W → W.heap[D]? = some (.deferred (some [])) → c.wpIn Fence.wide n P Q { a with defers := { target := .collected D, args := #[] } :: a.defers } W) :
    (Code.rangeFunc g ps assign body).wpIn Fence.wide n P Q a w := by
  refine wpIn_rangeFunc fun fn _ => ?_
  obtain ⟨D, hD⟩ : ∃ D, D = w.heap.size := ⟨_, rfl⟩
  obtain ⟨L, hL⟩ : ∃ L, L = D + 1 := ⟨_, rfl⟩
  obtain ⟨rc, hrc⟩ : ∃ rc : LoopState → Option Code → Loop, rc = fun st pe => { state := st, pending := pe, fn, tmps := a.tmps, params := ps, assign, body, defers := D } := ⟨_, rfl⟩
  obtain ⟨V, hV⟩ : ∃ V, V = (w.alloc (.deferred (some []))).alloc (.loop (rc .ready none)) := ⟨_, rfl⟩
  have hVD : V.heap[D]? = some (.deferred (some [])) := by
    rw [hV, hD]
    exact (Below.heap_alloc _ _ _ (by simp)).trans (World.alloc_heap_new w _)
  have hVL : V.heap[L]? = some (.loop (rc .ready none)) := by
    have := World.alloc_heap_new (w.alloc (.deferred (some []))) (.loop (rc .ready none))
    rw [World.size_alloc] at this
    rw [hV, hL, hD]
    exact this
  have hgV : Grew w V := by
    rw [hV]
    exact ((Below.refl _ w).alloc (Nat.le_refl _) _).alloc (by simp) _
  have hLD : L ≠ D := by omega
  refine ⟨L, [{ target := .collected D, args := #[] }], V, { target := .fn (.func gf) lb, args := #[.func (.yield L) #[] #[]] }, V, gf, #[.func (.yield L) #[] #[]] ++ lb, V, ?_, ?_, fun f' _ => trivial, ?_, fun h => by simp [Fence.wide] at h, ?_⟩
  · rw [hV, hrc, hL, hD]
    exact run_enterLoop_outer _ _ _ _ _
  · simp only [resolve, hg]
    simp [go_sem]
  · simp [invoke, go_sem, eg]
  obtain ⟨X, hX⟩ : ∃ X : Blks → Blks, X = fun P1 k => P1 k ∨ k = D ∨ k = L := ⟨_, rfl⟩
  have xD : ∀ P1, X P1 D := fun P1 => by rw [hX]; exact .inr (.inl rfl)
  have xL : ∀ P1, X P1 L := fun P1 => by rw [hX]; exact .inr (.inr rfl)
  have xi : ∀ P1 k, P1 k → X P1 k := fun P1 k h => by rw [hX]; exact .inl h
  have nL0 : w.heap.size ≤ L := by omega
  have nD0 : w.heap.size ≤ D := by omega
  have key : ∀ {β : Type} {K : Blks → β → World → Prop} (hK : Abides w.heap.size K) (st : LoopState) (pe : Option Code) (P1 P2 : Blks) (s : β) (A B : World),
      (K (X P1) s A ∧ A.heap[L]? = some (.loop (rc st pe)) ∧ A.heap[D]? = some (.deferred (some [])) ∧ ¬ P1 L ∧ ¬ P1 D) → Chg A B (fun k => P1 k ∧ w.heap.size ≤ k) → (∀ k, k < A.heap.size → P2 k → P1 k) →
      (K (X P2) s B ∧ B.heap[L]? = some (.loop (rc st pe)) ∧ B.heap[D]? = some (.deferred (some [])) ∧ ¬ P2 L ∧ ¬ P2 D) := by
    rintro β K hK st pe P1 P2 s A B ⟨h1, h2, h3, h4, h5⟩ hc hp
    refine ⟨hK (X P1) (X P2) s A B h1 (hc.mono fun k h => ⟨xi P1 k h.1, h.2⟩) (fun k hk hx => ?_), (hc.block L (lt_of_heap h2) (fun h => h4 h.1)).trans h2, (hc.block D (lt_of_heap h3) (fun h => h5 h.1)).trans h3, fun h => h4 (hp L (lt_of_heap h2) h), fun h => h5 (hp D (lt_of_heap h3) h)⟩
    rw [hX] at hx ⊢
    exact hx.imp_left (hp k hk)
  refine (hseq (n - 1) L (fun P1 pre W => I (X P1) pre W ∧ W.heap[L]? = some (.loop (rc .ready none)) ∧ W.heap[D]? = some (.deferred (some [])) ∧ ¬ P1 L ∧ ¬ P1 D)
    (fun P1 pre W => ∃ c, Ix c (X P1) pre W ∧ W.heap[L]? = some (.loop (rc .done (some c))) ∧ W.heap[D]? = some (.deferred (some [])) ∧ ¬ P1 L ∧ ¬ P1 D) V hgV
    (fun P1 P2 s A B h hc hp => key hI _ _ P1 P2 s A B h hc hp) (fun P1 P2 s A B h hc hp => by
      obtain ⟨c, h⟩ := h
      exact ⟨c, key (hIx c) _ _ P1 P2 s A B h hc hp⟩) ?_ ⟨hI.grew h0 hgV (fun k hk hx => ?_), hVL, hVD, fun h => ?_, fun h => ?_⟩).mono ?_
  · rintro P1 pre x W ⟨hi, hl, hd, nL, nD⟩ hfr hbd
    have hy := run_yield (P := P) (args := encs x) hl (by rw [hrc]; exact hps x)
    rw [hrc] at hy
    refine ⟨fn, _, assign, body, hy, fun m => roundIn_of_wpIn trivial (hassign L m x W _ ?_)⟩
    intro a1 V1 hg1 has
    have hkW : Kept P1 W V1 := Kept.of_grew hg1
    have hz1 : W.heap.size ≤ V1.heap.size := Below.size hg1
    have hLW := lt_of_heap hl
    have hDW := lt_of_heap hd
    have hbW := hbd
    replace hi := hI.grew hi hg1 (P' := X P1) (fun _ _ h => h)
    replace hl := (Below.block hg1 L (lt_of_heap hl)).trans hl
    replace hd := (Below.block hg1 D (lt_of_heap hd)).trans hd
    clear hy hbd
    refine ⟨_, run_beginRound hl (by rw [hrc]), ?_⟩
    have hl2 : (V1.putObj L (.loop { rc .ready none with state := .busy })).heap[L]? = some (.loop { rc .ready none with state := .busy }) := World.putObj_heap_same (lt_of_heap hl)
    have hd2 : (V1.putObj L (.loop { rc .ready none with state := .busy })).heap[D]? = some (.deferred (some [])) := (World.putObj_heap_other (Ne.symm hLD)).trans hd
    refine wpIn_mono (hbody L m W.heap.size (X P1) pre x a1 _ (hI.put hi (xL P1) nL0 _) hfr (fun k hk => by
      rw [hX] at hk
      rcases hk with h | h | h
      · exact hbW k h
      · omega
      · omega) (by rw [World.putObj_size]; exact hz1) (hput _ _ _ _ _ _ hLW has)) ?_
    have fin : ∀ (jump : Option Code) (A : World), Kept (X P1) (V1.putObj L (.loop { rc .ready none with state := .busy })) A →
        (Instr.endRound L jump).run P A = .ok (.bool jump.isNone) (A.putObj L (.loop (rc (if jump.isNone then .ready else .done) jump))) ∧
        (A.putObj L (.loop (rc (if jump.isNone then .ready else .done) jump))).heap[L]? = some (.loop (rc (if jump.isNone then .ready else .done) jump)) ∧
        (A.putObj L (.loop (rc (if jump.isNone then .ready else .done) jump))).heap[D]? = some (.deferred (some [])) ∧ Kept P1 W (A.putObj L (.loop (rc (if jump.isNone then .ready else .done) jump))) := fun jump A hk => by
      have hl3 := hk.heap (xL P1) hl2
      have hr := run_endRound (P := P) jump hl3
      rw [hrc] at hr ⊢
      refine ⟨hr, World.putObj_heap_same (lt_of_heap hl3), (World.putObj_heap_other (Ne.symm hLD)).trans (hk.heap (xD P1) hd2), ?_⟩
      refine hkW.trans ⟨by simpa using hk.size, fun k hk0 hp => ?_⟩
      have hkL : k ≠ L := fun e => nL (e ▸ hp)
      rw [World.putObj_heap_other hkL, hk.same k (by simpa using hk0) (xi P1 k hp), World.putObj_heap_other hkL]
    rintro e a3 A hp
    cases e with
    | normal =>
      obtain ⟨hk, hi3⟩ := hp
      obtain ⟨h1, h2, h3, h4⟩ := fin none A hk
      exact ⟨_, _, h1, .inl ⟨rfl, ⟨hI.put hi3 (xL P1) nL0 _, h2, h3, nL, nD⟩, h4⟩⟩
    | ret =>
      obtain ⟨hk, hi3⟩ := hp
      obtain ⟨h1, h2, h3, h4⟩ := fin (some .ret) A hk
      exact ⟨_, _, h1, .inr ⟨rfl, ⟨.ret, (hIx _).put hi3 (xL P1) nL0 _, h2, h3, nL, nD⟩, h4⟩⟩
    | exit id =>
      obtain ⟨hk, hi3⟩ := hp
      obtain ⟨h1, h2, h3, h4⟩ := fin (some (.exit id)) A hk
      exact ⟨_, _, h1, .inr ⟨rfl, ⟨.exit id, (hIx _).put hi3 (xL P1) nL0 _, h2, h3, nL, nD⟩, h4⟩⟩
    | goto t =>
      obtain ⟨hk, hi3⟩ := hp
      obtain ⟨h1, h2, h3, h4⟩ := fin (some (.goto t)) A hk
      exact ⟨_, _, h1, .inr ⟨rfl, ⟨.goto t, (hIx _).put hi3 (xL P1) nL0 _, h2, h3, nL, nD⟩, h4⟩⟩
    | panic ch => exact hp.elim
    | outgrown => exact hp.elim
  · rw [hX] at hx
    rcases hx with h | h | h
    · exact h
    · omega
    · omega
  · have := hP₀ L h
    omega
  · have := hP₀ D h
    omega
  · rintro e A ⟨⟨v, rfl⟩, (⟨xs, P1, hS, hi, hl, hd, nL, nD⟩ | ⟨pre, P1, hSp, c, hi, hl, hd, nL, nD⟩)⟩
    · have hr := run_endLoop (P := P) hl (by rw [hrc]; simp)
      rw [hrc] at hr
      exact ⟨none, _, hr, hdone D (X P1) xs _ (by omega) (xD P1) hS (hI.put hi (xL P1) nL0 _) ((World.putObj_heap_other (Ne.symm hLD)).trans hd)⟩
    · have hr := run_endLoop (P := P) hl (by rw [hrc]; simp)
      rw [hrc] at hr
      exact ⟨some c, _, hr, hstop D c (X P1) pre _ (by omega) (xD P1) hSp ((hIx c).put hi (xL P1) nL0 _) ((World.putObj_heap_other (Ne.symm hLD)).trans hd)⟩
/-- The marks that loops over iterators leave in an activation. -/
def marks (Ds : List Nat) : List Deferred := Ds.map fun D => { target := .collected D, args := #[] }
theorem leaves_marks {P : Program} {n : Nat} {fn : Func} {tmps : Array Value} {R : Ending → World → Prop} : ∀ (Ds : List Nat) (w : World), Ds.Nodup → (∀ D ∈ Ds, w.heap[D]? = some (.deferred (some []))) →
    (∀ w', Chg w w' (fun k => k ∈ Ds) → ∃ v, (results fn tmps).run P w' = .ok v w' ∧ R (.returned v) w') → LeavesInM Fence.wide n P fn tmps R (marks Ds) .returning w := by
  intro Ds
  induction Ds with
  | nil => intro w _ _ h; exact h w (Chg.refl _ _)
  | cons D Ds ih =>
    intro w hn hd h
    refine ⟨by simp, .inl ⟨D, w.putObj D (.deferred none), rfl, run_takeDeferred (hd D (by simp)), ih _ (List.nodup_cons.1 hn).2 (fun D' h' => ?_) (fun w' hc => h w' ?_)⟩⟩
    · have hne : D' ≠ D := fun e => (List.nodup_cons.1 hn).1 (e ▸ h')
      exact (World.putObj_heap_other hne).trans (hd D' (by simp [h']))
    · exact ((chg_put w D _).mono fun k hk => by simp [hk]).trans (hc.mono fun k hk => by simp [hk])
end Go.Proofs.YtmnncildkomagaaDoor
