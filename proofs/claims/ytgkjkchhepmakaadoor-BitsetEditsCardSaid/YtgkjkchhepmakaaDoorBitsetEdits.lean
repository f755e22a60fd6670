/-
  CONTRACTS FOR THE STATEMENT BitsetEdits OF LAYER 4 (bitset): the states of a list of edits, and the two slices that collect them.
-/
import Derived.Test.YtgkjkchhepmakaaDoorBitsetVals
import Derived.Test.YtgkjkchhepmakaaDoorPostsTail
import Derived.Test.YtgkjkchhepmakaaDoorArr
namespace Go.Proofs.YtgkjkchhepmakaaDoor
open Go.RowKit Go.IntWalk

def edF (f : Nat → Bool) (e : Int × Bool) : Nat → Bool := if e.2 then fun x => f x && !ofl [e.1] x else fun x => f x || ofl [e.1] x
def edX (x : List Int) (e : Int × Bool) : List Int := if e.2 then subZ x [e.1] else insZ x e.1
def fsAt (l : List (Int × Bool)) (k : Nat) : Nat → Bool := (l.take k).foldl edF (fun _ => false)
def xsAt (l : List (Int × Bool)) (k : Nat) : List Int := (l.take k).foldl edX []
theorem fs_succ (l : List (Int × Bool)) (k : Nat) (e : Int × Bool) (h : l[k]? = some e) : fsAt l (k + 1) = edF (fsAt l k) e := by
  have hk := (List.getElem?_eq_some_iff.1 h).1
  have he := (List.getElem?_eq_some_iff.1 h).2
  unfold fsAt
  rw [List.take_succ_eq_append_getElem hk, List.foldl_append, he]
  rfl
theorem xs_succ (l : List (Int × Bool)) (k : Nat) (e : Int × Bool) (h : l[k]? = some e) : xsAt l (k + 1) = edX (xsAt l k) e := by
  have hk := (List.getElem?_eq_some_iff.1 h).1
  have he := (List.getElem?_eq_some_iff.1 h).2
  unfold xsAt
  rw [List.take_succ_eq_append_getElem hk, List.foldl_append, he]
  rfl
theorem edX_len (x : List Int) (e : Int × Bool) : (edX x e).length ≤ x.length + 1 := by
  unfold edX
  split
  · have := sub_len x [e.1]; omega
  · exact insZ_len x e.1
theorem ofl_lt' (l : List Int) (n : Nat) (h : ofl l n = true) : n < 65536 := by
  unfold ofl at h
  simp at h
  exact h.1
theorem edF_lt (f : Nat → Bool) (e : Int × Bool) (hf : ∀ n, f n = true → n < 65536) (n : Nat) (h : edF f e n = true) : n < 65536 := by
  unfold edF at h
  split at h
  · simp at h; exact hf n h.1
  · simp at h
    rcases h with h | h
    · exact hf n h
    · exact ofl_lt' _ n h
theorem edX_list {f : Nat → Bool} {x : List Int} (h : LstI f x) (hf : ∀ n, f n = true → n < 65536) (e : Int × Bool) : LstI (edF f e) (edX x e) := by
  unfold edF edX
  split
  · refine (h.sub [e.1]).congr fun n => ?_
    cases hn : f n with
    | false => rfl
    | true =>
      have := hf n hn
      simp only [Bool.true_and]
      congr 1
      rw [Bool.eq_iff_iff]
      simp [ofl, this]
  · exact h.ins e.1
theorem fs_lt (l : List (Int × Bool)) : ∀ (k n : Nat), fsAt l k n = true → n < 65536
  | 0, n, h => by simp [fsAt] at h
  | k + 1, n, h => by
    cases hk : l[k]? with
    | some e => rw [fs_succ l k e hk] at h; exact edF_lt _ e (fs_lt l k) n h
    | none =>
      have : l.length ≤ k := by simpa using hk
      refine fs_lt l k n ?_
      unfold fsAt at h ⊢
      rw [List.take_of_length_le (by omega)] at h ⊢
      exact h
theorem xs_list (l : List (Int × Bool)) : ∀ (k : Nat), LstI (fsAt l k) (xsAt l k)
  | 0 => LstI.nil
  | k + 1 => by
    cases hk : l[k]? with
    | some e => rw [fs_succ l k e hk, xs_succ l k e hk]; exact edX_list (xs_list l k) (fs_lt l k) e
    | none =>
      have : l.length ≤ k := by simpa using hk
      have h := xs_list l k
      unfold fsAt xsAt at h ⊢
      rw [List.take_of_length_le (by omega)] at h
      rw [List.take_of_length_le (by omega)]
      exact h
theorem xs_len (l : List (Int × Bool)) : ∀ (k : Nat), (xsAt l k).length ≤ k
  | 0 => by simp [xsAt]
  | k + 1 => by
    cases hk : l[k]? with
    | some e => rw [xs_succ l k e hk]; have := edX_len (xsAt l k) e; have := xs_len l k; omega
    | none =>
      have : l.length ≤ k := by simpa using hk
      have h := xs_len l k
      unfold xsAt at h ⊢
      rw [List.take_of_length_le (by omega)] at h
      rw [List.take_of_length_le (by omega)]
      omega

/-- The cell that holds a set. -/
def SetH (f : Nat → Bool) (v : Value) (w : World) : Prop := ∃ r k j, v = .slice r k j ∧ St w r k j f
theorem SetH.kept {f : Nat → Bool} {v : Value} {w w' : World} (h : SetH f v w) (hg : Grew w w') : SetH f v w' := let ⟨r, k, j, e, h⟩ := h; ⟨r, k, j, e, h.kept hg⟩
theorem iv_no : ∀ u : Int, isSl (iv u) = false := fun _ => rfl
theorem wv_no : ∀ u : W64, isSl (wv u) = false := fun _ => rfl
theorem SetH.hit {f : Nat → Bool} {v : Value} {w w' : World} (h : SetH f v w) {S : Nat} (hb : Hit S w w') (hS : AllSl w S) : SetH f v w' := by
  obtain ⟨r, k, j, e, ws, h1, h2, h3⟩ := h
  exact ⟨r, k, j, e, ws, h1, h2.hit wv_no hb hS, h3⟩
theorem LstV.hit {A : List Int} {v : Value} {w w' : World} (h : LstV A v w) {S : Nat} (hb : Hit S w w') (hS : AllSl w S) : LstV A v w' := by
  obtain ⟨p, c, e, h⟩ := h
  exact ⟨p, c, e, h.hit iv_no hb hS⟩
theorem Hit.trans_below {S : Nat} {a b c : World} (h : Below a.heap.size a b) (h2 : Hit S b c) : Hit S a c :=
  ⟨h2.os.trans h.os, h2.tape.trans h.tape, h2.output.trans h.output, Nat.le_trans h.size h2.size, fun k hk hne => (h2.block k (Nat.lt_of_lt_of_le hk h.size) hne).trans (h.block k hk)⟩

/-- What lies in memory after some edits: the sets hs and the lists ks, in v3 and v4; S is the block of the set at hand. -/
structure Core (l : List (Int × Bool)) (W : World) (S : Nat) (hs ks : List Value) (v3 v4 : Value) (w : World) : Prop where
  below : Below W.heap.size W w
  high : W.heap.size ≤ S
  allS : AllSl w S
  a3 : Arr w 27 (.slice none 0 0) v3 hs
  a4 : Arr w 22 (.slice none 0 0) v4 ks
  s3 : ∀ u ∈ hs, isSl u = true
  s4 : ∀ u ∈ ks, isSl u = true
  o3 : Off v3 S
  o4 : Off v4 S
  dis : ∀ a n c a' n' c', v3 = .slice (some a) n c → v4 = .slice (some a') n' c' → a.block ≠ a'.block
  b3 : ∀ a n c, v3 = .slice (some a) n c → W.heap.size ≤ a.block
  b4 : ∀ a n c, v4 = .slice (some a) n c → W.heap.size ≤ a.block
  sets : ∀ i u, hs[i]? = some u → SetH (fsAt l (i + 1)) u w
  lists : ∀ i u, ks[i]? = some u → LstV (xsAt l (i + 1)) u w
theorem Core.kept {l : List (Int × Bool)} {W w w' : World} {S : Nat} {hs ks : List Value} {v3 v4 : Value} (h : Core l W S hs ks v3 v4 w) (hg : Grew w w') : Core l W S hs ks v3 v4 w' where
  below := h.below.trans (Below.mono hg h.below.size)
  high := h.high
  allS := h.allS.keep (hg.block _ h.allS.lt)
  a3 := h.a3.kept hg
  a4 := h.a4.kept hg
  s3 := h.s3
  s4 := h.s4
  o3 := h.o3
  o4 := h.o4
  dis := h.dis
  b3 := h.b3
  b4 := h.b4
  sets := fun i u hi => (h.sets i u hi).kept hg
  lists := fun i u hi => LstV.mono _ _ _ _ hg (h.lists i u hi)
theorem Core.hit {l : List (Int × Bool)} {W w w' : World} {S : Nat} {hs ks : List Value} {v3 v4 : Value} (h : Core l W S hs ks v3 v4 w) (hb : Hit S w w') (hS : AllSl w' S) : Core l W S hs ks v3 v4 w' where
  below := h.below.trans (hb.below h.high h.below.size)
  high := h.high
  allS := hS
  a3 := h.a3.hit hb h.o3
  a4 := h.a4.hit hb h.o4
  s3 := h.s3
  s4 := h.s4
  o3 := h.o3
  o4 := h.o4
  dis := h.dis
  b3 := h.b3
  b4 := h.b4
  sets := fun i u hi => (h.sets i u hi).hit hb h.allS
  lists := fun i u hi => (h.lists i u hi).hit hb h.allS
theorem Arr.lt {w : World} {e : TypeId} {z : Value} {a : Addr} {n c : Nat} {vs : List Value} (h : Arr w e z (.slice (some a) n c) vs) : a.block < w.heap.size := by
  rcases h with ⟨h, _⟩ | ⟨g', cap, h1, h2, _⟩
  · simp at h
  · simp only [Value.slice.injEq, Option.some.injEq] at h1
    obtain ⟨rfl, _⟩ := h1
    exact (Array.getElem?_eq_some_iff.1 h2).1
def Pushed (w w' : World) (v : Value) (n g : Nat) : Prop := (Below w.heap.size w w' ∧ w.heap.size ≤ g) ∨ ((∃ c0, v = .slice (some ⟨g, 0, none⟩) n c0) ∧ Hit g w w')
theorem snoc_get {α : Type} {xs : List α} {y : α} {i : Nat} {u : α} (h : (xs ++ [y])[i]? = some u) : xs[i]? = some u ∨ (i = xs.length ∧ u = y) := by
  rcases Nat.lt_or_ge i xs.length with hi | hi
  · rw [List.getElem?_append_left hi] at h; exact .inl h
  · rw [List.getElem?_append_right hi] at h
    have h0 := (List.getElem?_eq_some_iff.1 h).1
    simp at h0
    obtain rfl : i = xs.length := by omega
    simp at h
    exact .inr ⟨rfl, h.symm⟩
theorem Core.push3 {l : List (Int × Bool)} {W w w' : World} {S : Nat} {hs ks : List Value} {v3 v4 u : Value} {g cap : Nat} (h : Core l W S hs ks v3 v4 w) (ha : Arr w' 27 (.slice none 0 0) (.slice (some ⟨g, 0, none⟩) (hs.length + 1) cap) (hs ++ [u]))
    (hp : Pushed w w' v3 hs.length g) (hu : SetH (fsAt l (hs.length + 1)) u w) : Core l W S (hs ++ [u]) ks (.slice (some ⟨g, 0, none⟩) (hs.length + 1) cap) v4 w' ∧ Hit g w w' ∧ (AllSl w g ∨ Grew w w') ∧ g ≠ S := by
  have hul : isSl u = true := by obtain ⟨r, k, j, rfl, _⟩ := hu; rfl
  have hgS : g ≠ S := by
    rcases hp with ⟨_, h2⟩ | ⟨⟨c0, h2⟩, _⟩
    · have := h.allS.lt; omega
    · exact h.o3 _ _ _ h2
  have hWg : W.heap.size ≤ g := by
    rcases hp with ⟨_, h2⟩ | ⟨⟨c0, h2⟩, _⟩
    · exact Nat.le_trans h.below.size h2
    · exact h.b3 _ _ _ h2
  have hhit : Hit g w w' := by
    rcases hp with ⟨h1, _⟩ | ⟨_, h1⟩
    · exact Hit.of_below h1
    · exact h1
  have hal : AllSl w g ∨ Grew w w' := by
    rcases hp with ⟨h1, _⟩ | ⟨⟨c0, rfl⟩, _⟩
    · exact .inr h1
    · exact .inl (h.a3.sl rfl h.s3)
  have hset : ∀ (f : Nat → Bool) (v : Value), SetH f v w → SetH f v w' := fun f v hv => by
    rcases hal with h1 | h1
    · exact hv.hit hhit h1
    · exact hv.kept h1
  have hlst : ∀ (A : List Int) (v : Value), LstV A v w → LstV A v w' := fun A v hv => by
    rcases hal with h1 | h1
    · exact hv.hit hhit h1
    · exact LstV.mono _ _ _ _ h1 hv
  have hdis : ∀ a' n' c', v4 = .slice (some a') n' c' → g ≠ a'.block := fun a' n' c' e => by
    rcases hp with ⟨_, h2⟩ | ⟨⟨c0, h2⟩, _⟩
    · have := (e ▸ h.a4).lt; omega
    · exact h.dis _ _ _ _ _ _ h2 e
  refine ⟨⟨h.below.trans (hhit.below hWg h.below.size), h.high, h.allS.keep (hhit.block _ h.allS.lt (fun e => hgS e.symm)), ha, ?_, ?_, h.s4, ?_, h.o4, ?_, ?_, h.b4, ?_, fun i u hi => hlst _ _ (h.lists i u hi)⟩, hhit, hal, hgS⟩
  · exact h.a4.hit hhit fun a n c e e' => hdis a n c e e'.symm
  · intro x hx
    simp only [List.mem_append, List.mem_singleton] at hx
    rcases hx with hx | rfl
    · exact h.s3 x hx
    · exact hul
  · intro a n c e
    simp only [Value.slice.injEq, Option.some.injEq] at e
    obtain ⟨rfl, _⟩ := e
    exact hgS
  · intro a n c a' n' c' e e'
    simp only [Value.slice.injEq, Option.some.injEq] at e
    obtain ⟨rfl, _⟩ := e
    exact hdis a' n' c' e'
  · intro a n c e
    simp only [Value.slice.injEq, Option.some.injEq] at e
    obtain ⟨rfl, _⟩ := e
    exact hWg
  · intro i x hi
    rcases snoc_get hi with hi | ⟨rfl, rfl⟩
    · exact hset _ _ (h.sets i x hi)
    · exact hset _ _ hu
theorem Core.push4 {l : List (Int × Bool)} {W w w' : World} {S : Nat} {hs ks : List Value} {v3 v4 u : Value} {g cap : Nat} (h : Core l W S hs ks v3 v4 w) (ha : Arr w' 22 (.slice none 0 0) (.slice (some ⟨g, 0, none⟩) (ks.length + 1) cap) (ks ++ [u]))
    (hp : Pushed w w' v4 ks.length g) (hu : LstV (xsAt l (ks.length + 1)) u w) : Core l W S hs (ks ++ [u]) v3 (.slice (some ⟨g, 0, none⟩) (ks.length + 1) cap) w' ∧ Hit g w w' ∧ (AllSl w g ∨ Grew w w') ∧ g ≠ S := by
  have hul : isSl u = true := by obtain ⟨r, k, rfl, _⟩ := hu; rfl
  have hgS : g ≠ S := by
    rcases hp with ⟨_, h2⟩ | ⟨⟨c0, h2⟩, _⟩
    · have := h.allS.lt; omega
    · exact h.o4 _ _ _ h2
  have hWg : W.heap.size ≤ g := by
    rcases hp with ⟨_, h2⟩ | ⟨⟨c0, h2⟩, _⟩
    · exact Nat.le_trans h.below.size h2
    · exact h.b4 _ _ _ h2
  have hhit : Hit g w w' := by
    rcases hp with ⟨h1, _⟩ | ⟨_, h1⟩
    · exact Hit.of_below h1
    · exact h1
  have hal : AllSl w g ∨ Grew w w' := by
    rcases hp with ⟨h1, _⟩ | ⟨⟨c0, rfl⟩, _⟩
    · exact .inr h1
    · exact .inl (h.a4.sl rfl h.s4)
  have hset : ∀ (f : Nat → Bool) (v : Value), SetH f v w → SetH f v w' := fun f v hv => by
    rcases hal with h1 | h1
    · exact hv.hit hhit h1
    · exact hv.kept h1
  have hlst : ∀ (A : List Int) (v : Value), LstV A v w → LstV A v w' := fun A v hv => by
    rcases hal with h1 | h1
    · exact hv.hit hhit h1
    · exact LstV.mono _ _ _ _ h1 hv
  have hdis : ∀ a' n' c', v3 = .slice (some a') n' c' → a'.block ≠ g := fun a' n' c' e => by
    rcases hp with ⟨_, h2⟩ | ⟨⟨c0, h2⟩, _⟩
    · have := (e ▸ h.a3).lt; omega
    · exact h.dis _ _ _ _ _ _ e h2
  refine ⟨⟨h.below.trans (hhit.below hWg h.below.size), h.high, h.allS.keep (hhit.block _ h.allS.lt (fun e => hgS e.symm)), ?_, ha, h.s3, ?_, h.o3, ?_, ?_, h.b3, ?_, fun i u hi => hset _ _ (h.sets i u hi), ?_⟩, hhit, hal, hgS⟩
  · exact h.a3.hit hhit fun a n c e => hdis a n c e
  · intro x hx
    simp only [List.mem_append, List.mem_singleton] at hx
    rcases hx with hx | rfl
    · exact h.s4 x hx
    · exact hul
  · intro a n c e
    simp only [Value.slice.injEq, Option.some.injEq] at e
    obtain ⟨rfl, _⟩ := e
    exact hgS
  · intro a n c a' n' c' e e'
    simp only [Value.slice.injEq, Option.some.injEq] at e'
    obtain ⟨rfl, _⟩ := e'
    exact hdis a n c e
  · intro a n c e
    simp only [Value.slice.injEq, Option.some.injEq] at e
    obtain ⟨rfl, _⟩ := e
    exact hWg
  · intro i x hi
    rcases snoc_get hi with hi | ⟨rfl, rfl⟩
    · exact hlst _ _ (h.lists i x hi)
    · exact hlst _ _ hu

theorem AllSl.set {w : World} {S : Nat} {v : Value} (h : AllSl w S) (hv : isSl v = true) : AllSl (w.setCell ⟨S, 0, none⟩ v) S := by
  obtain ⟨cs, e, h, h2⟩ := h
  refine ⟨cs.setIfInBounds 0 v, e, ?_, fun u hu => ?_⟩
  · have hlt := (Array.getElem?_eq_some_iff.1 h).1
    have he := (Array.getElem?_eq_some_iff.1 h).2
    simp [World.setCell, hlt, Array.getElem_modify, he]
  · rcases Array.mem_or_eq_of_mem_setIfInBounds hu with hu | rfl
    · exact h2 u hu
    · exact hv
theorem BoxV.hit {f : Nat → Bool} {S g : Nat} {w w' : World} (h : BoxV f S w) (hb : Hit g w w') (hal : AllSl w g ∨ Grew w w') (hg : g ≠ S) : BoxV f S w' := by
  rcases hal with hal | hal
  · obtain ⟨r, k, j, e, hs⟩ := h
    obtain ⟨r', k', j', e', hs'⟩ := SetH.hit ⟨r, k, j, rfl, hs⟩ hb hal
    simp only [Value.slice.injEq] at e'
    obtain ⟨rfl, rfl, rfl⟩ := e'
    exact ⟨r, k, j, (World.cell?_of_block (a := ⟨S, 0, none⟩) (hb.block S (World.block_lt_of_cell? _ _ e) (Ne.symm hg))).trans e, hs'⟩
  · exact h.kept hal
theorem LstV.hit' {A : List Int} {v : Value} {g : Nat} {w w' : World} (h : LstV A v w) (hb : Hit g w w') (hal : AllSl w g ∨ Grew w w') : LstV A v w' := by
  rcases hal with hal | hal
  · exact h.hit hb hal
  · exact LstV.mono _ _ _ _ hal h

theorem enters_with : Enters Tryd.prog 27 := fun args w => by go_simp
theorem enters_without : Enters Tryd.prog 26 := fun args w => by go_simp
theorem enters_rwith : Enters Tryd.prog 28 := fun args w => by go_simp
theorem enters_same : Enters Tryd.prog 15 := fun args w => by go_simp
section
variable {w : World} {u v : Value} {f : Nat → Bool}
theorem with_v {z : Int} (hz : W64In z) (h : SetV f u w) :
    Calls Tryd.prog 27 #[u, .int .i64 z] w fun e w' => ∃ v, e = .returned v ∧ Grew w w' ∧ SetV (fun x => f x || ofl [z] x) v w' := by
  obtain ⟨p, n, c, rfl, h⟩ := h
  refine (with_any p n c f z hz.1 hz.2 w h).mono ?_
  rintro e w' ⟨r, k, j, rfl, -, hs, hw⟩
  exact ⟨_, rfl, hw, r, k, j, rfl, hs⟩
theorem without_v {z : Int} (hz : W64In z) (h : SetV f u w) :
    Calls Tryd.prog 26 #[u, .int .i64 z] w fun e w' => ∃ v, e = .returned v ∧ Grew w w' ∧ SetV (fun x => f x && !ofl [z] x) v w' := by
  obtain ⟨p, n, c, rfl, h⟩ := h
  refine (without_any p n c f z hz.1 hz.2 w h).mono ?_
  rintro e w' ⟨r, k, j, rfl, -, hs, hw⟩
  exact ⟨_, rfl, hw, r, k, j, rfl, hs⟩
theorem rwith_v {A : List Int} {z : Int} (hA : A.length ≤ 4294967296) (h : LstV A u w) :
    Calls Tryd.prog 28 #[u, .int .i64 z] w fun e w' => ∃ v, e = .returned v ∧ Grew w w' ∧ LstV (insZ A z) v w' := by
  obtain ⟨p, c, rfl, h⟩ := h
  refine (rwith_any p _ c A z w rfl hA h).mono ?_
  rintro e w' ⟨r, k, j, rfl, rfl, hr, hw⟩
  exact ⟨_, rfl, hw, r, j, rfl, hr⟩
theorem same_v {A : List Int} (hA : LstI f A) (he : Env w) (h : SetV f u w) (h2 : LstV A v w) :
    Calls Tryd.prog 15 #[u, v] w fun e w' => ∃ v, e = .returned v ∧ Grew w w' ∧ v = .bool true := by
  obtain ⟨p, n, c, rfl, h⟩ := h
  obtain ⟨q, d, rfl, h2⟩ := h2
  refine (same_any p n c f f q _ d A w h rfl h2 hA (fun _ => rfl) he).mono ?_
  rintro e w' ⟨rfl, hw⟩
  exact ⟨_, rfl, hw, rfl⟩
end
section
variable {dst : Option Tmp} {ty : TypeId} {pos : String} {after : Array Edge} {g : Option (Nat × Bool)} {a : Act} {w : World} {T : Value → World → Prop}
theorem runs_field0 {x E : Nat} (hx : slot a x = .pointer (some ⟨E, 0, none⟩)) (h : T (.pointer (some ⟨E, 0, none⟩)) w) : Runs Tryd.prog ⟨dst, .fieldAddr 43 (.tmp x) 0, ty, pos, after, g⟩ a w T := by
  rw [← slot_get] at hx
  refine Runs.value (v := .pointer (some ⟨E, 0, none⟩)) (w' := w) ?_ h
  simp only [execOp]
  go_simp
theorem runs_loadi {x : Nat} {q : Addr} {z : Int} (hx : slot a x = .pointer (some q)) (hc : w.cell? q = some (.int .i64 z)) (h : T (.int .i64 z) w) : Runs Tryd.prog ⟨dst, .load 3 (.tmp x), ty, pos, after, g⟩ a w T := by
  rw [← slot_get] at hx
  refine Runs.value (v := .int .i64 z) (w' := w) ?_ h
  simp only [execOp]
  go_simp
theorem runs_index3 {x y gg n c k : Nat} (hx : slot a x = .slice (some ⟨gg, 0, none⟩) n c) (hy : slot a y = .int .i64 (k : Int)) (hk : k < n) (h : T (.pointer (some ⟨gg, k, none⟩)) w) : Runs Tryd.prog ⟨dst, .indexAddr 40 (.tmp x) (.tmp y), ty, pos, after, g⟩ a w T := by
  rw [← slot_get] at hx hy
  refine Runs.value (v := .pointer (some ⟨gg, k, none⟩)) (w' := w) ?_ h
  simp only [execOp]
  go_simp
theorem runs_index4 {x y gg n c k : Nat} (hx : slot a x = .slice (some ⟨gg, 0, none⟩) n c) (hy : slot a y = .int .i64 (k : Int)) (hk : k < n) (h : T (.pointer (some ⟨gg, k, none⟩)) w) : Runs Tryd.prog ⟨dst, .indexAddr 41 (.tmp x) (.tmp y), ty, pos, after, g⟩ a w T := by
  rw [← slot_get] at hx hy
  refine Runs.value (v := .pointer (some ⟨gg, k, none⟩)) (w' := w) ?_ h
  simp only [execOp]
  go_simp
theorem runs_loadset {x gg k : Nat} {f : Nat → Bool} {u : Value} (hx : slot a x = .pointer (some ⟨gg, k, none⟩)) (hc : w.cell? ⟨gg, k, none⟩ = some u) (hu : SetH f u w) : Runs Tryd.prog ⟨dst, .load 27 (.tmp x), ty, pos, after, g⟩ a w (fun v w' => Grew w w' ∧ SetV f v w') := by
  obtain ⟨r, m, j, rfl, hs⟩ := hu
  rw [← slot_get] at hx
  refine Runs.value (v := .agg #[.slice r m j]) (w' := w) ?_ ⟨Grew.refl _, r, m, j, rfl, hs⟩
  simp only [execOp]
  go_simp
theorem runs_loadlst {x gg k : Nat} {A : List Int} {u : Value} (hx : slot a x = .pointer (some ⟨gg, k, none⟩)) (hc : w.cell? ⟨gg, k, none⟩ = some u) (hu : LstV A u w) : Runs Tryd.prog ⟨dst, .load 22 (.tmp x), ty, pos, after, g⟩ a w (fun v w' => Grew w w' ∧ LstV A v w') := by
  rw [← slot_get] at hx
  refine Runs.value (v := u) (w' := w) ?_ ⟨Grew.refl _, hu⟩
  simp only [execOp]
  go_simp
theorem runs_build1 {x : Nat} {z : Int} (hx : slot a x = .int .i64 z) : Runs Tryd.prog ⟨dst, .buildSlice 22 1 #[(0, .tmp x)], ty, pos, after, g⟩ a w (fun v w' => Grew w w' ∧ LstV [z] v w') := by
  rw [← slot_get] at hx
  refine Runs.value (v := .slice (some ⟨w.heap.size, 0, none⟩) 1 1) (w' := w.alloc (.cells #[.int .i64 z] 3)) ?_ ⟨(Below.refl _ _).alloc (Nat.le_refl _) _, _, _, rfl, Rd.made iv w [z] 1 _ _ _ rfl rfl (by omega)⟩
  simp only [execOp]
  go_simp
theorem runs_store {x y S : Nat} {p : Option Addr} {n c : Nat} {v0 : Value} (hx : slot a x = .pointer (some ⟨S, 0, none⟩)) (hy : slot a y = .agg #[.slice p n c]) (hc : w.cell? ⟨S, 0, none⟩ = some v0) (hf : w.frozen? ⟨S, 0, none⟩ = false)
    (h : T undef (w.setCell ⟨S, 0, none⟩ (.slice p n c))) : Runs Tryd.prog ⟨dst, .store 27 (.tmp x) (.tmp y), ty, pos, after, g⟩ a w T := by
  rw [← slot_get] at hx hy
  refine Runs.skip (w' := w.setCell ⟨S, 0, none⟩ (.slice p n c)) ?_ h
  simp only [execOp]
  go_simp
end
end Go.Proofs.YtgkjkchhepmakaaDoor
