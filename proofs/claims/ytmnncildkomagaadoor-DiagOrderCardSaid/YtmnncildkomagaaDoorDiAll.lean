/-
  CONTRACTS OF LAYER 14 (diag): slices.AppendSeq, Collect, SortFunc, SortedFunc; All.
-/
import Derived.Test.YtmnncildkomagaaDoorDiIter
import Derived.Test.YtmnncildkomagaaDoorRowIn
namespace Go.Proofs.YtmnncildkomagaaDoor
open Go Go.RowKit Go.IntWalk Go.Shelf Go.Sort
set_option linter.unusedSimpArgs false
set_option linter.unusedVariables false
set_option maxRecDepth 8000

attribute [local go_sem] Oper.semAt_some
abbrev RowT : TypeId := 31
/-- What AppendSeq has collected, between two rounds: the box of its slice lies at S. -/
structure Coll (N S : Nat) (w0 : World) (P : Blks) (xs : List It) (W : World) : Prop where
  grew : Grew w0 W
  out : ∃ p c, Blk S [.slice p xs.length c] RowT W ∧ ¬ P S ∧ OwR W N 37 2 itc (.slice p xs.length c) xs ∧ ∀ a, p = some a → ¬ P a.block
theorem Coll.abides (N S M : Nat) (w0 : World) (hM : w0.heap.size ≤ M) : Abides M (Coll N S w0) := fun P P' xs A B h hc hp => by
  obtain ⟨h1, ⟨p, c, h5, h6, h7, h8⟩⟩ := h
  exact ⟨grew_lift h1 hc (fun k hk => Nat.le_trans hM hk.2), ⟨p, c, h5.chg hc (fun h => h6 h.1), fun h => h6 (hp _ h5.lt h), h7.chg hc (fun a ha h => h8 a ha h.1), fun a ha h => h8 a ha (hp _ (h7.place encI a ha).2 h)⟩⟩
/-- One more is collected. -/
theorem Coll.more {N S : Nat} {w0 : World} {P : Blks} {pre : List It} {x : It} {W w2 : World} {p p2 : Option Addr} {c c2 : Nat} {zs : List It} (h : Coll N S w0 P pre W) (hb : Blk S [.slice p pre.length c] RowT W) (hN : N = w0.heap.size) (hS : N ≤ S) (hbd : ∀ k, P k → k < W.heap.size) (hz : zs = pre ++ [x])
    (ho2 : OwR w2 N 37 2 itc (.slice p2 zs.length c2) zs) (hc2 : Chg (W.alloc (.cells #[.int .i64 x.1, .string ⟨x.2.toArray⟩] 37)) w2 (fun j => Value.ownBlock (.slice p pre.length c) = some j)) (hor : Value.ownBlock (.slice p2 zs.length c2) = Value.ownBlock (.slice p pre.length c) ∨ Value.ownBlock (.slice p2 zs.length c2) = some (W.alloc (.cells #[.int .i64 x.1, .string ⟨x.2.toArray⟩] 37)).heap.size) :
    Kept P W (w2.setCell ⟨S, 0, none⟩ (.slice p2 zs.length c2)) ∧ Coll N S w0 P (pre ++ [x]) (w2.setCell ⟨S, 0, none⟩ (.slice p2 zs.length c2)) := by
  subst hz
  obtain ⟨h1, ⟨p', c', h5, h6, h8, h9⟩⟩ := h
  have e := (h5.cell 0).symm.trans (hb.cell 0)
  simp only [List.getElem?_cons_zero, Option.some.injEq, Value.slice.injEq, true_and] at e
  obtain ⟨rfl, rfl⟩ := e
  have hga : Grew W (W.alloc (.cells #[.int .i64 x.1, .string ⟨x.2.toArray⟩] 37)) := (Grew.refl _).alloc _
  have hca : Chg W w2 (fun j => Value.ownBlock (.slice p' pre.length c') = some j) := (Chg.of_grew hga _).trans hc2
  have hrow : ∀ j, Value.ownBlock (.slice p' pre.length c') = some j → ∃ a, p' = some a ∧ a.block = j := fun j hj => by
    rw [ownBlock_sl] at hj
    cases p' with
    | none => cases hj
    | some a => exact ⟨a, rfl, Option.some.inj hj⟩
  have hcs : Chg W (w2.setCell ⟨S, 0, none⟩ (.slice p2 (pre ++ [x]).length c2)) (fun k => k = S ∨ ∃ a, p' = some a ∧ a.block = k) :=
    (hca.mono fun k hk => .inr (hrow k hk)).trans ((Chg.set w2 ⟨S, 0, none⟩ _).mono fun k hk => .inl hk)
  have hSb : ∀ {V : World} {b : Nat} {q : Option Addr} {n c : Nat} {ys : List It}, OwR V b 37 2 itc (.slice q n c) ys → ∀ {vs}, Blk S vs RowT V → ∀ a, q = some a → a.block ≠ S := fun {V b q n c ys} hr {vs} hv a ha hh => by
    obtain ⟨cur, hk⟩ := hr.kind encI a ha
    have hv' : V.heap[S]? = _ := hv
    rw [hh, hv'] at hk
    simp only [Option.some.injEq, Obj.cells.injEq] at hk
    exact absurd hk.2.1 (by decide)
  have hb2 : Blk S [.slice p' pre.length c'] RowT w2 := h5.chg hca (fun hs => by
    obtain ⟨a, ha, hab⟩ := hrow _ hs
    exact hSb h8 h5 a ha hab)
  refine ⟨Kept.of_chg hcs (fun k hk hs => ?_), grew_lift h1 hcs (fun k hk => ?_), ⟨p2, c2, hb2.set 0 _, h6, ho2.chg (Chg.set w2 ⟨S, 0, none⟩ _) (fun a ha hs => hSb ho2 hb2 a ha hs), fun a ha hp => ?_⟩⟩
  · rcases hs with rfl | ⟨a, ha, rfl⟩
    · exact h6 hk
    · exact h9 a ha hk
  · rcases hk with rfl | ⟨a, ha, rfl⟩
    · omega
    · have := (h8.place encI a ha).1
      omega
  · rw [ownBlock_sl, ownBlock_sl, ha] at hor
    rcases hor with hor | hor
    · cases p' with
      | none => cases hor
      | some a' =>
        have hh : a.block = a'.block := Option.some.inj hor
        exact h9 a' rfl (hh ▸ hp)
    · have hh : a.block = (W.alloc (.cells #[.int .i64 x.1, .string ⟨x.2.toArray⟩] 37)).heap.size := Option.some.inj hor
      have := hbd _ hp
      rw [hh] at this
      simp at this
      omega
theorem OwR.apart' {α : Type} {k : Nat} {enc : α → List Value} (E : Enc k enc) {w : World} {base : Nat} {e e' : TypeId} {p : Option Addr} {n c : Nat} {xs : List α} (h : OwR w base e k enc (.slice p n c) xs) (he : e ≠ e') {S : Nat} {vs : List Value} (hb : Blk S vs e' w) : ¬ (Value.ownBlock (.slice p n c) = some S) := fun hs => by
  rw [ownBlock_sl] at hs
  cases p with
  | none => cases hs
  | some a =>
    obtain ⟨cur, hk⟩ := h.kind E a rfl
    have hv' : w.heap[S]? = _ := hb
    have hh : a.block = S := Option.some.inj hs
    rw [hh, hv'] at hk
    simp only [Option.some.injEq, Obj.cells.injEq] at hk
    exact he hk.2.1.symm
/-- What comes of collecting. -/
def Collected (S : List It → Prop) (w : World) (e : Ending) (w' : World) : Prop :=
  ∃ (xs : List It) (p : Option Addr) (c : Nat), e = .returned (.slice p xs.length c) ∧ S xs ∧ OwR w' w.heap.size 37 2 itc (.slice p xs.length c) xs ∧ Grew w w'
theorem Coll.fin {S : List It → Prop} {w W : World} {B : Nat} {P : Blks} {xs : List It} {p : Option Addr} {c : Nat} (h : Coll w.heap.size B w P xs W) (hb : Blk B [.slice p xs.length c] RowT W) (hS : S xs) : Collected S w (.returned (.slice p xs.length c)) W := by
  obtain ⟨h1, ⟨p', c', h5, h6, h7, h8⟩⟩ := h
  have e := (h5.cell 0).symm.trans (hb.cell 0)
  simp only [List.getElem?_cons_zero, Option.some.injEq, Value.slice.injEq, true_and] at e
  obtain ⟨rfl, rfl⟩ := e
  exact ⟨xs, p', c', rfl, hS, h7, h1⟩
set_option maxRecDepth 100000 in
set_option maxHeartbeats 4000000 in
theorem appseq_any (gf : Nat) (lb : Array Value) (eg : ∀ args w, (callFunc gf args).run Tryd.prog w = .ok (.enter gf args) w) (M : Nat) (hM : M ≤ 1000000) (P₀ : Blks) (S : List It → Prop) (w : World) (hP : ∀ k, P₀ k → k < w.heap.size)
    (hseq : ∀ W, Grew w W → Gives Tryd.prog gf lb (fun x => #[itv x]) (fun pre _ => pre.length < M) P₀ S (fun _ => True) W) :
    Calls Tryd.prog 63 #[.slice none 0 0, .func (.func gf) #[] lb] w (Collected S w) := by
  refine (callsIn_wide (n := 9)).1 ?_
  refine callsIn_of_wp_marks Tryd.func63 rfl trivial ?_ rfl
  simp only [Tryd.ntmps63, List.size_toArray, List.length_cons, List.length_nil, Nat.reduceAdd, Nat.reduceSub, Array.replicate_succ, Array.replicate_zero, List.push_toArray, List.append_toArray, List.nil_append, List.cons_append]
  have hB0 : Blk w.heap.size [.slice none 0 0] RowT (w.alloc (.cells #[.slice none 0 0] RowT)) := Blk.new w [.slice none 0 0] _
  have hG0 : Grew w (w.alloc (.cells #[.slice none 0 0] RowT)) := (Grew.refl _).alloc _
  have hz0 : w.heap.size < (w.alloc (.cells #[.slice none 0 0] RowT)).heap.size := by simp
  gi_wp2
  generalize w.alloc _ = w1 at hB0 hG0 hz0 ⊢
  have hgv := hseq w1 hG0
  refine wpIn_each (gf := gf) (lb := lb) rfl eg (encs := fun x => #[itv x]) (fun _ => rfl) (Fr := fun pre _ => pre.length < M) hgv (fun k hk => Nat.lt_of_lt_of_le (hP k hk) hG0.sz)
    (fun P xs W => Coll w.heap.size w.heap.size w P xs W ∧ xs.length ≤ M) (fun c P xs W => False)
    ((Coll.abides _ _ _ _ hG0.sz).and (fun P P' s A B h _ _ => h)) (fun c P P' s A B h hc hp => h) ⟨⟨hG0, ⟨none, 0, hB0, fun h => by have := hP _ h; omega, OwR.nil _ _ _ _ _, fun a h => (by cases h)⟩⟩, Nat.zero_le _⟩
    (fun z x a1 W => ∃ (B : Nat) (u : Value), z ≤ B ∧ a1 = { tmps := #[.slice none 0 0, .func (.func gf) #[] lb, .pointer (some ⟨w.heap.size, 0, none⟩), undef, .slice none 0 0, .pointer (some ⟨B, 0, none⟩), .func (.func gf) #[] lb, u, undef, undef, undef, undef, undef], defers := [] } ∧ Blk B (itc x) 37 W) ?assign ?put ?body ?done ?stop
  case assign =>
    intro l' m' x W' K hK
    gi_wp2
    exact hK _ _ ((Grew.refl _).alloc _) ⟨W'.heap.size, _, Nat.le_refl _, rfl, Blk.new W' (itc x) _⟩
  case put =>
    rintro z x a1 W1 r o hr ⟨B, u, h1, h2, h3⟩
    exact ⟨B, u, h1, h2, (World.putObj_heap_other (by omega)).trans h3⟩
  case body =>
    intro l' m' z P pre x a1 W' hi hfr hbd hz ⟨B, u, hB, ha1, hbx⟩
    subst ha1
    obtain ⟨hcoll, hle⟩ := hi
    obtain ⟨p, c, hbS, hnS, ho, hnp⟩ := hcoll.out
    have cS := hbS.cell 0
    have lS := hbS.lt
    have x0 := hbx.cell 0
    have x1 := hbx.cell 1
    simp only [List.getElem?_cons_zero, List.getElem?_cons_succ] at cS x0 x1
    have hga : Grew W' (W'.alloc (.cells #[.int .i64 x.1, .string ⟨x.2.toArray⟩] 37)) := (Grew.refl W').alloc _
    have HO := Lib.hid (ho.kept hga)
    have HGR := Lib.hid (hcoll.grew.trans hga).sz
    have HLT := Lib.hid (And.intro hfr (And.intro hle hM))
    have HD := Lib.hid (fun (w2 : World) (hc : Chg (W'.alloc (.cells #[.int .i64 x.1, .string ⟨x.2.toArray⟩] 37)) w2 (fun j => Value.ownBlock (.slice p pre.length c) = some j)) => (hbS.grew hga).chg hc ((ho.kept hga).apart' encI (by decide) (hbS.grew hga)))
    clear hnS hnp ho hB0 hG0 hz0 hgv hga
    have hbd2 : ∀ k, P k → k < W'.heap.size := fun k hk => Nat.lt_of_lt_of_le (hbd k hk) hz
    gi_wp2_with (gi_at_builtin; refine wpListIn_append_row encI rfl _ _ RowT rfl w.heap.size 37 (itv (0, [])) 24 Tryd.underlying31 infoD rfl _ pre rfl HO.out _ _ _ [x] rfl rfl (Rw.made encI _ [x] 1 _ _ _ rfl rfl (by decide)) (by have := HLT.out; simp; omega) (by have := HLT.out; simp; omega) HGR.out ?_; intro p2 c2 zs w2 hz2 ho2 hb2 hc2 hor; have HZ := Lib.hid hz2.out; have HM := Lib.hid (hcoll.more hbS rfl (Nat.le_refl _) hbd2 hz2.out ho2 hc2 hor); have hdS := HD.out w2 hc2; have cS := hdS.cell 0; have fS := hdS.free 0; have lS := hdS.lt; simp only [List.getElem?_cons_zero] at cS; clear ho2 hb2 hc2 hor hdS)
    refine ⟨HM.out.1, HM.out.2, ?_⟩
    have := HLT.out.1
    rw [List.length_append, List.length_singleton]
    omega
  case done =>
    intro D P xs W' hD hPD hS hi hdD
    obtain ⟨hcoll, hle⟩ := hi
    obtain ⟨p, c, hbS, hnS, ho, hnp⟩ := hcoll.out
    have cS := hbS.cell 0
    have lS := hbS.lt
    simp only [List.getElem?_cons_zero] at cS
    have HC := Lib.hid hcoll
    have HB := Lib.hid hbS
    have HNB := Lib.hid hnS
    have HS := Lib.hid hS
    have HDD := Lib.hid hdD
    have HDZ := Lib.hid hD
    have HG0 := Lib.hid hG0
    clear hcoll hbS hnS ho hnp hS hdD hB0 hG0 hz0 hgv hD
    gi_wp2
    refine leaves_marks [D] W' (by simp) (fun D' h => by rw [List.mem_singleton.1 h]; exact HDD.out) (fun w' hc => ⟨.slice p xs.length c, by simp [results, Tryd.results63, go_sem], ?_⟩)
    have hcP : Chg W' w' (fun k => P k ∧ w1.heap.size ≤ k) := hc.mono fun k hk => by
      rw [List.mem_singleton.1 hk]
      exact ⟨hPD, HDZ.out⟩
    exact (Coll.abides _ _ w1.heap.size _ HG0.out.sz P P xs W' w' HC.out hcP (fun _ _ h => h)).fin (HB.out.chg hcP (fun h => HNB.out h.1)) HS.out
  case stop =>
    intro D c P pre W' h1 h2 h3 h4
    exact h4.elim
theorem collect_any (gf : Nat) (lb : Array Value) (eg : ∀ args w, (callFunc gf args).run Tryd.prog w = .ok (.enter gf args) w) (M : Nat) (hM : M ≤ 1000000) (P₀ : Blks) (S : List It → Prop) (w : World) (hP : ∀ k, P₀ k → k < w.heap.size)
    (hseq : ∀ W, Grew w W → Gives Tryd.prog gf lb (fun x => #[itv x]) (fun pre _ => pre.length < M) P₀ S (fun _ => True) W) :
    Calls Tryd.prog 50 #[.func (.func gf) #[] lb] w (Collected S w) := by
  have HA := Lib.hid (appseq_any gf lb eg M hM P₀ S w hP hseq)
  clear hseq
  go_enter Tryd.func50, Tryd.ntmps50
  go_wp2_with (go_at_call 63; (with_reducible refine (HA.out).mono ?_); rintro e w1 ⟨xs, p, c, rfl, h1, h2, h3⟩; have HC := Lib.hid (And.intro h1 (And.intro h2 h3)); clear h1 h2 h3)
  go_ret
  exact ⟨xs, p, c, rfl, HC.out.1, HC.out.2.1, HC.out.2.2⟩
/-- A slice of diagnostics in memory of the call's own (its cells may be stored into). -/
structure Its (w : World) (N : Nat) (p : Option Addr) (c : Nat) (xs : List It) : Prop where
  rd : Rw 2 itc w p c xs
  own : 0 < xs.length → ∃ g, p = some ⟨g, 0, none⟩ ∧ N ≤ g ∧ ∀ k, k < xs.length * 2 → w.frozen? ⟨g, k, none⟩ = false
theorem Its.grew {w w' : World} {N : Nat} {p : Option Addr} {c : Nat} {xs : List It} (h : Its w N p c xs) (hg : Grew w w') : Its w' N p c xs :=
  ⟨h.rd.kept hg, fun h0 => by
    obtain ⟨g, rfl, h1, h2⟩ := h.own h0
    exact ⟨g, rfl, h1, fun k hk => (Below.frozen hg (p := ⟨g, k, none⟩) (h.rd.lt encI h0)).trans (h2 k hk)⟩⟩
theorem nbef_tra {x y z : It} (h : bef x y = false) (h' : bef y z = false) : bef x z = false := by
  rw [Bool.eq_false_iff]
  intro hxz
  rcases bef_tri x y with h1 | h1 | h1
  · rw [h] at h1
    exact Bool.noConfusion h1
  · subst h1
    rw [h'] at hxz
    exact Bool.noConfusion hxz
  · have := bef_tra h1 hxz
    rw [h'] at this
    exact Bool.noConfusion this
theorem lt_cf (x y : It) : ltOf cf x y = bef x y := cf_neg x y
theorem swo_cf : SWO (ltOf cf) where
  irrefl := fun x => by rw [lt_cf]; exact bef_irr x
  trans := fun x y z h h' => by
    rw [lt_cf] at *
    exact bef_tra h h'
  ntrans := fun x y z h h' => by
    rw [lt_cf] at *
    exact nbef_tra h h'
theorem lays_cmp (blk off size : Nat) (w : World) : CmpLays Tryd.prog 36 #[] itc 2 cf blk off size w := fun m os dk _ x y =>
  (compare_any x y (sortWorldK itc 2 w blk off m dk os)).mono fun _ _ h => h
theorem itc_one (x : It) (v : Value) (hv : v ∈ itc x) : v.oneCell' = true := by
  rcases List.mem_cons.1 hv with rfl | hv
  · rfl
  · rcases List.mem_cons.1 hv with rfl | hv
    · rfl
    · cases hv
theorem isAggD : ∀ w, (isAgg 37).run Tryd.prog w = .ok true w := fun _ => by kernel_rfl
theorem sizeOfD : ∀ w, (Go.sizeOf 37).run Tryd.prog w = .ok 2 w := fun _ => by kernel_rfl
theorem arr_get (d : Array It) (i : Nat) (h : i < d.size) : d.toList[i]? = some d[i]! := by
  rw [getElem!_pos d i h]
  simp [h]
theorem holds_of {w : World} {g c : Nat} {d : Array It} (h : Rw 2 itc w (some ⟨g, 0, none⟩) c d.toList) (hf : ∀ k, w.frozen? ⟨g, k, none⟩ = false) : HoldsK itc 2 w g 0 d := fun t ht => by
  rw [size_flatK] at ht
  refine ⟨?_, hf _⟩
  have hj : t / 2 < d.size := by omega
  rw [get_flatK _ _ _ _ ht]
  have h0 := h.cell (arr_get d (t / 2) hj) (j := 0) rfl
  have h1 := h.cell (arr_get d (t / 2) hj) (j := 1) rfl
  rcases Nat.mod_two_eq_zero_or_one t with e | e
  · rw [e]
    rw [show 0 + t / 2 * 2 + 0 = 0 + t by omega] at h0
    exact h0
  · rw [e]
    rw [show 0 + t / 2 * 2 + 1 = 0 + t by omega] at h1
    exact h1
theorem rd_of {w : World} {g c : Nat} {d : Array It} (h : HoldsK itc 2 w g 0 d) (hc : d.size ≤ c) (hm : c ≤ 9223372036854775807) : Rw 2 itc w (some ⟨g, 0, none⟩) c d.toList ∧ ∀ k, k < d.size * 2 → w.frozen? ⟨g, k, none⟩ = false := by
  refine ⟨⟨⟨by simpa using hc, hm, fun _ => ⟨g, 0, rfl, fun i x hi j v hv => ?_⟩⟩, fun h => (by cases h)⟩, fun k hk => ?_⟩
  · have hil : i < d.size := by have := (List.getElem?_eq_some_iff.1 hi).1; simpa using this
    rw [arr_get d i hil] at hi
    obtain rfl := Option.some.inj hi
    match j, hv with
    | 0, hv =>
      obtain rfl := Option.some.inj hv
      exact (h.cell (i := i) (c := 0) hil (by omega)).1
    | 1, hv =>
      obtain rfl := Option.some.inj hv
      exact (h.cell (i := i) (c := 1) hil (by omega)).1
  · have := (h k (by rw [size_flatK]; exact hk)).2
    rwa [Nat.zero_add] at this
theorem below_sort {w : World} {N g m : Nat} {d : Array It} {os : Array Obj} (hg : N ≤ g) (hw : N ≤ w.heap.size) : Below N w (sortWorldK itc 2 w g 0 m d os) := by
  refine ⟨rfl, rfl, rfl, ?_, fun k hk => ?_⟩
  · exact size_sortWorldK_c itc 2 w g 0 m d os
  · have e : (sortWorldK itc 2 w g 0 m d os).heap[k]? = (w.heap.modify g (onCells (putCells id 0 (flatK itc 2 d))) ++ os)[k]? := rfl
    rw [e, Array.getElem?_append_left (by simp; omega), Array.getElem?_modify, if_neg (by omega)]
theorem sort_any (p : Option Addr) (n c N : Nat) (K l : List It) (w : World) (hl : K.length = n) (hn : n ≤ 1000000) (h : OwR w N 37 2 itc (.slice p n c) K) (hN : N ≤ w.heap.size) (hnd : K.Nodup) (hm : ∀ z, z ∈ K ↔ z ∈ l) :
    Calls Tryd.prog 51 #[.slice p n c, .func (.func 36) #[] #[]] w fun e w' => e = .returned (.tuple #[]) ∧ Its w' N p c (setL l) ∧ (setL l).length = n ∧ Below N w w' := by
  subst hl
  have hsort : K.mergeSort (fun x y => !(ltOf cf) y x) = setL l := by
    have e : (fun x y => !(ltOf cf) y x) = fun x y : It => !bef y x := by
      funext x y
      rw [lt_cf]
    rw [e]
    exact sort_set hnd hm
  have hlen : (setL l).length = K.length := by rw [← hsort]; exact List.length_mergeSort K
  obtain ⟨_, hrd⟩ := h.rd encI
  rcases Nat.eq_zero_or_pos K.length with h0 | h0
  · have hK : K = [] := List.eq_nil_of_length_eq_zero h0
    have hs : setL l = [] := List.eq_nil_of_length_eq_zero (by omega)
    rw [h0]
    refine (Tryd.slices_SortFunc_none (α := It) p c _ w).mono ?_
    rintro e w' ⟨rfl, rfl⟩
    rw [hK] at hrd
    exact ⟨rfl, by rw [hs]; exact ⟨hrd, fun h => absurd h (Nat.lt_irrefl 0)⟩, by rw [hs]; rfl, Below.refl _ _⟩
  · obtain ⟨g, rfl, hg1, hg2⟩ := h.at h0
    have hsz : K.toArray.size = K.length := by simp
    have hH := holds_of (d := K.toArray) (by simpa using hrd) (fun k => (h.free encI k).2)
    have hc := Tryd.slices_SortFunc_total 2 isAggD sizeOfD itc (fun _ => rfl) itc_one cf swo_cf 36 #[] g 0 c K.toArray w (fun args w => enters_compare args w) (lays_cmp g 0 K.toArray.size w) hH hg2 (by rw [hsz]; omega) (fun x y hx hy => by
      rw [lt_cf] at hx hy
      rcases bef_tri x y with h1 | h1 | h1
      · rw [hx] at h1; exact Bool.noConfusion h1
      · exact h1
      · rw [hy] at h1; exact Bool.noConfusion h1)
    rw [hsz] at hc
    refine Calls.mono hc ?_
    rintro e w' ⟨rfl, m, os, rfl⟩
    have e1 : K.toArray.toList = K := by simp
    rw [e1, hsort]
    have hs2 : (setL l).toArray.size = K.length := by simp [hlen]
    obtain ⟨r1, r2⟩ := rd_of (c := c) (holdsK_sortWorldK_c itc 2 w g 0 K.toArray (setL l).toArray m os hH hg2 (by rw [hs2, hsz])) (by rw [hs2]; exact hrd.cap) hrd.max
    have e2 : (setL l).toArray.toList = setL l := by simp
    rw [e2] at r1
    exact ⟨rfl, ⟨r1, fun _ => ⟨g, rfl, hg1, fun k hk => r2 k (by rw [hs2]; omega)⟩⟩, hlen, below_sort hg1 hN⟩
/-- What comes of sorting. -/
def SortedL (l : List It) (w : World) (e : Ending) (w' : World) : Prop :=
  ∃ (p : Option Addr) (c : Nat), e = .returned (.slice p (setL l).length c) ∧ Its w' w.heap.size p c (setL l) ∧ Grew w w'
theorem sorted_any (gf : Nat) (lb : Array Value) (eg : ∀ args w, (callFunc gf args).run Tryd.prog w = .ok (.enter gf args) w) (M : Nat) (hM : M ≤ 1000000) (P₀ : Blks) (L : List It) (hLM : L.length ≤ M) (w : World) (hP : ∀ k, P₀ k → k < w.heap.size)
    (hseq : ∀ W, Grew w W → Gives Tryd.prog gf lb (fun x => #[itv x]) (fun pre _ => pre.length < M) P₀ (fun xs => (xs.Nodup ∧ ∀ x, x ∈ xs ↔ x ∈ L) ) (fun _ => True) W) (hnd : L.Nodup) :
    Calls Tryd.prog 34 #[.func (.func gf) #[] lb, .func (.func 36) #[] #[]] w (SortedL L w) := by
  have HA := Lib.hid (collect_any gf lb eg M hM P₀ _ w hP hseq)
  have HSO := Lib.hid (fun (p : Option Addr) (n c : Nat) (K : List It) (W : World) h1 h2 h3 h4 h5 h6 => sort_any p n c w.heap.size K L W h1 h2 h3 h4 h5 h6)
  have HML := Lib.hid (Nat.le_trans hLM hM)
  have HND := Lib.hid hnd
  clear hseq hnd
  go_enter Tryd.func34, Tryd.ntmps34
  go_wp2_with (go_at_call 50; (with_reducible refine (HA.out).mono ?_); rintro e w1 ⟨K, p, c, rfl, hK, hO, hg⟩; have hKl : K.length ≤ 1000000 := (by
      have h1 : K.length ≤ L.length := (List.perm_ext_iff_of_nodup hK.1 HND.out).2 hK.2 |>.length_eq |> Nat.le_of_eq
      exact Nat.le_trans h1 HML.out); have HC := Lib.hid (And.intro hK (And.intro hO hg)); have HKL := Lib.hid hKl; clear hK hO hg hKl)
  go_wp2_with (go_at_call 51; (with_reducible refine (HSO.out p K.length c K _ rfl HKL.out HC.out.2.1 HC.out.2.2.sz HC.out.1.1 HC.out.1.2).mono ?_); rintro e w2 ⟨rfl, hI, hlen, hb⟩; have HI := Lib.hid hI; have HL := Lib.hid hlen; have HB : Hid (Grew w w2) := Lib.hid (Below.trans HC.out.2.2 hb); clear hI hlen hb)
  go_ret
  exact ⟨p, c, by rw [HL.out]; rfl, HI.out, HB.out⟩
theorem all_any (q : Nat) (mo : Option Nat) (L : List It) (w : World) (h : Ls q mo L w) (hl : L.length ≤ 1000000) :
    Calls Tryd.prog 23 #[PtrTo q] w (SortedL L w) := by
  have c0 : w.cell? ⟨q, 0, none⟩ = some (.map mo) := h.1.cell 0
  have hg1 : Grew w (w.alloc (.cells #[.map mo] MapT)) := (Grew.refl _).alloc _
  have hz : w.heap.size < (w.alloc (.cells #[.map mo] MapT)).heap.size := by simp
  have HS := Lib.hid (sorted_any 52 #[.pointer (some ⟨w.heap.size, 0, none⟩)] (enters_of Tryd.func52 (by kernel_rfl) rfl) L.length hl (fun k => k = w.heap.size ∨ mo = some k) L (Nat.le_refl _) (w.alloc (.cells #[.map mo] MapT)) (fun k hk => by
    rcases hk with rfl | hk
    · exact hz
    · exact Nat.lt_trans (h.2.2 k hk).lt hz) (fun W hg => keys_gives w.heap.size mo L W ((Blk.new w [.map mo] _).grew hg) h.2.1 (fun b e => ((h.2.2 b e).grew hg1).grew hg)) h.nodup)
  have HK := Lib.hid (keys_any mo w)
  have HG := Lib.hid hg1
  clear hg1 hz h
  go_enter Tryd.func23, Tryd.ntmps23
  go_wp2_with (first
    | (go_at_call 35; (with_reducible refine (HK.out).mono ?_); rintro e w1 ⟨rfl, rfl⟩)
    | (go_at_call 34; (with_reducible refine (HS.out).mono ?_); rintro e w2 ⟨p, c, rfl, hI, hg⟩; have HI := Lib.hid hI; have HG2 := Lib.hid (HG.out.trans hg); clear hI hg))
  go_ret
  exact ⟨p, c, rfl, ⟨HI.out.rd, fun h0 => by
    obtain ⟨g, h1, h2, h3⟩ := HI.out.own h0
    exact ⟨g, h1, Nat.le_trans HG.out.sz h2, h3⟩⟩, HG2.out⟩
end Go.Proofs.YtmnncildkomagaaDoor
