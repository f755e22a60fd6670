/-
  CONTRACTS OF LAYER 13 (powertrace): first.
-/
import Derived.Test.YtapgpdgbdmnkgaaDoorPtAll
import Derived.Test.YtapgpdgbdmnkgaaDoorRowIn
import Derived.RangeFuncCalls
import Derived.RangeFuncBound
import Derived.Shelf.Abstract
import Derived.Shelf.AbstractIn
import Derived.OwnWalkIn
import Derived.TacticsInMore
import Derived.LoopIn
namespace Go.Proofs.YtapgpdgbdmnkgaaDoor
open Go Go.RowKit Go.IntWalk Go.Shelf
open Go.Lib (itoa)
set_option linter.unusedSimpArgs false
set_option linter.unusedVariables false
set_option maxRecDepth 8000

attribute [local go_sem] Oper.semAt_some
abbrev svc (x : Sl) : List Value := [x.v]
theorem encS : Enc 1 svc := ⟨fun _ => rfl, fun x u hu => by simp at hu; subst hu; rfl, by decide⟩
theorem infoS : (Tryd.prog.info? 22).map (fun i => (i.zero, i.size, i.bytes)) = some (some (.slice none 0 0), 1, 24) := by kernel_rfl
/-- Schedules in memory beyond N: a slice of slices and what they hold. -/
def Lot (N : Nat) (w : World) (p : Option Addr) (c : Nat) (xs : List Sl) : Prop := OwR w N 22 1 svc (.slice p xs.length c) xs ∧ ∀ x ∈ xs, OwR w N 52 2 itc x.v x.xs
/-- What 'first' collects, between two rounds. -/
structure Coll (N S7 S10 : Nat) (w0 : World) (lim : Int) (P : Blks) (xs : List Sl) (W : World) : Prop where
  grew : Grew w0 W
  blks : ∀ k, P k → w0.heap.size ≤ k
  lim' : Blk S7 [.int .i64 lim] 3 W ∧ ¬ P S7
  out : ∃ p c, Blk S10 [.slice p xs.length c] 54 W ∧ ¬ P S10 ∧ OwR W N 22 1 svc (.slice p xs.length c) xs ∧ ∀ a, p = some a → ¬ P a.block
  each : ∀ x ∈ xs, OwR W N 52 2 itc x.v x.xs ∧ ∀ a, x.p = some a → ¬ P a.block
theorem Coll.abides (N S7 S10 : Nat) (w0 : World) (lim : Int) : Abides (Coll N S7 S10 w0 lim) := fun P P' xs A B h hc hp => by
  obtain ⟨h1, h2, ⟨h3, h4⟩, ⟨p, c, h5, h6, h7, h8⟩, h9⟩ := h
  refine ⟨grew_lift h1 hc h2, fun k hk => ?_, ⟨h3.chg hc h4, fun h => h4 (hp _ h3.lt h)⟩, ⟨p, c, h5.chg hc h6, fun h => h6 (hp _ h5.lt h), h7.chg hc h8, fun a ha h => h8 a ha (hp _ (h7.place encS a ha).2 h)⟩, fun x hx => ⟨(h9 x hx).1.chg hc (h9 x hx).2, fun a ha h => (h9 x hx).2 a ha (hp _ ((h9 x hx).1.place encI a ha).2 h)⟩⟩
  rcases Nat.lt_or_ge k A.heap.size with hk' | hk'
  · exact h2 k (hp k hk' hk)
  · exact Nat.le_trans h1.sz hk'
/-- The number of lengths that occur. -/
def lens (f m d : Int) : Nat := if okP (m, d) = true then (f + 1).toNat else 0
theorem all_gives (B0 B1 B2 : Nat) (f m d : Int) (w : World) (h0 : Blk B0 [.int .i64 f] 3 w) (h1 : Blk B1 [.int .i64 m] 3 w) (h2 : Blk B2 [.int .i64 d] 2 w) (hf : f ≤ 1000) :
    Gives Tryd.prog 50 #[.pointer (some ⟨B1, 0, none⟩), .pointer (some ⟨B2, 0, none⟩), .pointer (some ⟨B0, 0, none⟩)] slEnc (Fresh w.heap.size) (fun k => k = B1 ∨ k = B2 ∨ k = B0) (fun xs => xs.length = geo m.toNat (lens f m d) ∧ OrdA m.toNat d xs) (fun xs => xs.length ≤ geo m.toNat (lens f m d) ∧ OrdA m.toNat d xs) w := by
  cases hok : okP (m, d) with
  | false =>
    have hl : lens f m d = 0 := by unfold lens; rw [hok]; rfl
    have hb := all1_bad B1 B2 B0 m f d w h1 h2 h0 hok
    intro n l J Jx W hg hJ hJx hY hj
    refine (hb n l J Jx W hg hJ hJx hY hj).mono ?_
    rintro e W' ⟨hv, (⟨xs, P1, rfl, hx⟩ | ⟨_, _, hx, _⟩)⟩
    · exact ⟨hv, .inl ⟨[], P1, ⟨by rw [hl]; rfl, OrdA.nil _ _⟩, hx⟩⟩
    · exact hx.elim
  | true =>
    have hm := (okP_bd hok).1
    obtain ⟨m, rfl⟩ : ∃ u : Nat, m = u := ⟨m.toNat, by simp only at hm; omega⟩
    have hl : lens f m d = (f + 1).toNat := by unfold lens; rw [hok]; rfl
    rw [hl, Int.toNat_natCast]
    exact all1_ok B1 B2 B0 m f d _ w h1 h2 h0 hok rfl hf
/-- What 'first' gives. -/
def Firsts (f m d : Int) (lim : Nat) (w : World) (e : Ending) (w' : World) : Prop := ∃ (xs : List Sl) (p : Option Addr) (c : Nat), e = .returned (.tuple #[.slice p xs.length c, .bool true]) ∧ Lot w.heap.size w' p c xs ∧ OrdA m.toNat d xs ∧ xs.length = min lim (geo m.toNat (lens f m d)) ∧ Grew w w'
theorem Coll.firsts {f m d : Int} {lim : Nat} {w W : World} {S7 S10 : Nat} {P : Blks} {xs : List Sl} {p : Option Addr} {c : Nat} (h : Coll w.heap.size S7 S10 w lim P xs W) (hb : Blk S10 [.slice p xs.length c] 54 W) (ho : OrdA m.toNat d xs) (hl : xs.length = min lim (geo m.toNat (lens f m d))) : Firsts f m d lim w (.returned (.tuple #[.slice p xs.length c, .bool true])) W := by
  obtain ⟨p', c', h5, h6, h7, h8⟩ := h.out
  have e := (h5.cell 0).symm.trans (hb.cell 0)
  simp only [List.getElem?_cons_zero, Option.some.injEq, Value.slice.injEq, true_and] at e
  obtain ⟨rfl, rfl⟩ := e
  exact ⟨xs, p', c', rfl, ⟨h7, fun x hx => (h.each x hx).1⟩, ho, hl, h.grew⟩
/-- Rows of different types lie in different blocks. -/
theorem OwR.off {α β : Type} {k j : Nat} {enc : α → List Value} {enc' : β → List Value} (E : Enc k enc) (E' : Enc j enc') {w : World} {b b' : Nat} {e e' : TypeId} {p p' : Option Addr} {n c n' c' : Nat} {xs : List α} {ys : List β} (h : OwR w b e k enc (.slice p n c) xs) (h' : OwR w b' e' j enc' (.slice p' n' c') ys) (he : e ≠ e') {a a' : Addr} (ha : p = some a) (ha' : p' = some a') : a.block ≠ a'.block := fun hh => by
  obtain ⟨cur, h1⟩ := h.kind E a ha
  obtain ⟨cur', h2⟩ := h'.kind E' a' ha'
  rw [hh, h2] at h1
  simp only [Option.some.injEq, Obj.cells.injEq] at h1
  exact he h1.2.1.symm
/-- One more is collected. -/
theorem Coll.more {N S7 S10 : Nat} {w0 : World} {lim : Int} {P : Blks} {pre : List Sl} {x : Sl} {W w2 : World} {p p2 : Option Addr} {c c2 : Nat} {zs : List Sl} {B : Nat} (h : Coll N S7 S10 w0 lim P pre W) (hb : Blk S10 [.slice p pre.length c] 54 W) (hN : N = w0.heap.size) (h10 : N ≤ S10) (h7 : S7 ≠ S10) (hfr : Fresh B P x W) (hB : N ≤ B) (hbd : ∀ k, P k → k < W.heap.size) (hz : zs = pre ++ [x])
    (ho2 : OwR w2 N 22 1 svc (.slice p2 zs.length c2) zs) (hc2 : Chg (W.alloc (.cells #[x.v] 22)) w2 (fun j => Value.ownBlock (.slice p pre.length c) = some j)) (hor : Value.ownBlock (.slice p2 zs.length c2) = Value.ownBlock (.slice p pre.length c) ∨ Value.ownBlock (.slice p2 zs.length c2) = some (W.alloc (.cells #[x.v] 22)).heap.size) :
    Kept P W (w2.setCell ⟨S10, 0, none⟩ (.slice p2 zs.length c2)) ∧ Coll N S7 S10 w0 lim P (pre ++ [x]) (w2.setCell ⟨S10, 0, none⟩ (.slice p2 zs.length c2)) := by
  subst hz
  obtain ⟨h1, h2, ⟨h3, h4⟩, ⟨p', c', h5, h6, h8, h9⟩, h11⟩ := h
  have e := (h5.cell 0).symm.trans (hb.cell 0)
  simp only [List.getElem?_cons_zero, Option.some.injEq, Value.slice.injEq, true_and] at e
  obtain ⟨rfl, rfl⟩ := e
  have hga : Grew W (W.alloc (.cells #[x.v] 22)) := (Grew.refl _).alloc _
  have hca : Chg W w2 (fun j => Value.ownBlock (.slice p' pre.length c') = some j) := (Chg.of_grew hga _).trans hc2
  have hrow : ∀ j, Value.ownBlock (.slice p' pre.length c') = some j → ∃ a, p' = some a ∧ a.block = j := fun j hj => by
    rw [ownBlock_sl] at hj
    cases p' with
    | none => cases hj
    | some a => exact ⟨a, rfl, Option.some.inj hj⟩
  have hcs : Chg W (w2.setCell ⟨S10, 0, none⟩ (.slice p2 (pre ++ [x]).length c2)) (fun k => k = S10 ∨ ∃ a, p' = some a ∧ a.block = k) :=
    (hca.mono fun k hk => .inr (hrow k hk)).trans ((Chg.set w2 ⟨S10, 0, none⟩ _).mono fun k hk => .inl hk)
  have hS10 : ∀ {α : Type} {k : Nat} {enc : α → List Value} (E : Enc k enc) {V : World} {b : Nat} {e : TypeId} {q : Option Addr} {n c : Nat} {ys : List α}, OwR V b e k enc (.slice q n c) ys → e ≠ 54 → ∀ {vs}, Blk S10 vs 54 V → ∀ a, q = some a → a.block ≠ S10 := fun {_ _ _} E {V b e q n c ys} hr he {vs} hv a ha hh => by
    obtain ⟨cur, hk⟩ := hr.kind E a ha
    have hv' : V.heap[S10]? = _ := hv
    rw [hh, hv'] at hk
    simp only [Option.some.injEq, Obj.cells.injEq] at hk
    exact he hk.2.1.symm
  have hb2 : Blk S10 [.slice p' pre.length c'] 54 w2 := h5.chg hca (fun hs => by
    obtain ⟨a, ha, hab⟩ := hrow _ hs
    exact hS10 encS h8 (by decide) h5 a ha hab)
  have hel : ∀ y : Sl, ∀ b, OwR W b 52 2 itc y.v y.xs → OwR (w2.setCell ⟨S10, 0, none⟩ (.slice p2 (pre ++ [x]).length c2)) b 52 2 itc y.v y.xs := fun y b hy => hy.chg hcs (fun a ha hs => by
    rcases hs with hs | ⟨a', ha', hs⟩
    · exact hS10 encI hy (by decide) h5 a ha hs
    · exact (hy.off encI encS h8 (by decide) ha ha') hs.symm)
  refine ⟨Kept.of_chg hcs (fun k hk hs => ?_), grew_lift h1 hcs (fun k hk => ?_), h2, ⟨h3.chg hcs (fun hs => ?_), h4⟩, ⟨p2, c2, hb2.set 0 _, h6, ho2.chg (Chg.set w2 ⟨S10, 0, none⟩ _) (fun a ha hs => hS10 encS ho2 (by decide) hb2 a ha hs), fun a ha hp => ?_⟩, fun y hy => ?_⟩
  · rcases hs with rfl | ⟨a, ha, rfl⟩
    · exact h6 hk
    · exact h9 a ha hk
  · rcases hk with rfl | ⟨a, ha, rfl⟩
    · omega
    · have := (h8.place encS a ha).1
      omega
  · rcases hs with hs | ⟨a, ha, hs⟩
    · exact h7 hs
    · obtain ⟨cur, hk⟩ := h8.kind encS a ha
      have h3' : W.heap[S7]? = _ := h3
      rw [hs, h3'] at hk
      simp only [Option.some.injEq, Obj.cells.injEq] at hk
      exact absurd hk.2.1 (by decide)
  · rw [ownBlock_sl, ownBlock_sl, ha] at hor
    rcases hor with hor | hor
    · cases p' with
      | none => cases hor
      | some a' =>
        have hh : a.block = a'.block := Option.some.inj hor
        exact h9 a' rfl (hh ▸ hp)
    · have hh : a.block = (W.alloc (.cells #[x.v] 22)).heap.size := Option.some.inj hor
      have := hbd _ hp
      rw [hh] at this
      simp at this
      omega
  · rcases List.mem_append.1 hy with hy | hy
    · exact ⟨hel y _ (h11 y hy).1, (h11 y hy).2⟩
    · rw [List.mem_singleton.1 hy]
      exact ⟨(hel x _ hfr.1).down hB, hfr.2⟩
theorem run_equalIn_func_nil {P : Program} (w : World) (d : Nat) (t : TypeId) (f : Fn) (bs lb : Array Value) (ps rs : Array TypeId) (vr : Bool) (h : P.underlying t = some (.func ps rs vr)) : (Op.equalIn (d + 1) t (.func f bs lb) .nilFunc).run P w = .ok false w := by
  simp [Op.equalIn, run_underlying h]
theorem nil_func (g : Nat) (lb : Array Value) (W : World) : (binOp .eql 75 (.func (.func g) #[] lb) .nilFunc).run Tryd.prog W = .ok (.bool false) W := by
  simp only [binOp]
  simp [Op.equal, Op.maxDepth, run_equalIn_func_nil W 9999 _ (.func g) #[] lb _ _ _ Tryd.underlying75]
set_option maxRecDepth 100000 in
set_option maxHeartbeats 4000000 in
theorem first_any (f m d : Int) (lim : Nat) (hf : f ≤ 1000) (hl : 1 ≤ lim ∧ lim ≤ 1000) (w : World) : Calls Tryd.prog 29 #[.int .i64 f, .int .i64 m, .int .i64 d, .int .i64 (lim : Int)] w (Firsts f m d lim w) := by
  refine (callsIn_wide (n := 9)).1 ?_
  have HA := Lib.hid (fun W => all_any f m d W)
  have hq := nil_func
  refine callsIn_of_wp_marks Tryd.func29 rfl trivial ?_ rfl
  simp only [Tryd.ntmps29, List.size_toArray, List.length_cons, List.length_nil, Nat.reduceAdd, Nat.reduceSub, Array.replicate_succ, Array.replicate_zero, List.push_toArray, List.append_toArray, List.nil_append, List.cons_append]
  gi_wp2_with (refine ⟨trivial, ?_⟩; gi_at_call 43; generalize hV : World.alloc _ _ = V; have hg : Grew w V := (by subst hV; exact ((Grew.refl _).alloc _).alloc _); have hb7 : Blk w.heap.size [.int .i64 (lim : Int)] 3 V := (by subst hV; exact (Blk.new w [.int .i64 (lim : Int)] 3).grew ((Grew.refl _).alloc _)); have hb10 : Blk (w.heap.size + 1) [.slice none 0 0] 54 V := (by subst hV; simpa using Blk.new (w.alloc (.cells #[.int .i64 (lim : Int)] 3)) [.slice none 0 0] 54); clear hV; refine (callsIn_wide.2 (HA.out _)).mono ?_; rintro e w1 ⟨B0, B1, B2, rfl, hbs, s0, s1, s2, g1⟩; have HB3 := Lib.hid hbs; have HSZ := Lib.hid (And.intro s0 (And.intro s1 s2)); have HG1 := Lib.hid (hg.trans g1); have HVS := Lib.hid (And.intro hb10.lt hb7.lt); have HB7 := Lib.hid (hb7.grew g1); have HB10 := Lib.hid (hb10.grew g1); clear hbs s0 s1 s2 g1 hg hb7 hb10)
  have hsz := HSZ.out
  have hvs := HVS.out
  refine wpIn_each (gf := 50) (lb := #[.pointer (some ⟨B1, 0, none⟩), .pointer (some ⟨B2, 0, none⟩), .pointer (some ⟨B0, 0, none⟩)]) rfl (enters_of Tryd.func50 (by kernel_rfl) rfl) (encs := slEnc) (fun _ => rfl) (Fr := Fresh w1.heap.size) (fun P1 x W L D r d o h1 h2 h3 => h1.put h2 h3) (all_gives B0 B1 B2 f m d w1 HB3.out.1 HB3.out.2.1 HB3.out.2.2 hf) (fun k hk => ?_)
    (fun P xs W => Coll w.heap.size w.heap.size (w.heap.size + 1) w lim P xs W ∧ xs.length < lim) (fun c P xs W => c = .exit 0 ∧ Coll w.heap.size w.heap.size (w.heap.size + 1) w lim P xs W ∧ xs.length = lim)
    ((Coll.abides _ _ _ _ _).and (fun P P' s A B h _ _ => h)) (fun c P P' s A B h hc hp => ⟨h.1, Coll.abides _ _ _ _ _ P P' s A B h.2.1 hc hp, h.2.2⟩) ⟨⟨HG1.out, fun k hk => ?_, ⟨HB7.out, fun h => ?_⟩, ⟨none, 0, HB10.out, fun h => ?_, OwR.nil _ _ _ _ _, fun a h => (by cases h)⟩, fun x hx => (by cases hx)⟩, by simp; omega⟩ (fun x => { tmps := #[.int .i64 f, .int .i64 m, .int .i64 d, .int .i64 (lim : Int), undef, undef, undef, .pointer (some ⟨w.heap.size, 0, none⟩), .slice none 0 0, .bool false, .pointer (some ⟨w.heap.size + 1, 0, none⟩), .func (.func 50) #[] #[.pointer (some ⟨B1, 0, none⟩), .pointer (some ⟨B2, 0, none⟩), .pointer (some ⟨B0, 0, none⟩)], x.v, .int .i64 f, .int .i64 m, .int .i64 d, .func (.func 50) #[] #[.pointer (some ⟨B1, 0, none⟩), .pointer (some ⟨B2, 0, none⟩), .pointer (some ⟨B0, 0, none⟩)], .func (.func 50) #[] #[.pointer (some ⟨B1, 0, none⟩), .pointer (some ⟨B2, 0, none⟩), .pointer (some ⟨B0, 0, none⟩)], .bool false, .func (.func 50) #[] #[.pointer (some ⟨B1, 0, none⟩), .pointer (some ⟨B2, 0, none⟩), .pointer (some ⟨B0, 0, none⟩)], x.v, undef, undef, undef, undef, undef, undef, undef, undef, undef], defers := [] }) ?assign ?body ?done ?stop
  · have h1 := HB3.out.1.lt; have h2 := HB3.out.2.1.lt; have h3 := HB3.out.2.2.lt
    rcases hk with rfl | rfl | rfl <;> omega
  · rcases hk with rfl | rfl | rfl <;> omega
  · rcases h with h | h | h <;> omega
  · rcases h with h | h | h <;> omega
  case assign =>
    intro l' m' x W' K hK
    gi_wp2
    exact hK
  case body =>
    intro l' m' P pre x W' hi hfr hbd
    obtain ⟨hcoll, hlt⟩ := hi
    obtain ⟨p, c, hb10, hn10, ho, hnp⟩ := hcoll.out
    have hb7 := hcoll.lim'.1
    have c10 := hb10.cell 0
    have l10 := hb10.lt
    have c7 := hb7.cell 0
    have l7 := hb7.lt
    simp only [List.getElem?_cons_zero] at c10 c7
    have HO := Lib.hid ho
    have HGR := Lib.hid hcoll.grew
    have HLT := Lib.hid (And.intro hlt hl.2)
    have HB1 := Lib.hid HG1.out.sz
    have HD10 := Lib.hid (fun (w2 : World) (hc : Chg (W'.alloc (.cells #[x.v] 22)) w2 (fun j => Value.ownBlock (.slice p pre.length c) = some j)) => (hb10.grew ((Grew.refl W').alloc (.cells #[x.v] 22))).chg hc ((ho.kept ((Grew.refl W').alloc (.cells #[x.v] 22))).apart (by decide) (hb10.grew ((Grew.refl W').alloc _))))
    have HD7 := Lib.hid (fun (w2 : World) (hc : Chg (W'.alloc (.cells #[x.v] 22)) w2 (fun j => Value.ownBlock (.slice p pre.length c) = some j)) => (hb7.grew ((Grew.refl W').alloc (.cells #[x.v] 22))).chg hc ((ho.kept ((Grew.refl W').alloc (.cells #[x.v] 22))).apart (by decide) (hb7.grew ((Grew.refl W').alloc _))))
    clear hsz hvs hn10 hnp ho
    by_cases hend : pre.length + 1 = lim
    · gi_wp2_with (gi_at_builtin; refine wpListIn_append_row encS rfl _ _ 54 rfl w.heap.size 22 (.slice none 0 0) 24 Tryd.underlying54 infoS rfl _ pre rfl (HO.out.kept ((Grew.refl _).alloc _)) _ _ _ [x] rfl rfl (Rw.made encS _ [x] 1 _ _ _ rfl rfl (by decide)) (by have := HLT.out; simp; omega) (by have := HLT.out; simp; omega) (by have := HGR.out.sz; simp; omega) ?_; intro p2 c2 zs w2 hz2 ho2 hb2 hc2 hor; have HZ := Lib.hid hz2.out; have HM := Lib.hid (hcoll.more hb10 rfl (Nat.le_succ _) (by omega) hfr HB1.out hbd hz2.out ho2 hc2 hor); have hd10 := HD10.out w2 hc2; have c10 := hd10.cell 0; have f10 := hd10.free 0; have l10 := hd10.lt; have hd7 := HD7.out w2 hc2; have c7 := hd7.cell 0; have l7 := hd7.lt; simp only [List.getElem?_cons_zero] at c10 c7; have hcmp : (lim : Int) ≤ (zs.length : Int) := (by rw [hz2.out]; simp; omega); clear ho2 hb2 hc2 hor hd10 hd7)
      refine ⟨HM.out.1, rfl, HM.out.2, by simp; omega⟩
    · gi_wp2_with (gi_at_builtin; refine wpListIn_append_row encS rfl _ _ 54 rfl w.heap.size 22 (.slice none 0 0) 24 Tryd.underlying54 infoS rfl _ pre rfl (HO.out.kept ((Grew.refl _).alloc _)) _ _ _ [x] rfl rfl (Rw.made encS _ [x] 1 _ _ _ rfl rfl (by decide)) (by have := HLT.out; simp; omega) (by have := HLT.out; simp; omega) (by have := HGR.out.sz; simp; omega) ?_; intro p2 c2 zs w2 hz2 ho2 hb2 hc2 hor; have HZ := Lib.hid hz2.out; have HM := Lib.hid (hcoll.more hb10 rfl (Nat.le_succ _) (by omega) hfr HB1.out hbd hz2.out ho2 hc2 hor); have hd10 := HD10.out w2 hc2; have c10 := hd10.cell 0; have f10 := hd10.free 0; have l10 := hd10.lt; have hd7 := HD7.out w2 hc2; have c7 := hd7.cell 0; have l7 := hd7.lt; simp only [List.getElem?_cons_zero] at c10 c7; have hcmp : ¬ (lim : Int) ≤ (zs.length : Int) := (by rw [hz2.out]; simp; omega); clear ho2 hb2 hc2 hor hd10 hd7)
      refine ⟨HM.out.1, HM.out.2, by simp; omega⟩
  case done =>
    intro D P xs W' hD hPD hS hi hdD
    obtain ⟨hcoll, hlt⟩ := hi
    obtain ⟨p, c, hb10, hn10, ho, hnp⟩ := hcoll.out
    have c10 := hb10.cell 0
    have l10 := hb10.lt
    simp only [List.getElem?_cons_zero] at c10
    have HC := Lib.hid hcoll
    have HB := Lib.hid hb10
    have HNB := Lib.hid hn10
    have HS := Lib.hid hS
    have HDD := Lib.hid hdD
    have HLT := Lib.hid hlt
    clear hsz hvs hcoll hb10 hn10 ho hnp hS hdD hlt
    gi_wp2
    refine leaves_marks [D] W' (by simp) (fun D' h => by rw [List.mem_singleton.1 h]; exact HDD.out) (fun w' hc => ⟨.tuple #[.slice p xs.length c, .bool true], by simp [results, Tryd.results29, go_sem], ?_⟩)
    have hcP : Chg W' w' P := hc.mono fun k hk => by rw [List.mem_singleton.1 hk]; exact hPD
    exact (Coll.abides _ _ _ _ _ P P xs W' w' HC.out hcP (fun _ _ h => h)).firsts (HB.out.chg hcP HNB.out) HS.out.2 (by have := HLT.out; have := HS.out.1; omega)
  case stop =>
    intro D cc P xs W' hD hPD hS hi hdD
    obtain ⟨rfl, hcoll, hlt⟩ := hi
    obtain ⟨p, c, hb10, hn10, ho, hnp⟩ := hcoll.out
    have c10 := hb10.cell 0
    have l10 := hb10.lt
    simp only [List.getElem?_cons_zero] at c10
    have HC := Lib.hid hcoll
    have HB := Lib.hid hb10
    have HNB := Lib.hid hn10
    have HS := Lib.hid hS
    have HDD := Lib.hid hdD
    have HLT := Lib.hid hlt
    clear hsz hvs hcoll hb10 hn10 ho hnp hS hdD hlt
    gi_wp2
    refine leaves_marks [D] W' (by simp) (fun D' h => by rw [List.mem_singleton.1 h]; exact HDD.out) (fun w' hc => ⟨.tuple #[.slice p xs.length c, .bool true], by simp [results, Tryd.results29, go_sem], ?_⟩)
    have hcP : Chg W' w' P := hc.mono fun k hk => by rw [List.mem_singleton.1 hk]; exact hPD
    exact (Coll.abides _ _ _ _ _ P P xs W' w' HC.out hcP (fun _ _ h => h)).firsts (HB.out.chg hcP HNB.out) HS.out.2 (by have := HLT.out; have := HS.out.1; omega)
end Go.Proofs.YtapgpdgbdmnkgaaDoor
