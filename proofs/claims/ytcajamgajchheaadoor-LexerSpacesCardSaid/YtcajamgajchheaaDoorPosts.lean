/-
  A REGION THAT DRAWS ITS ORDER, BY POSTS: one claim for each operation, about the value that it yields; each is shown once, from the claims of the operations that it waits for. The work is linear in the operations, whatever the orders.
-/
import Derived.Orders
import Derived.Laws.World
namespace Go.Proofs.YtcajamgajchheaaDoor
open Go

/-- What the slots hold: those that the region writes by u, the others as before. -/
def mixL : List Bool → List Value → (Nat → Value) → Nat → List Value
  | d :: ds, v :: vs, u, t => (bif d then u t else v) :: mixL ds vs u (t + 1)
  | [], vs, _, _ => vs
  | _, [], _, _ => []
def mixA (D : List Bool) (a0 : Act) (u : Nat → Value) : Act := { tmps := (mixL D a0.tmps.toList u 0).toArray, defers := a0.defers }
theorem mixL_length : ∀ (D : List Bool) (vs : List Value) (u : Nat → Value) (t : Nat), D.length = vs.length → (mixL D vs u t).length = vs.length
  | [], _, _, _, _ => rfl
  | _ :: _, [], _, _, h => by simp at h
  | _ :: ds, _ :: vs, u, t, h => by simp [mixL, mixL_length ds vs u (t + 1) (by simpa using h)]
theorem mixL_set : ∀ (D : List Bool) (vs : List Value) (u : Nat → Value) (t d : Nat) (v : Value), D.length = vs.length → D.getD d false = true →
    (mixL D vs u t).set d v = mixL D vs (fun k => if k = t + d then v else u k) t
  | [], _, _, _, _, _, _, h => by simp at h
  | _ :: _, [], _, _, _, _, h, _ => by simp at h
  | b :: ds, x :: vs, u, t, 0, v, h, hd => by
    have hb : b = true := by simpa using hd
    subst hb
    simp only [mixL, List.set_cons_zero, Nat.add_zero, cond_true, if_true]
    congr 1
    exact mixL_congr ds vs _ _ (t + 1) fun k hk => by rw [if_neg (by omega)]
  | b :: ds, x :: vs, u, t, d + 1, v, h, hd => by
    have ih := mixL_set ds vs u (t + 1) d v (by simpa using h) (by simpa using hd)
    simp only [mixL, List.set_cons_succ]
    rw [ih]
    have e : t + 1 + d = t + (d + 1) := by omega
    rw [e]
    congr 1
    cases b with
    | false => rfl
    | true => simp
where
  mixL_congr : ∀ (D : List Bool) (vs : List Value) (u u' : Nat → Value) (t : Nat), (∀ k, t ≤ k → u k = u' k) → mixL D vs u t = mixL D vs u' t
  | [], _, _, _, _, _ => rfl
  | _ :: _, [], _, _, _, _ => rfl
  | b :: ds, x :: vs, u, u', t, h => by
    simp only [mixL]
    rw [h t (Nat.le_refl _), mixL_congr ds vs u u' (t + 1) fun k hk => h k (by omega)]
theorem mixL_get : ∀ (D : List Bool) (vs : List Value) (u : Nat → Value) (t d : Nat), D.length = vs.length → D.getD d false = true → (mixL D vs u t)[d]? = some (u (t + d))
  | [], _, _, _, _, _, h => by simp at h
  | _ :: _, [], _, _, _, h, _ => by simp at h
  | b :: ds, x :: vs, u, t, 0, h, hd => by
    have hb : b = true := by simpa using hd
    subst hb
    simp [mixL]
  | b :: ds, x :: vs, u, t, d + 1, h, hd => by
    have ih := mixL_get ds vs u (t + 1) d (by simpa using h) (by simpa using hd)
    simp only [mixL, List.getElem?_cons_succ, ih]
    congr 2
    omega
theorem mixL_self : ∀ (D : List Bool) (vs : List Value) (u : Nat → Value) (t : Nat), (∀ k, k < vs.length → u (t + k) = vs.getD k undef) → mixL D vs u t = vs
  | [], _, _, _, _ => rfl
  | _ :: _, [], _, _, _ => rfl
  | b :: ds, x :: vs, u, t, h => by
    simp only [mixL]
    have h0 := h 0 (by simp)
    simp at h0
    rw [mixL_self ds vs u (t + 1) fun k hk => by have := h (k + 1) (by simp; omega); rw [show t + (k + 1) = t + 1 + k by omega] at this; simpa using this]
    cases b with
    | false => rfl
    | true => simp [h0]

/-- The value of operation j. -/
def uval (sl : List (Option Nat)) (u : Nat → Value) (j : Nat) : Value := match sl.getD j none with | some d => u d | none => undef

/-- The operation runs to its end, and T holds of what it yields. -/
def Runs (P : Program) (o : Oper) (a : Act) (w : World) (T : Value → World → Prop) : Prop :=
  ∀ (K : Act → World → Prop) (Q : Exit → Act → World → Prop), (∀ v w', T v w' → K (a.put o.dst v) w') → o.wp P a w K Q
theorem Runs.value {P : Program} {o : Oper} {a : Act} {w w' : World} {T : Value → World → Prop} {v : Value} (h : (execOp a.eval o).run P w = .ok (.value v) w') (ht : T v w') : Runs P o a w T := fun K Q hk => by
  unfold Oper.wp
  rw [h]
  exact hk _ _ ht
theorem Runs.skip {P : Program} {o : Oper} {a : Act} {w w' : World} {T : Value → World → Prop} (h : (execOp a.eval o).run P w = .ok .skip w') (ht : T undef w') : Runs P o a w T := fun K Q hk => by
  unfold Oper.wp
  rw [h]
  exact hk _ _ ht
theorem Runs.call {P : Program} {o : Oper} {a : Act} {w w' : World} {T : Value → World → Prop} {f : FuncId} {args : Array Value} (h : (execOp a.eval o).run P w = .ok (.enter f args) w')
    (ht : Calls P f args w' fun e w'' => ∃ v, e = .returned v ∧ T v w'') : Runs P o a w T := fun K Q hk => by
  unfold Oper.wp
  rw [h]
  rw [Oper.upon_enter]
  refine ht.mono ?_
  rintro e w'' ⟨v, rfl, h⟩
  exact hk _ _ h

/-- What the operations that this one waits for have yielded. -/
def deps (F : Nat → Value → World → Prop) (sl : List (Option Nat)) (u : Nat → Value) (w : World) : List Edge → Prop
  | [] => True
  | e :: es => (Region.binds .any e = true → F e.on (uval sl u e.on) w) ∧ deps F sl u w es
theorem deps_of {F : Nat → Value → World → Prop} {sl : List (Option Nat)} {u : Nat → Value} {w : World} : ∀ {es : List Edge}, (∀ e ∈ es, Region.binds .any e = true → F e.on (uval sl u e.on) w) → deps F sl u w es
  | [], _ => trivial
  | e :: _, h => ⟨h e (by simp), deps_of fun e' he' => h e' (by simp [he'])⟩
/-- The claim of one operation. -/
def StepOk (P : Program) (R : World → World → Prop) (F : Nat → Value → World → Prop) (sl : List (Option Nat)) (i : Nat) (o : Oper) (u : Nat → Value) (a : Act) (w : World) : Prop :=
  match o.guard with
  | none => Runs P o a w fun v w' => R w w' ∧ F i (match o.dst with | some _ => v | none => undef) w'
  | some (g, b) => (uval sl u g = .bool b → Runs P o a w fun v w' => R w w' ∧ F i (match o.dst with | some _ => v | none => undef) w') ∧ (uval sl u g ≠ .bool b → F i undef w)
def Steps (P : Program) (R : World → World → Prop) (F : Nat → Value → World → Prop) (sl : List (Option Nat)) (A : (Nat → Value) → Act) (w0 : World) : Nat → List Oper → Prop
  | _, [] => True
  | i, o :: os => (∀ u w, R w0 w → deps F sl u w o.after.toList → StepOk P R F sl i o u (A u) w) ∧ Steps P R F sl A w0 (i + 1) os
theorem Steps.at {P : Program} {R : World → World → Prop} {F : Nat → Value → World → Prop} {sl : List (Option Nat)} {A : (Nat → Value) → Act} {w0 : World} : ∀ {n : Nat} {os : List Oper}, Steps P R F sl A w0 n os →
    ∀ {i : Nat} {o : Oper}, os[i]? = some o → ∀ u w, R w0 w → deps F sl u w o.after.toList → StepOk P R F sl (n + i) o u (A u) w
  | _, [], _, _, _, h => by simp at h
  | n, o :: os, h, 0, _, e => by
    obtain rfl : o = _ := by simpa using e
    exact h.1
  | n, o :: os, h, i + 1, o', e => by
    have := Steps.at h.2 (i := i) (by simpa using e)
    rwa [show n + 1 + i = n + (i + 1) by omega] at this

def nodupB : List Nat → Bool
  | [] => true
  | x :: xs => !xs.contains x && nodupB xs
/-- The region's operations write different slots, all of them named; guards are slots; no select. -/
def regionOk (ops : Array Oper) (sl : List (Option Nat)) (D : List Bool) : Bool :=
  (ops.toList.map (·.dst) == sl) && nodupB (sl.filterMap id) && (sl.filterMap id).all (fun d => D.getD d false) &&
  ops.toList.all (fun o => match o.guard with | none => true | some (g, _) => (sl.getD g none).isSome) &&
  (List.range ops.size).all (fun i => match ops[i]? with | none => true | some o => o.after.toList.all fun e => !Region.binds .any e || decide (e.on < i))
theorem nodup_ne : ∀ {sl : List (Option Nat)}, nodupB (sl.filterMap id) = true → ∀ {i j d : Nat}, sl.getD i none = some d → sl.getD j none = some d → i = j
  | [], _, _, _, _, h, _ => by simp at h
  | x :: xs, hn, i, j, d, hi, hj => by
    have tail : nodupB (xs.filterMap id) = true := by
      cases x with
      | none => simpa using hn
      | some y => simp [nodupB] at hn; exact hn.2
    have notin : x = some d → ∀ k, xs.getD k none ≠ some d := fun e k hk => by
      subst e
      simp [nodupB] at hn
      have hm : some d ∈ xs := by
        rw [List.getD_eq_getElem?_getD] at hk
        cases hx : xs[k]? with
        | none => simp [hx] at hk
        | some y => simp [hx] at hk; subst hk; exact List.mem_of_getElem? hx
      exact hn.1 hm
    cases i with
    | zero =>
      cases j with
      | zero => rfl
      | succ j => exact absurd (by simpa using hj) (notin (by simpa using hi) j)
    | succ i =>
      cases j with
      | zero => exact absurd (by simpa using hi) (notin (by simpa using hj) i)
      | succ j => rw [nodup_ne tail (i := i) (j := j) (d := d) (by simpa using hi) (by simpa using hj)]

section
variable {P : Program} {ops : Array Oper} {Q : Exit → Act → World → Prop} {R : World → World → Prop} {F : Nat → Value → World → Prop} {sl : List (Option Nat)} {D : List Bool} {a0 : Act} {w0 : World}
theorem sl_at (hsl : ops.toList.map (·.dst) = sl) {i : Nat} {o : Oper} (h : ops[i]? = some o) : sl.getD i none = o.dst := by
  rw [← hsl, List.getD_eq_getElem?_getD, List.getElem?_map]
  simp [h]
theorem posts_go (hok : regionOk ops sl D = true) (hD : D.length = a0.tmps.size) (hrr : ∀ w, R w w) (hrt : ∀ {a b c}, R a b → R b c → R a c) (hF : ∀ i v w w', R w w' → F i v w → F i v w')
    (hs : Steps P R F sl (mixA D a0) w0 0 ops.toList) (hend : ∀ u w, R w0 w → (∀ i, i < ops.size → F i (uval sl u i) w) → Q .normal (mixA D a0 u) w) :
    ∀ (fuel : Nat) (listed : Array Bool) (u : Nat → Value) (w : World), listed.size = ops.size → listed.toList.count false ≤ fuel → R w0 w →
      (∀ i, listed.getD i false = true → F i (uval sl u i) w) → wpAny P .any ops Q fuel listed (mixA D a0 u) w := by
  simp only [regionOk, Bool.and_eq_true, beq_iff_eq, List.all_eq_true] at hok
  obtain ⟨⟨⟨⟨hsl, hnd⟩, hDs⟩, hgs⟩, hac⟩ := hok
  have hacyc : ∀ i, i < ops.size → ∀ o, ops[i]? = some o → ∀ e ∈ o.after, Region.binds .any e = true → e.on < i := fun i hi o ho e he hb => by
    have := hac i (List.mem_range.2 hi)
    simp only [ho, List.all_eq_true] at this
    have := this e (Array.mem_toList_iff.2 he)
    simpa [hb] using this
  intro fuel
  induction fuel with
  | zero =>
    intro listed u w hsz hc hR hp
    have hall : ∀ i, i < ops.size → listed.getD i false = true := fun i hi => by
      have h0 : listed.toList.count false = 0 := by omega
      rw [List.count_eq_zero] at h0
      have hlt : i < listed.size := by omega
      cases hb : listed[i] with
      | true => simp [hlt, hb]
      | false => exact absurd (by rw [← hb]; exact Array.getElem_mem_toList hlt) h0
    refine ⟨?_, hend u w hR fun i hi => hp i (hall i hi)⟩
    rw [List.eq_nil_iff_forall_not_mem]
    intro j hj
    obtain ⟨h0, o, ho, _⟩ := mem_ready.1 hj
    have hj' := (Array.getElem?_eq_some_iff.1 ho).1
    have := hall j hj'
    have hlt : j < listed.size := by omega
    simp [hlt] at h0 this
    rw [h0] at this
    cases this
  | succ fuel ih =>
    intro listed u w hsz hc hR hp
    have hdone : Region.ready .any ops listed = [] → ∀ i, i < ops.size → listed.getD i false = true := fun hr => by
      intro i
      induction i using Nat.strongRecOn with
      | ind i ihi =>
        intro hi
        cases hl : listed.getD i false with
        | true => rfl
        | false =>
          exfalso
          have hlt : i < listed.size := by omega
          have : i ∈ Region.ready .any ops listed := mem_ready.2 ⟨by simp [hlt] at hl ⊢; exact hl, ops[i], by simp [hi], fun e he hb => ihi e.on (hacyc i hi _ (by simp [hi]) e he hb) (by have := hacyc i hi _ (by simp [hi]) e he hb; omega)⟩
          rw [hr] at this
          cases this
    refine ⟨fun hr => hend u w hR fun i hi => hp i (hdone hr i hi), fun i hi => ?_⟩
    obtain ⟨hun, o, ho, hall⟩ := mem_ready.1 hi
    have hilt := (Array.getElem?_eq_some_iff.1 ho).1
    have hstep := hs.at (i := i) (o := o) (by simpa using ho) u w hR (deps_of fun e he hb => hp e.on (hall e (by simpa using he) hb))
    rw [Nat.zero_add] at hstep
    have hslo := sl_at hsl ho
    have hlt : i < listed.size := by omega
    have hlf : listed[i] = false := by simpa [hlt] using hun
    have hcnt : (listed.setIfInBounds i true).toList.count false ≤ fuel := by
      have e1 : (listed.setIfInBounds i true).toList = listed.toList.set i true := by simp
      have e2 := List.count_set (l := listed.toList) (a := true) (b := false) (i := i) (by simpa using hlt)
      rw [e1, e2]
      have e3 : 0 < listed.toList.count false := List.count_pos_iff.2 (by rw [← hlf]; exact Array.getElem_mem_toList hlt)
      have e4 : (listed.toList[i]'(by simpa using hlt) == false) = true := by simp [hlf]
      have e5 : (true == false) = false := rfl
      simp only [e4, e5, if_true, Bool.false_eq_true, if_false] at e2 ⊢
      omega
    -- the next state
    have next : ∀ (v : Value) (w' : World), R w w' → F i (match o.dst with | some _ => v | none => undef) w' → wpAny P .any ops Q fuel (listed.setIfInBounds i true) ((mixA D a0 u).put o.dst v) w' := by
      intro v w' hr' hfi
      cases hd : o.dst with
      | none =>
        rw [hd] at hfi hslo
        refine ih _ u w' (by simpa using hsz) hcnt (hrt hR hr') (fun k hk => ?_)
        · by_cases hki : k = i
          · subst hki
            have : uval sl u k = undef := by simp only [uval, hslo]
            rw [this]; exact hfi
          · exact hF _ _ _ _ hr' (hp k (by rw [getD_set_ne false (Ne.symm hki)] at hk; exact hk))
      | some d =>
        rw [hd] at hfi hslo
        have hDd : D.getD d false = true := hDs d (by
          rw [List.mem_filterMap]
          refine ⟨some d, ?_, rfl⟩
          rw [List.getD_eq_getElem?_getD] at hslo
          cases hx : sl[i]? with
          | none => simp [hx] at hslo
          | some y => simp [hx] at hslo; subst hslo; exact List.mem_of_getElem? hx)
        have hput : (mixA D a0 u).put (some d) v = mixA D a0 (fun k => if k = d then v else u k) := by
          have hm := mixL_set D a0.tmps.toList u 0 d v (by simpa using hD) hDd
          simp only [Nat.zero_add] at hm
          simp only [mixA, Act.put, List.setIfInBounds_toArray, hm]
        rw [hput]
        refine ih _ _ w' (by simpa using hsz) hcnt (hrt hR hr') (fun k hk => ?_)
        · by_cases hki : k = i
          · subst hki
            have : uval sl (fun k => if k = d then v else u k) k = v := by simp only [uval, hslo, if_true]
            rw [this]; exact hfi
          · have hk' := hp k (by rw [getD_set_ne false (Ne.symm hki)] at hk; exact hk)
            have : uval sl (fun k => if k = d then v else u k) k = uval sl u k := by
              unfold uval
              cases hx : sl.getD k none with
              | none => rfl
              | some d' =>
                have : d' ≠ d := fun e => hki (nodup_ne hnd (by rw [hx, e]) hslo)
                simp only [if_neg this]
            rw [this]
            exact hF _ _ _ _ hr' hk'
    -- the guard
    unfold wpOp
    simp only [ho]
    cases hg : o.guard with
    | none =>
      have hw : Region.wanted o (yielded ops (mixA D a0 u).tmps) = true := by simp [Region.wanted, hg]
      rw [if_pos hw]
      simp only [StepOk, hg] at hstep
      exact .inl (hstep _ _ fun v w' h => next v w' h.1 h.2)
    | some gb =>
      obtain ⟨g, b⟩ := gb
      simp only [StepOk, hg] at hstep
      have hgsome := hgs o (by exact Array.mem_toList_iff.2 (Array.mem_of_getElem? ho))
      simp only [hg] at hgsome
      obtain ⟨gs, hgs'⟩ := Option.isSome_iff_exists.1 hgsome
      have hDg : D.getD gs false = true := hDs gs (by
        rw [List.mem_filterMap]
        refine ⟨some gs, ?_, rfl⟩
        rw [List.getD_eq_getElem?_getD] at hgs'
        cases hx : sl[g]? with
        | none => simp [hx] at hgs'
        | some y => simp [hx] at hgs'; subst hgs'; exact List.mem_of_getElem? hx)
      have hgo : ((ops[g]?).bind (·.dst)) = some gs := by
        cases hog : ops[g]? with
        | none =>
          rw [← hsl, List.getD_eq_getElem?_getD, List.getElem?_map] at hgs'
          simp [hog] at hgs'
        | some og => have := sl_at hsl hog; rw [hgs'] at this; simpa using this.symm
      have hy : yielded ops (mixA D a0 u).tmps g = match u gs with | .bool b => some b | _ => none := by
        unfold yielded
        rw [hgo]
        have hm := mixL_get D a0.tmps.toList u 0 gs (by simpa using hD) hDg
        rw [Nat.zero_add] at hm
        simp only [mixA, Option.bind_some, List.getElem?_toArray, hm]
        cases u gs <;> rfl
      have huv : uval sl u g = u gs := by simp only [uval, hgs']
      rw [huv] at hstep
      by_cases hb : u gs = .bool b
      · have hw : Region.wanted o (yielded ops (mixA D a0 u).tmps) = true := by simp [Region.wanted, hg, hy, hb]
        rw [if_pos hw]
        exact .inl (hstep.1 hb _ _ fun v w' h => next v w' h.1 h.2)
      · have hw : ¬ Region.wanted o (yielded ops (mixA D a0 u).tmps) = true := by
          simp only [Region.wanted, hg, hy]
          intro h
          apply hb
          revert h
          cases u gs <;> simp
        rw [if_neg hw]
        refine next undef w ?_ ?_
        · exact hrr w
        · have := hstep.2 hb
          cases o.dst <;> exact this
theorem wp_region_posts {id : Nat} (sl : List (Option Nat)) (D : List Bool) (R : World → World → Prop) (F : Nat → Value → World → Prop) (hm : P.follows .mixedOrders = true) (hok : regionOk ops sl D = true) (hD : D.length = a0.tmps.size)
    (hrr : ∀ w, R w w) (hrt : ∀ {a b c}, R a b → R b c → R a c) (hF : ∀ i v w w', R w w' → F i v w → F i v w')
    (hs : Steps P R F sl (mixA D a0) w0.drew 0 ops.toList) (hend : ∀ u w, R w0.drew w → (∀ i, i < ops.size → F i (uval sl u i) w) → Q .normal (mixA D a0 u) w) : (Code.region id ops true).wp P Q a0 w0 := by
  refine wp_region_any hm ?_
  have h0 : mixA D a0 (fun t => a0.tmps.getD t undef) = a0 := by
    unfold mixA
    rw [mixL_self D a0.tmps.toList _ 0 fun k hk => by simp]
  have := posts_go (P := P) (ops := ops) (Q := Q) hok hD hrr hrt hF hs hend ops.size (Array.replicate ops.size false) (fun t => a0.tmps.getD t undef) w0.drew (by simp) (by simp) (hrr _) (fun i hi => by
    by_cases h : i < ops.size <;> simp [h] at hi)
  rw [h0] at this
  exact this
end
end Go.Proofs.YtcajamgajchheaaDoor
