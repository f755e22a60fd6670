/-
  A REGION THAT DRAWS ITS ORDER, BY POSTS, WITH ONE OPERATION (f) THAT ONLY READS SLOTS AND FOR WHICH THE LAST PART NEED NOT WAIT.
-/
import Derived.Test.YtcajamgajchheaaDoorPostsTail
namespace Go.Proofs.YtcajamgajchheaaDoor
open Go

def tailOkS (ops : Array Oper) (n f : Nat) : Bool := (List.range ops.size).all fun i => decide (i < n) || (List.range n).all fun j => Nat.beq j f || reach ops ops.size i j
def depsOf (ops : Array Oper) (f : Nat) : Array Bool := ((List.range ops.size).map fun j => reach ops ops.size f j).toArray
theorem free_of {ops : Array Oper} {f : Nat} {listed : Array Bool} (h : Region.free .any ops (depsOf ops f) f = true) (hl : ∀ j, reach ops ops.size f j = true → listed.getD j false = true) : Region.free .any ops listed f = true := by
  unfold Region.free at h ⊢
  cases hf : ops[f]? with
  | none => rw [hf] at h; cases h
  | some oi =>
    rw [hf] at h
    simp only [List.all_eq_true, List.mem_range, Bool.or_eq_true, beq_iff_eq] at h ⊢
    intro j hj
    rcases h j hj with (h1 | h1) | h1
    · exact .inl (.inl h1)
    · refine .inl (.inr ?_)
      have hd : (depsOf ops f).getD j true = reach ops ops.size f j := by simp [depsOf, hj]
      have := hl j (hd ▸ h1)
      by_cases hs : j < listed.size
      · simp [hs] at this ⊢; exact this
      · simp [hs]
    · exact .inr h1
section
variable {P : Program} {ops : Array Oper} {Q : Exit → Act → World → Prop} {R : World → World → Prop} {F : Nat → Value → World → Prop} {sl : List (Option Nat)} {D : List Bool} {a0 : Act} {w0 : World}
theorem posts_side (f : Nat) (of : Oper) (n : Nat) (hn : n ≤ ops.size) (htl : tailOkS ops n f = true) (hof : ops[f]? = some of) (hfn : f < n) (hfr0 : Region.free .any ops (depsOf ops f) f = true) (hns : Region.noSelect ops = true) (hfg : of.guard = none) (hQ : ∀ c v a w, Q (.panic c) (a.put of.dst v) w → Q (.panic c) a w)
    (hpure : ∀ u w, R w0 w → deps F sl u w of.after.toList → ∃ v, (∀ w', (execOp (mixA D a0 u).eval of).run P w' = .ok (.value v) w') ∧ F f (match of.dst with | some _ => v | none => undef) w) (hok : regionOkN ops n sl D = true) (hD : D.length = a0.tmps.size) (hrr : ∀ w, R w w) (hrt : ∀ {a b c}, R a b → R b c → R a c) (hF : ∀ i v w w', R w w' → F i v w → F i v w')
    (hs : Steps P R F sl (mixA D a0) w0 0 (ops.toList.take n)) (hend : ∀ u w, R w0 w → (∀ i, i < n → F i (uval sl u i) w) → wpAny P .any ops Q (ops.size - n) (listedN n ops.size) (mixA D a0 u) w) :
    ∀ (fuel : Nat) (listed : Array Bool) (u : Nat → Value) (w : World), listed.size = ops.size → listed.toList.count false = fuel → (∀ i, n ≤ i → i < ops.size → listed.getD i false = false) → (∀ i, listed.getD i false = true → ∀ o, ops[i]? = some o → ∀ e ∈ o.after, Region.binds .any e = true → listed.getD e.on false = true) → R w0 w →
      (∀ i, listed.getD i false = true → F i (uval sl u i) w) → wpAny P .any ops Q fuel listed (mixA D a0 u) w := by
  simp only [regionOkN, Bool.and_eq_true, beq_iff_eq, List.all_eq_true] at hok
  obtain ⟨⟨⟨⟨hsl, hnd⟩, hDs⟩, hgs⟩, hac⟩ := hok
  have hacyc : ∀ i, i < ops.size → ∀ o, ops[i]? = some o → ∀ e ∈ o.after, Region.binds .any e = true → e.on < i := fun i hi o ho e he hb => by
    have := hac i (List.mem_range.2 hi)
    simp only [ho, List.all_eq_true] at this
    have := this e (Array.mem_toList_iff.2 he)
    simpa [hb] using this
  have full : ∀ (listed : Array Bool) (fuel : Nat) (u : Nat → Value) (w : World), listed.size = ops.size → listed.toList.count false = fuel → (∀ i, n ≤ i → i < ops.size → listed.getD i false = false) → R w0 w → (∀ i, listed.getD i false = true → F i (uval sl u i) w) →
      (∀ i, i < n → listed.getD i false = true) → wpAny P .any ops Q fuel listed (mixA D a0 u) w := by
    intro listed fuel u w hsz hc htail hR hp hall
    have e : listed = listedN n ops.size := by
      apply Array.ext
      · simp [listedN, hsz]; omega
      · intro i h1 h2
        have hi : i < ops.size := by omega
        simp only [listedN, List.getElem_toArray]
        rcases Nat.lt_or_ge i n with hlt | hge
        · have := hall i hlt
          simp [h1] at this
          rw [this, List.getElem_append_left (by simpa using hlt)]
          simp
        · have := htail i hge hi
          simp [h1] at this
          rw [this, List.getElem_append_right (by simpa using hge)]
          simp
    have e2 : fuel = ops.size - n := by
      rw [← hc, e]
      simp [listedN, List.count_replicate]
    subst e2
    rw [e]
    exact hend u w hR fun i hi => hp i (hall i hi)
  intro fuel
  induction fuel with
  | zero =>
    intro listed u w hsz hc htail hcl hR hp
    have hall : ∀ i, i < ops.size → listed.getD i false = true := fun i hi => by
      rw [List.count_eq_zero] at hc
      have hlt : i < listed.size := by omega
      cases hb : listed[i] with
      | true => simp [hlt, hb]
      | false => exact absurd (by rw [← hb]; exact Array.getElem_mem_toList hlt) hc
    exact full listed 0 u w hsz hc htail hR hp fun i hi => hall i (by omega)
  | succ fuel ih =>
    intro listed u w hsz hc htail hcl hR hp
    by_cases hfull : ∀ i, i < n → listed.getD i false = true
    · exact full listed _ u w hsz hc htail hR hp hfull
    have key : ∀ (i : Nat) (o : Oper), ops[i]? = some o → i < n → listed.getD i true = false → (∀ e ∈ o.after, Region.binds .any e = true → listed.getD e.on false = true) → ∀ (v : Value) (w' : World), R w w' → F i (match o.dst with | some _ => v | none => undef) w' → wpAny P .any ops Q fuel (listed.setIfInBounds i true) ((mixA D a0 u).put o.dst v) w' := by
      intro i o ho hin hun hall
      have hslo := sl_atN hsl hin ho
      have hlt : i < listed.size := by omega
      have hlf : listed[i] = false := by simpa [hlt] using hun
      have hcnt : (listed.setIfInBounds i true).toList.count false = fuel := by
        have e1 : (listed.setIfInBounds i true).toList = listed.toList.set i true := by simp
        have e2 := List.count_set (l := listed.toList) (a := true) (b := false) (i := i) (by simpa using hlt)
        rw [e1, e2]
        have e3 : 0 < listed.toList.count false := List.count_pos_iff.2 (by rw [← hlf]; exact Array.getElem_mem_toList hlt)
        have e4 : (listed.toList[i]'(by simpa using hlt) == false) = true := by simp [hlf]
        have e5 : (true == false) = false := rfl
        simp only [e4, e5, if_true, Bool.false_eq_true, if_false] at e2 ⊢
        omega
      have htail' : ∀ k, n ≤ k → k < ops.size → (listed.setIfInBounds i true).getD k false = false := fun k h1 h2 => by rw [getD_set_ne false (by omega)]; exact htail k h1 h2
      have hcl' : ∀ k, (listed.setIfInBounds i true).getD k false = true → ∀ o, ops[k]? = some o → ∀ e ∈ o.after, Region.binds .any e = true → (listed.setIfInBounds i true).getD e.on false = true := fun k hk o' ho' e he hb => by
        by_cases hki : k = i
        · subst hki
          obtain rfl : o = o' := Option.some.inj (ho.symm.trans ho')
          exact getD_set_true (hall e he hb)
        · rw [getD_set_ne false (Ne.symm hki)] at hk
          exact getD_set_true (hcl k hk o' ho' e he hb)
      intro v w' hr' hfi
      cases hd : o.dst with
      | none =>
        rw [hd] at hfi hslo
        refine ih _ u w' (by simpa using hsz) hcnt htail' hcl' (hrt hR hr') (fun k hk => ?_)
        · by_cases hki : k = i
          · subst hki
            have : uval sl u k = undef := by simp only [uval, hslo]
            rw [this]; exact hfi
          · exact hF _ _ _ _ hr' (hp k (by rw [getD_set_ne false (Ne.symm hki)] at hk; exact hk))
      | some d =>
        rw [hd] at hfi hslo
        have hDd : D.getD d false = true := hDs d (by
          rw [List.mem_filterMap]
          refine ⟨some d, ?_, rfl⟩
          rw [List.getD_eq_getElem?_getD] at hslo
          cases hx : sl[i]? with
          | none => simp [hx] at hslo
          | some y => simp [hx] at hslo; subst hslo; exact List.mem_of_getElem? hx)
        have hput : (mixA D a0 u).put (some d) v = mixA D a0 (fun k => if k = d then v else u k) := by
          have hm := mixL_set D a0.tmps.toList u 0 d v (by simpa using hD) hDd
          simp only [Nat.zero_add] at hm
          simp only [mixA, Act.put, List.setIfInBounds_toArray, hm]
        rw [hput]
        refine ih _ _ w' (by simpa using hsz) hcnt htail' hcl' (hrt hR hr') (fun k hk => ?_)
        · by_cases hki : k = i
          · subst hki
            have : uval sl (fun k => if k = d then v else u k) k = v := by simp only [uval, hslo, if_true]
            rw [this]; exact hfi
          · have hk' := hp k (by rw [getD_set_ne false (Ne.symm hki)] at hk; exact hk)
            have : uval sl (fun k => if k = d then v else u k) k = uval sl u k := by
              unfold uval
              cases hx : sl.getD k none with
              | none => rfl
              | some d' =>
                have : d' ≠ d := fun e => hki (nodup_ne hnd (by rw [hx, e]) hslo)
                simp only [if_neg this]
            rw [this]
            exact hF _ _ _ _ hr' hk'
    by_cases hfr : listed.getD f true = false ∧ (∀ e ∈ of.after, Region.binds .any e = true → listed.getD e.on false = true)
    · obtain ⟨v, hrun, hFf⟩ := hpure u w hR (deps_of fun e he hb => hp e.on (hfr.2 e (by simpa using he) hb))
      refine wpAny_take (v := v) hof hns (free_of hfr0 (fun j hj => ?_)) ?_ (fun c a w => hQ c v a w) (.inl ⟨by simp [Region.wanted, hfg], hrun⟩) (key f of hof hfn hfr.1 hfr.2 v w (hrr w) hFf)
      · exact reach_listed hcl ops.size f j (fun o' ho' e he hb => by obtain rfl : of = o' := Option.some.inj (hof.symm.trans ho'); exact hfr.2 e he hb) hj
      · rw [List.contains_iff_mem]
        exact mem_ready.2 ⟨hfr.1, of, hof, hfr.2⟩
    have hne : Region.ready .any ops listed ≠ [] := fun hr => hfull fun i => by
      induction i using Nat.strongRecOn with
      | ind i ihi =>
        intro hi
        cases hl : listed.getD i false with
        | true => rfl
        | false =>
          exfalso
          have hlt : i < listed.size := by omega
          have hi' : i < ops.size := by omega
          have : i ∈ Region.ready .any ops listed := mem_ready.2 ⟨by simp [hlt] at hl ⊢; exact hl, ops[i], by simp [hi'], fun e he hb => ihi e.on (hacyc i hi' _ (by simp [hi']) e he hb) (by have := hacyc i hi' _ (by simp [hi']) e he hb; omega)⟩
          rw [hr] at this
          cases this
    refine ⟨fun hr => absurd hr hne, fun i hi => ?_⟩
    obtain ⟨hun, o, ho, hall⟩ := mem_ready.1 hi
    have hilt := (Array.getElem?_eq_some_iff.1 ho).1
    have hin : i < n := by
      rcases Nat.lt_or_ge i n with h | h
      · exact h
      · exfalso
        have hre : ∀ j, j < n → j ≠ f → reach ops ops.size i j = true := fun j hj hjf => by
          simp only [tailOkS, List.all_eq_true, List.mem_range] at htl
          have := htl i hilt
          simp only [Bool.or_eq_true, decide_eq_true_eq, List.all_eq_true, List.mem_range] at this
          rcases this with h' | h'
          · omega
          · rcases h' j hj with h2 | h2
            · exact absurd (Nat.eq_of_beq_eq_true h2) hjf
            · exact h2
        have hlis : ∀ j, j < n → j ≠ f → listed.getD j false = true := fun j hj hjf => reach_listed hcl ops.size i j (fun o' ho' e he hb => by obtain rfl : o = o' := Option.some.inj (ho.symm.trans ho'); exact hall e he hb) (hre j hj hjf)
        apply hfull
        intro j hj
        by_cases hjf : j = f
        · subst hjf
          cases hl : listed.getD j false with
          | true => rfl
          | false =>
            exfalso
            have hjl : j < listed.size := by omega
            refine hfr ⟨by simp [hjl] at hl ⊢; exact hl, fun e he hb => ?_⟩
            have hlt := hacyc j (by omega) of hof e he hb
            exact hlis e.on (by omega) (by omega)
        · exact hlis j hj hjf
    have hstep := hs.at (i := i) (o := o) (by rw [List.getElem?_take_of_lt hin]; simpa using ho) u w hR (deps_of fun e he hb => hp e.on (hall e (by simpa using he) hb))
    rw [Nat.zero_add] at hstep
    have next := key i o ho hin hun hall
    have hslo := sl_atN hsl hin ho
    -- the guard
    unfold wpOp
    simp only [ho]
    cases hg : o.guard with
    | none =>
      have hw : Region.wanted o (yielded ops (mixA D a0 u).tmps) = true := by simp [Region.wanted, hg]
      rw [if_pos hw]
      simp only [StepOk, hg] at hstep
      exact .inl (hstep _ _ fun v w' h => next v w' h.1 h.2)
    | some gb =>
      obtain ⟨g, b⟩ := gb
      simp only [StepOk, hg] at hstep
      have hgsome := hgs o (List.mem_of_getElem? (i := i) (by rw [List.getElem?_take_of_lt hin]; simpa using ho))
      simp only [hg] at hgsome
      obtain ⟨gs, hgs'⟩ := Option.isSome_iff_exists.1 hgsome
      have hDg : D.getD gs false = true := hDs gs (by
        rw [List.mem_filterMap]
        refine ⟨some gs, ?_, rfl⟩
        rw [List.getD_eq_getElem?_getD] at hgs'
        cases hx : sl[g]? with
        | none => simp [hx] at hgs'
        | some y => simp [hx] at hgs'; subst hgs'; exact List.mem_of_getElem? hx)
      have hgo : ((ops[g]?).bind (·.dst)) = some gs := by
        cases hog : ops[g]? with
        | none =>
          rw [← hsl, List.getD_eq_getElem?_getD, List.getElem?_map] at hgs'
          have : (ops.toList.take n)[g]? = none := by
            rw [List.getElem?_take]
            split
            · simpa using hog
            · rfl
          simp [this] at hgs'
        | some og =>
          have hgn : g < n := by
            rcases Nat.lt_or_ge g n with h | h
            · exact h
            · exfalso
              rw [← hsl, List.getD_eq_getElem?_getD, List.getElem?_map, List.getElem?_take, if_neg (by omega)] at hgs'
              simp at hgs'
          have := sl_atN hsl hgn hog; rw [hgs'] at this; simpa using this.symm
      have hy : yielded ops (mixA D a0 u).tmps g = match u gs with | .bool b => some b | _ => none := by
        unfold yielded
        rw [hgo]
        have hm := mixL_get D a0.tmps.toList u 0 gs (by simpa using hD) hDg
        rw [Nat.zero_add] at hm
        simp only [mixA, Option.bind_some, List.getElem?_toArray, hm]
        cases u gs <;> rfl
      have huv : uval sl u g = u gs := by simp only [uval, hgs']
      rw [huv] at hstep
      by_cases hb : u gs = .bool b
      · have hw : Region.wanted o (yielded ops (mixA D a0 u).tmps) = true := by simp [Region.wanted, hg, hy, hb]
        rw [if_pos hw]
        exact .inl (hstep.1 hb _ _ fun v w' h => next v w' h.1 h.2)
      · have hw : ¬ Region.wanted o (yielded ops (mixA D a0 u).tmps) = true := by
          simp only [Region.wanted, hg, hy]
          intro h
          apply hb
          revert h
          cases u gs <;> simp
        rw [if_neg hw]
        refine next undef w ?_ ?_
        · exact hrr w
        · have := hstep.2 hb
          cases o.dst <;> exact this
theorem wp_region_side {id : Nat} (f : Nat) (of : Oper) (n : Nat) (sl : List (Option Nat)) (D : List Bool) (R : World → World → Prop) (F : Nat → Value → World → Prop) (hm : P.follows .mixedOrders = true) (hok : regionOkN ops n sl D = true) (htl : (decide (n ≤ ops.size) && tailOkS ops n f) = true) (hof : ops[f]? = some of) (hfn : f < n) (hfr0 : Region.free .any ops (depsOf ops f) f = true) (hns : Region.noSelect ops = true) (hfg : of.guard = none) (hQ : ∀ c v a w, Q (.panic c) (a.put of.dst v) w → Q (.panic c) a w) (hD : D.length = a0.tmps.size)
    (hrr : ∀ w, R w w) (hrt : ∀ {a b c}, R a b → R b c → R a c) (hF : ∀ i v w w', R w w' → F i v w → F i v w')
    (hpure : ∀ u w, R w0.drew w → deps F sl u w of.after.toList → ∃ v, (∀ w', (execOp (mixA D a0 u).eval of).run P w' = .ok (.value v) w') ∧ F f (match of.dst with | some _ => v | none => undef) w)
    (hs : Steps P R F sl (mixA D a0) w0.drew 0 (ops.toList.take n)) (hend : ∀ u w, R w0.drew w → (∀ i, i < n → F i (uval sl u i) w) → wpAny P .any ops Q (ops.size - n) (listedN n ops.size) (mixA D a0 u) w) : (Code.region id ops true).wp P Q a0 w0 := by
  refine wp_region_any hm ?_
  rw [Bool.and_eq_true, decide_eq_true_eq] at htl
  have h0 : mixA D a0 (fun t => a0.tmps.getD t undef) = a0 := by
    unfold mixA
    rw [mixL_self D a0.tmps.toList _ 0 fun k hk => by simp]
  have hrep : ∀ i, (Array.replicate ops.size false).getD i false = false := fun i => by by_cases h : i < ops.size <;> simp [h]
  have := posts_side (P := P) (ops := ops) (Q := Q) (R := R) (F := F) (w0 := w0.drew) f of n htl.1 htl.2 hof hfn hfr0 hns hfg hQ hpure hok hD hrr hrt hF hs hend ops.size (Array.replicate ops.size false) (fun t => a0.tmps.getD t undef) w0.drew (by simp) (by simp) (fun i _ _ => hrep i) (fun i hi => by rw [hrep] at hi; cases hi) (hrr _) (fun i hi => by rw [hrep] at hi; cases hi)
  rw [h0] at this
  exact this
end
end Go.Proofs.YtcajamgajchheaaDoor
