/-
  A REGION THAT DRAWS ITS ORDER, BY POSTS, WITH ONE OPERATION THAT WRITES (i0), AND WITH OPERATIONS (sd) THAT ONLY READ SLOTS AND FOR WHICH THE LAST PART NEED NOT WAIT.
-/
import Derived.Test.YtcajamgajchheaaDoorPostsW
import Derived.Test.YtcajamgajchheaaDoorPostsSide
namespace Go.Proofs.YtcajamgajchheaaDoor
open Go

def tailOkSS (ops : Array Oper) (n : Nat) (sd : Nat → Bool) : Bool := (List.range ops.size).all fun i => decide (i < n) || (List.range n).all fun j => sd j || reach ops ops.size i j
def sideOk (ops : Array Oper) (n : Nat) (sd : Nat → Bool) : Bool := (List.range n).all fun f => !sd f || match ops[f]? with | none => true | some o => o.guard.isNone && Region.free .any ops (depsOf ops f) f
theorem sideOk_at {ops : Array Oper} {n : Nat} {sd : Nat → Bool} (h : sideOk ops n sd = true) {f : Nat} (hs : sd f = true) (hf : f < n) {o : Oper} (ho : ops[f]? = some o) : o.guard = none ∧ Region.free .any ops (depsOf ops f) f = true := by
  simp only [sideOk, List.all_eq_true, List.mem_range] at h
  have := h f hf
  rw [hs, ho] at this
  simp only [Bool.not_true, Bool.false_or, Bool.and_eq_true, Option.isNone_iff_eq_none] at this
  exact this
section
variable {P : Program} {ops : Array Oper} {Q : Exit → Act → World → Prop} {R Rn : World → World → Prop} {F : Nat → Value → World → Prop} {sl : List (Option Nat)} {D : List Bool} {a0 : Act} {w0 : World}
theorem posts_sideW (sd : Nat → Bool) (i0 : Nat) (lt er : Nat → Bool) (n : Nat) (hn : n ≤ ops.size) (htl : tailOkSS ops n sd = true) (hside : sideOk ops n sd = true) (hns : Region.noSelect ops = true) (hQ : ∀ d c v a w, Q (.panic c) (a.put d v) w → Q (.panic c) a w)
    (hpure : ∀ f of, sd f = true → ops[f]? = some of → ∀ u w, R w0 w → deps F sl u w of.after.toList → ∃ v, (∀ w', (execOp (mixA D a0 u).eval of).run P w' = .ok (.value v) w') ∧ F f (match of.dst with | some _ => v | none => undef) w) (hok : regionOkN ops n sl D = true) (hD : D.length = a0.tmps.size) (hlate : lateOk ops i0 lt = true) (hearly : earlyOk ops i0 er = true) (hrr : ∀ w, Rn w w) (hrt : ∀ {a b c}, R a b → R b c → R a c) (hnt : ∀ {a b c}, Rn a b → Rn b c → Rn a c) (hsub : ∀ {a b}, Rn a b → R a b) (hF : ∀ i, lt i = false → ∀ v w w', R w w' → F i v w → F i v w') (hFn : ∀ i v w w', Rn w w' → F i v w → F i v w')
    (hs : StepsW P R Rn i0 er F sl (mixA D a0) w0 0 (ops.toList.take n)) (hend : ∀ u w, R w0 w → (∀ i, i < n → F i (uval sl u i) w) → wpAny P .any ops Q (ops.size - n) (listedN n ops.size) (mixA D a0 u) w) :
    ∀ (fuel : Nat) (listed : Array Bool) (u : Nat → Value) (w : World), listed.size = ops.size → listed.toList.count false = fuel → (∀ i, n ≤ i → i < ops.size → listed.getD i false = false) → (∀ i, listed.getD i false = true → ∀ o, ops[i]? = some o → ∀ e ∈ o.after, Region.binds .any e = true → listed.getD e.on false = true) → R w0 w → (listed.getD i0 false = false → Rn w0 w) →
      (∀ i, listed.getD i false = true → F i (uval sl u i) w) → wpAny P .any ops Q fuel listed (mixA D a0 u) w := by
  simp only [regionOkN, Bool.and_eq_true, beq_iff_eq, List.all_eq_true] at hok
  obtain ⟨⟨⟨⟨hsl, hnd⟩, hDs⟩, hgs⟩, hac⟩ := hok
  have hacyc : ∀ i, i < ops.size → ∀ o, ops[i]? = some o → ∀ e ∈ o.after, Region.binds .any e = true → e.on < i := fun i hi o ho e he hb => by
    have := hac i (List.mem_range.2 hi)
    simp only [ho, List.all_eq_true] at this
    have := this e (Array.mem_toList_iff.2 he)
    simpa [hb] using this
  have full : ∀ (listed : Array Bool) (fuel : Nat) (u : Nat → Value) (w : World), listed.size = ops.size → listed.toList.count false = fuel → (∀ i, n ≤ i → i < ops.size → listed.getD i false = false) → R w0 w → (listed.getD i0 false = false → Rn w0 w) → (∀ i, listed.getD i false = true → F i (uval sl u i) w) →
      (∀ i, i < n → listed.getD i false = true) → wpAny P .any ops Q fuel listed (mixA D a0 u) w := by
    intro listed fuel u w hsz hc htail hR _ hp hall
    have e : listed = listedN n ops.size := by
      apply Array.ext
      · simp [listedN, hsz]; omega
      · intro i h1 h2
        have hi : i < ops.size := by omega
        simp only [listedN, List.getElem_toArray]
        rcases Nat.lt_or_ge i n with hlt | hge
        · have := hall i hlt
          simp [h1] at this
          rw [this, List.getElem_append_left (by simpa using hlt)]
          simp
        · have := htail i hge hi
          simp [h1] at this
          rw [this, List.getElem_append_right (by simpa using hge)]
          simp
    have e2 : fuel = ops.size - n := by
      rw [← hc, e]
      simp [listedN, List.count_replicate]
    subst e2
    rw [e]
    exact hend u w hR fun i hi => hp i (hall i hi)
  intro fuel
  induction fuel with
  | zero =>
    intro listed u w hsz hc htail hcl hR hRn hp
    have hall : ∀ i, i < ops.size → listed.getD i false = true := fun i hi => by
      rw [List.count_eq_zero] at hc
      have hlt : i < listed.size := by omega
      cases hb : listed[i] with
      | true => simp [hlt, hb]
      | false => exact absurd (by rw [← hb]; exact Array.getElem_mem_toList hlt) hc
    exact full listed 0 u w hsz hc htail hR hRn hp fun i hi => hall i (by omega)
  | succ fuel ih =>
    intro listed u w hsz hc htail hcl hR hRn hp
    by_cases hfull : ∀ i, i < n → listed.getD i false = true
    · exact full listed _ u w hsz hc htail hR hRn hp hfull
    have key : ∀ (i : Nat) (o : Oper), ops[i]? = some o → i < n → listed.getD i true = false → (∀ e ∈ o.after, Region.binds .any e = true → listed.getD e.on false = true) → ∀ (v : Value) (w' : World), (bif Nat.beq i i0 then R else Rn) w w' → F i (match o.dst with | some _ => v | none => undef) w' → wpAny P .any ops Q fuel (listed.setIfInBounds i true) ((mixA D a0 u).put o.dst v) w' := by
      intro i o ho hin hun hall
      have hunF : listed.getD i false = false := by
        cases h : listed[i]? with
        | none => simp [h]
        | some b => simp [h] at hun ⊢; exact hun
      have hslo := sl_atN hsl hin ho
      have hlt : i < listed.size := by omega
      have hlt0 := hlt
      have hlf : listed[i] = false := by simpa [hlt] using hun
      have hcnt : (listed.setIfInBounds i true).toList.count false = fuel := by
        have e1 : (listed.setIfInBounds i true).toList = listed.toList.set i true := by simp
        have e2 := List.count_set (l := listed.toList) (a := true) (b := false) (i := i) (by simpa using hlt)
        rw [e1, e2]
        have e3 : 0 < listed.toList.count false := List.count_pos_iff.2 (by rw [← hlf]; exact Array.getElem_mem_toList hlt)
        have e4 : (listed.toList[i]'(by simpa using hlt) == false) = true := by simp [hlf]
        have e5 : (true == false) = false := rfl
        simp only [e4, e5, if_true, Bool.false_eq_true, if_false] at e2 ⊢
        omega
      have htail' : ∀ k, n ≤ k → k < ops.size → (listed.setIfInBounds i true).getD k false = false := fun k h1 h2 => by rw [getD_set_ne false (by omega)]; exact htail k h1 h2
      have hcl' : ∀ k, (listed.setIfInBounds i true).getD k false = true → ∀ o, ops[k]? = some o → ∀ e ∈ o.after, Region.binds .any e = true → (listed.setIfInBounds i true).getD e.on false = true := fun k hk o' ho' e he hb => by
        by_cases hki : k = i
        · subst hki
          obtain rfl : o = o' := Option.some.inj (ho.symm.trans ho')
          exact getD_set_true (hall e he hb)
        · rw [getD_set_ne false (Ne.symm hki)] at hk
          exact getD_set_true (hcl k hk o' ho' e he hb)
      have hkeep : ∀ k v w', (bif Nat.beq i i0 then R else Rn) w w' → k ≠ i → listed.getD k false = true → F k v w → F k v w' := fun k v w' hr' hki hk hf => by
        by_cases hii : i = i0
        · subst hii
          rw [Nat.beq_refl, cond_true] at hr'
          refine hF k ?_ _ _ _ hr' hf
          cases hb : lt k with
          | false => rfl
          | true =>
            exfalso
            have hkl : k < ops.size := by
              rcases Nat.lt_or_ge k ops.size with h | h
              · exact h
              · simp [show ¬ k < listed.size by omega] at hk
            have h2 := lateOk_at hlate hb hkl
            rcases h2 with h2 | h2
            · exact hki h2
            · have := reach_listed hcl ops.size k i (fun o' ho' e he hb => hcl k hk o' ho' e he hb) h2
              rw [hunF] at this
              cases this
        · have hbq : Nat.beq i i0 = false := by
            cases h : Nat.beq i i0 with
            | false => rfl
            | true => exact absurd (Nat.eq_of_beq_eq_true h) hii
          rw [hbq, cond_false] at hr'
          exact hFn k _ _ _ hr' hf
      have hstepR : ∀ {w'}, (bif Nat.beq i i0 then R else Rn) w w' → R w w' := fun {w'} h => by
        cases hb : Nat.beq i i0 with
        | false => rw [hb] at h; exact hsub h
        | true => rw [hb] at h; exact h
      have hstepN : ∀ {w'}, (bif Nat.beq i i0 then R else Rn) w w' → ((listed.setIfInBounds i true).getD i0 false = false → Rn w0 w') := fun {w'} h hl => by
        by_cases hii : i = i0
        · subst hii
          simp [hlt0] at hl
        · rw [getD_set_ne false hii] at hl
          have hbq : Nat.beq i i0 = false := by
            cases h : Nat.beq i i0 with
            | false => rfl
            | true => exact absurd (Nat.eq_of_beq_eq_true h) hii
          rw [hbq, cond_false] at h
          exact hnt (hRn hl) h
      intro v w' hr' hfi
      cases hd : o.dst with
      | none =>
        rw [hd] at hfi hslo
        refine ih _ u w' (by simpa using hsz) hcnt htail' hcl' (hrt hR (hstepR hr')) (hstepN hr') (fun k hk => ?_)
        · by_cases hki : k = i
          · subst hki
            have : uval sl u k = undef := by simp only [uval, hslo]
            rw [this]; exact hfi
          · exact hkeep k _ _ hr' hki (by rw [getD_set_ne false (Ne.symm hki)] at hk; exact hk) (hp k (by rw [getD_set_ne false (Ne.symm hki)] at hk; exact hk))
      | some d =>
        rw [hd] at hfi hslo
        have hDd : D.getD d false = true := hDs d (by
          rw [List.mem_filterMap]
          refine ⟨some d, ?_, rfl⟩
          rw [List.getD_eq_getElem?_getD] at hslo
          cases hx : sl[i]? with
          | none => simp [hx] at hslo
          | some y => simp [hx] at hslo; subst hslo; exact List.mem_of_getElem? hx)
        have hput : (mixA D a0 u).put (some d) v = mixA D a0 (fun k => if k = d then v else u k) := by
          have hm := mixL_set D a0.tmps.toList u 0 d v (by simpa using hD) hDd
          simp only [Nat.zero_add] at hm
          simp only [mixA, Act.put, List.setIfInBounds_toArray, hm]
        rw [hput]
        refine ih _ _ w' (by simpa using hsz) hcnt htail' hcl' (hrt hR (hstepR hr')) (hstepN hr') (fun k hk => ?_)
        · by_cases hki : k = i
          · subst hki
            have : uval sl (fun k => if k = d then v else u k) k = v := by simp only [uval, hslo, if_true]
            rw [this]; exact hfi
          · have hk' := hp k (by rw [getD_set_ne false (Ne.symm hki)] at hk; exact hk)
            have : uval sl (fun k => if k = d then v else u k) k = uval sl u k := by
              unfold uval
              cases hx : sl.getD k none with
              | none => rfl
              | some d' =>
                have : d' ≠ d := fun e => hki (nodup_ne hnd (by rw [hx, e]) hslo)
                simp only [if_neg this]
            rw [this]
            exact hkeep k _ _ hr' hki (by rw [getD_set_ne false (Ne.symm hki)] at hk; exact hk) hk'
    by_cases hx : ∃ f of, ops[f]? = some of ∧ f < n ∧ sd f = true ∧ listed.getD f true = false ∧ (∀ e ∈ of.after, Region.binds .any e = true → listed.getD e.on false = true)
    · obtain ⟨f, of, hof, hfn, hsf, hfu, hfd⟩ := hx
      obtain ⟨hfg, hfr0⟩ := sideOk_at hside hsf hfn hof
      obtain ⟨v, hrun, hFf⟩ := hpure f of hsf hof u w hR (deps_of fun e he hb => hp e.on (hfd e (by simpa using he) hb))
      refine wpAny_take (v := v) hof hns (free_of hfr0 (fun j hj => ?_)) ?_ (fun c a w => hQ of.dst c v a w) (.inl ⟨by simp [Region.wanted, hfg], hrun⟩) (key f of hof hfn hfu hfd v w ?_ hFf)
      · exact reach_listed hcl ops.size f j (fun o' ho' e he hb => by obtain rfl : of = o' := Option.some.inj (hof.symm.trans ho'); exact hfd e he hb) hj
      · rw [List.contains_iff_mem]
        exact mem_ready.2 ⟨hfu, of, hof, hfd⟩
      · cases Nat.beq f i0 with
        | false => exact hrr w
        | true => exact hsub (hrr w)
    have hne : Region.ready .any ops listed ≠ [] := fun hr => hfull fun i => by
      induction i using Nat.strongRecOn with
      | ind i ihi =>
        intro hi
        cases hl : listed.getD i false with
        | true => rfl
        | false =>
          exfalso
          have hlt : i < listed.size := by omega
          have hi' : i < ops.size := by omega
          have : i ∈ Region.ready .any ops listed := mem_ready.2 ⟨by simp [hlt] at hl ⊢; exact hl, ops[i], by simp [hi'], fun e he hb => ihi e.on (hacyc i hi' _ (by simp [hi']) e he hb) (by have := hacyc i hi' _ (by simp [hi']) e he hb; omega)⟩
          rw [hr] at this
          cases this
    refine ⟨fun hr => absurd hr hne, fun i hi => ?_⟩
    obtain ⟨hun, o, ho, hall⟩ := mem_ready.1 hi
    have hunF : listed.getD i false = false := by
      cases h : listed[i]? with
      | none => simp [h]
      | some b => simp [h] at hun ⊢; exact hun
    have hilt := (Array.getElem?_eq_some_iff.1 ho).1
    have hin : i < n := by
      rcases Nat.lt_or_ge i n with h | h
      · exact h
      · exfalso
        have hlis : ∀ j, j < n → sd j = false → listed.getD j false = true := fun j hj hjf => by
          have hre : reach ops ops.size i j = true := by
            simp only [tailOkSS, List.all_eq_true, List.mem_range] at htl
            have := htl i hilt
            simp only [Bool.or_eq_true, decide_eq_true_eq, List.all_eq_true, List.mem_range] at this
            rcases this with h' | h'
            · omega
            · rcases h' j hj with h2 | h2
              · rw [hjf] at h2; cases h2
              · exact h2
          exact reach_listed hcl ops.size i j (fun o' ho' e he hb => by obtain rfl : o = o' := Option.some.inj (ho.symm.trans ho'); exact hall e he hb) hre
        apply hfull
        intro j
        induction j using Nat.strongRecOn with
        | ind j ihj =>
          intro hj
          cases hs : sd j with
          | false => exact hlis j hj hs
          | true =>
            cases hl : listed.getD j false with
            | true => rfl
            | false =>
              exfalso
              have hjl : j < listed.size := by omega
              have hjo : j < ops.size := by omega
              refine hx ⟨j, ops[j], by simp [hjo], hj, hs, by simp [hjl] at hl ⊢; exact hl, fun e he hb => ?_⟩
              have hlt := hacyc j hjo ops[j] (by simp [hjo]) e he hb
              exact ihj e.on hlt (by omega)
    have he0 : er i = true → listed.getD i0 false = false := fun e => by
      rcases earlyOk_at hearly e hilt with h | h
      · rw [← h]; exact hunF
      · cases hl : listed.getD i0 false with
        | false => rfl
        | true =>
          have := reach_listed hcl ops.size i0 i (fun o' ho' e he hb => hcl i0 hl o' ho' e he hb) h
          rw [hunF] at this
          cases this
    have hstep := hs.at (i := i) (o := o) (by rw [List.getElem?_take_of_lt hin]; simpa using ho) u w hR (fun e => hRn (he0 (by rw [Nat.zero_add] at e; exact e))) (deps_of fun e he hb => hp e.on (hall e (by simpa using he) hb))
    rw [Nat.zero_add] at hstep
    have next := key i o ho hin hun hall
    have hslo := sl_atN hsl hin ho
    -- the guard
    unfold wpOp
    simp only [ho]
    cases hg : o.guard with
    | none =>
      have hw : Region.wanted o (yielded ops (mixA D a0 u).tmps) = true := by simp [Region.wanted, hg]
      rw [if_pos hw]
      simp only [StepOk, hg] at hstep
      exact .inl (hstep _ _ fun v w' h => next v w' h.1 h.2)
    | some gb =>
      obtain ⟨g, b⟩ := gb
      simp only [StepOk, hg] at hstep
      have hgsome := hgs o (List.mem_of_getElem? (i := i) (by rw [List.getElem?_take_of_lt hin]; simpa using ho))
      simp only [hg] at hgsome
      obtain ⟨gs, hgs'⟩ := Option.isSome_iff_exists.1 hgsome
      have hDg : D.getD gs false = true := hDs gs (by
        rw [List.mem_filterMap]
        refine ⟨some gs, ?_, rfl⟩
        rw [List.getD_eq_getElem?_getD] at hgs'
        cases hx : sl[g]? with
        | none => simp [hx] at hgs'
        | some y => simp [hx] at hgs'; subst hgs'; exact List.mem_of_getElem? hx)
      have hgo : ((ops[g]?).bind (·.dst)) = some gs := by
        cases hog : ops[g]? with
        | none =>
          rw [← hsl, List.getD_eq_getElem?_getD, List.getElem?_map] at hgs'
          have : (ops.toList.take n)[g]? = none := by
            rw [List.getElem?_take]
            split
            · simpa using hog
            · rfl
          simp [this] at hgs'
        | some og =>
          have hgn : g < n := by
            rcases Nat.lt_or_ge g n with h | h
            · exact h
            · exfalso
              rw [← hsl, List.getD_eq_getElem?_getD, List.getElem?_map, List.getElem?_take, if_neg (by omega)] at hgs'
              simp at hgs'
          have := sl_atN hsl hgn hog; rw [hgs'] at this; simpa using this.symm
      have hy : yielded ops (mixA D a0 u).tmps g = match u gs with | .bool b => some b | _ => none := by
        unfold yielded
        rw [hgo]
        have hm := mixL_get D a0.tmps.toList u 0 gs (by simpa using hD) hDg
        rw [Nat.zero_add] at hm
        simp only [mixA, Option.bind_some, List.getElem?_toArray, hm]
        cases u gs <;> rfl
      have huv : uval sl u g = u gs := by simp only [uval, hgs']
      rw [huv] at hstep
      by_cases hb : u gs = .bool b
      · have hw : Region.wanted o (yielded ops (mixA D a0 u).tmps) = true := by simp [Region.wanted, hg, hy, hb]
        rw [if_pos hw]
        exact .inl (hstep.1 hb _ _ fun v w' h => next v w' h.1 h.2)
      · have hw : ¬ Region.wanted o (yielded ops (mixA D a0 u).tmps) = true := by
          simp only [Region.wanted, hg, hy]
          intro h
          apply hb
          revert h
          cases u gs <;> simp
        rw [if_neg hw]
        refine next undef w ?_ ?_
        · cases hb : Nat.beq i i0 with
          | false => exact hrr w
          | true => exact hsub (hrr w)
        · have := hstep.2 hb
          cases o.dst <;> exact this
theorem wp_region_sideW {id : Nat} (sd : Nat → Bool) (i0 : Nat) (lt er : Nat → Bool) (n : Nat) (sl : List (Option Nat)) (D : List Bool) (R Rn : World → World → Prop) (F : Nat → Value → World → Prop) (hm : P.follows .mixedOrders = true) (hok : regionOkN ops n sl D = true) (htl : (decide (n ≤ ops.size) && tailOkSS ops n sd) = true) (hside : sideOk ops n sd = true) (hns : Region.noSelect ops = true) (hQ : ∀ d c v a w, Q (.panic c) (a.put d v) w → Q (.panic c) a w)
    (hpure : ∀ f of, sd f = true → ops[f]? = some of → ∀ u w, R w0.drew w → deps F sl u w of.after.toList → ∃ v, (∀ w', (execOp (mixA D a0 u).eval of).run P w' = .ok (.value v) w') ∧ F f (match of.dst with | some _ => v | none => undef) w) (hD : D.length = a0.tmps.size)
    (hlate : lateOk ops i0 lt = true) (hearly : earlyOk ops i0 er = true) (hrr : ∀ w, Rn w w) (hrt : ∀ {a b c}, R a b → R b c → R a c) (hnt : ∀ {a b c}, Rn a b → Rn b c → Rn a c) (hsub : ∀ {a b}, Rn a b → R a b) (hF : ∀ i, lt i = false → ∀ v w w', R w w' → F i v w → F i v w') (hFn : ∀ i v w w', Rn w w' → F i v w → F i v w')
    (hs : StepsW P R Rn i0 er F sl (mixA D a0) w0.drew 0 (ops.toList.take n)) (hend : ∀ u w, R w0.drew w → (∀ i, i < n → F i (uval sl u i) w) → wpAny P .any ops Q (ops.size - n) (listedN n ops.size) (mixA D a0 u) w) : (Code.region id ops true).wp P Q a0 w0 := by
  refine wp_region_any hm ?_
  rw [Bool.and_eq_true, decide_eq_true_eq] at htl
  have h0 : mixA D a0 (fun t => a0.tmps.getD t undef) = a0 := by
    unfold mixA
    rw [mixL_self D a0.tmps.toList _ 0 fun k hk => by simp]
  have hrep : ∀ i, (Array.replicate ops.size false).getD i false = false := fun i => by by_cases h : i < ops.size <;> simp [h]
  have := posts_sideW (P := P) (ops := ops) (Q := Q) (R := R) (Rn := Rn) (F := F) (w0 := w0.drew) sd i0 lt er n htl.1 htl.2 hside hns hQ hpure hok hD hlate hearly hrr hrt hnt hsub hF hFn hs hend ops.size (Array.replicate ops.size false) (fun t => a0.tmps.getD t undef) w0.drew (by simp) (by simp) (fun i _ _ => hrep i) (fun i hi => by rw [hrep] at hi; cases hi) (hsub (hrr _)) (fun _ => hrr _) (fun i hi => by rw [hrep] at hi; cases hi)
  rw [h0] at this
  exact this
end
end Go.Proofs.YtcajamgajchheaaDoor
