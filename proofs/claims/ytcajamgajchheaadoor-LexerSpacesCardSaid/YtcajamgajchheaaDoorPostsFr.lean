/-
  A REGION THAT DRAWS ITS ORDER, BY POSTS, WITH A TAIL: operations that nothing of the tail waits for (moves) are taken first.
-/
import Derived.Test.YtcajamgajchheaaDoorPostsOps
import Derived.Test.YtcajamgajchheaaDoorPostsTail
namespace Go.Proofs.YtcajamgajchheaaDoor
open Go

/-- As tailOk, but for the operations pre. -/
def tailOkF (ops : Array Oper) (n : Nat) (pre : List Nat) : Bool := (List.range ops.size).all fun i => decide (i < n) || (List.range n).all fun j => pre.contains j || reach ops ops.size i j
section
variable {P : Program} {ops : Array Oper} {Q : Exit → Act → World → Prop} {R : World → World → Prop} {F : Nat → Value → World → Prop} {sl : List (Option Nat)} {D : List Bool} {a0 : Act} {w0 : World}
theorem posts_free (pre : List Nat) (n : Nat) (hn : n ≤ ops.size) (htl : tailOkF ops n pre = true) (hok : regionOkN ops n sl D = true) (hD : D.length = a0.tmps.size) (hrr : ∀ w, R w w) (hrt : ∀ {a b c}, R a b → R b c → R a c) (hF : ∀ i v w w', R w w' → F i v w → F i v w')
    (hs : Steps P R F sl (mixA D a0) w0 0 (ops.toList.take n)) (hend : ∀ u w, R w0 w → (∀ i, i < n → F i (uval sl u i) w) → wpAny P .any ops Q (ops.size - n) (listedN n ops.size) (mixA D a0 u) w) :
    ∀ (fuel : Nat) (listed : Array Bool) (u : Nat → Value) (w : World), listed.size = ops.size → listed.toList.count false = fuel → (∀ i, n ≤ i → i < ops.size → listed.getD i false = false) → (∀ i, listed.getD i false = true → ∀ o, ops[i]? = some o → ∀ e ∈ o.after, Region.binds .any e = true → listed.getD e.on false = true) → R w0 w → (∀ j ∈ pre, listed.getD j false = true) →
      (∀ i, listed.getD i false = true → F i (uval sl u i) w) → wpAny P .any ops Q fuel listed (mixA D a0 u) w := by
  simp only [regionOkN, Bool.and_eq_true, beq_iff_eq, List.all_eq_true] at hok
  obtain ⟨⟨⟨⟨hsl, hnd⟩, hDs⟩, hgs⟩, hac⟩ := hok
  have hacyc : ∀ i, i < ops.size → ∀ o, ops[i]? = some o → ∀ e ∈ o.after, Region.binds .any e = true → e.on < i := fun i hi o ho e he hb => by
    have := hac i (List.mem_range.2 hi)
    simp only [ho, List.all_eq_true] at this
    have := this e (Array.mem_toList_iff.2 he)
    simpa [hb] using this
  have full : ∀ (listed : Array Bool) (fuel : Nat) (u : Nat → Value) (w : World), listed.size = ops.size → listed.toList.count false = fuel → (∀ i, n ≤ i → i < ops.size → listed.getD i false = false) → R w0 w → (∀ i, listed.getD i false = true → F i (uval sl u i) w) →
      (∀ i, i < n → listed.getD i false = true) → wpAny P .any ops Q fuel listed (mixA D a0 u) w := by
    intro listed fuel u w hsz hc htail hR hp hall
    have e : listed = listedN n ops.size := by
      apply Array.ext
      · simp [listedN, hsz]; omega
      · intro i h1 h2
        have hi : i < ops.size := by omega
        simp only [listedN, List.getElem_toArray]
        rcases Nat.lt_or_ge i n with hlt | hge
        · have := hall i hlt
          simp [h1] at this
          rw [this, List.getElem_append_left (by simpa using hlt)]
          simp
        · have := htail i hge hi
          simp [h1] at this
          rw [this, List.getElem_append_right (by simpa using hge)]
          simp
    have e2 : fuel = ops.size - n := by
      rw [← hc, e]
      simp [listedN, List.count_replicate]
    subst e2
    rw [e]
    exact hend u w hR fun i hi => hp i (hall i hi)
  intro fuel
  induction fuel with
  | zero =>
    intro listed u w hsz hc htail hcl hR hpre hp
    have hall : ∀ i, i < ops.size → listed.getD i false = true := fun i hi => by
      rw [List.count_eq_zero] at hc
      have hlt : i < listed.size := by omega
      cases hb : listed[i] with
      | true => simp [hlt, hb]
      | false => exact absurd (by rw [← hb]; exact Array.getElem_mem_toList hlt) hc
    exact full listed 0 u w hsz hc htail hR hp fun i hi => hall i (by omega)
  | succ fuel ih =>
    intro listed u w hsz hc htail hcl hR hpre hp
    by_cases hfull : ∀ i, i < n → listed.getD i false = true
    · exact full listed _ u w hsz hc htail hR hp hfull
    have hne : Region.ready .any ops listed ≠ [] := fun hr => hfull fun i => by
      induction i using Nat.strongRecOn with
      | ind i ihi =>
        intro hi
        cases hl : listed.getD i false with
        | true => rfl
        | false =>
          exfalso
          have hlt : i < listed.size := by omega
          have hi' : i < ops.size := by omega
          have : i ∈ Region.ready .any ops listed := mem_ready.2 ⟨by simp [hlt] at hl ⊢; exact hl, ops[i], by simp [hi'], fun e he hb => ihi e.on (hacyc i hi' _ (by simp [hi']) e he hb) (by have := hacyc i hi' _ (by simp [hi']) e he hb; omega)⟩
          rw [hr] at this
          cases this
    refine ⟨fun hr => absurd hr hne, fun i hi => ?_⟩
    obtain ⟨hun, o, ho, hall⟩ := mem_ready.1 hi
    have hilt := (Array.getElem?_eq_some_iff.1 ho).1
    have hin : i < n := by
      rcases Nat.lt_or_ge i n with h | h
      · exact h
      · exfalso
        apply hfull
        intro j hj
        simp only [tailOkF, List.all_eq_true, List.mem_range] at htl
        have := htl i hilt
        simp only [Bool.or_eq_true, decide_eq_true_eq, List.all_eq_true, List.mem_range] at this
        rcases this with h' | h'
        · omega
        · rcases h' j hj with h2 | h2
          · exact hpre j (by simpa using h2)
          · exact reach_listed hcl ops.size i j (fun o' ho' e he hb => by obtain rfl : o = o' := Option.some.inj (ho.symm.trans ho'); exact hall e he hb) h2
    have hstep := hs.at (i := i) (o := o) (by rw [List.getElem?_take_of_lt hin]; simpa using ho) u w hR (deps_of fun e he hb => hp e.on (hall e (by simpa using he) hb))
    rw [Nat.zero_add] at hstep
    have hslo := sl_atN hsl hin ho
    have hlt : i < listed.size := by omega
    have hlf : listed[i] = false := by simpa [hlt] using hun
    have hcnt : (listed.setIfInBounds i true).toList.count false = fuel := by
      have e1 : (listed.setIfInBounds i true).toList = listed.toList.set i true := by simp
      have e2 := List.count_set (l := listed.toList) (a := true) (b := false) (i := i) (by simpa using hlt)
      rw [e1, e2]
      have e3 : 0 < listed.toList.count false := List.count_pos_iff.2 (by rw [← hlf]; exact Array.getElem_mem_toList hlt)
      have e4 : (listed.toList[i]'(by simpa using hlt) == false) = true := by simp [hlf]
      have e5 : (true == false) = false := rfl
      simp only [e4, e5, if_true, Bool.false_eq_true, if_false] at e2 ⊢
      omega
    have htail' : ∀ k, n ≤ k → k < ops.size → (listed.setIfInBounds i true).getD k false = false := fun k h1 h2 => by rw [getD_set_ne false (by omega)]; exact htail k h1 h2
    have hcl' : ∀ k, (listed.setIfInBounds i true).getD k false = true → ∀ o, ops[k]? = some o → ∀ e ∈ o.after, Region.binds .any e = true → (listed.setIfInBounds i true).getD e.on false = true := fun k hk o' ho' e he hb => by
      by_cases hki : k = i
      · subst hki
        obtain rfl : o = o' := Option.some.inj (ho.symm.trans ho')
        exact getD_set_true (hall e he hb)
      · rw [getD_set_ne false (Ne.symm hki)] at hk
        exact getD_set_true (hcl k hk o' ho' e he hb)
    -- the next state
    have next : ∀ (v : Value) (w' : World), R w w' → F i (match o.dst with | some _ => v | none => undef) w' → wpAny P .any ops Q fuel (listed.setIfInBounds i true) ((mixA D a0 u).put o.dst v) w' := by
      intro v w' hr' hfi
      cases hd : o.dst with
      | none =>
        rw [hd] at hfi hslo
        refine ih _ u w' (by simpa using hsz) hcnt htail' hcl' (hrt hR hr') (fun j hj => getD_set_true (hpre j hj)) (fun k hk => ?_)
        · by_cases hki : k = i
          · subst hki
            have : uval sl u k = undef := by simp only [uval, hslo]
            rw [this]; exact hfi
          · exact hF _ _ _ _ hr' (hp k (by rw [getD_set_ne false (Ne.symm hki)] at hk; exact hk))
      | some d =>
        rw [hd] at hfi hslo
        have hDd : D.getD d false = true := hDs d (by
          rw [List.mem_filterMap]
          refine ⟨some d, ?_, rfl⟩
          rw [List.getD_eq_getElem?_getD] at hslo
          cases hx : sl[i]? with
          | none => simp [hx] at hslo
          | some y => simp [hx] at hslo; subst hslo; exact List.mem_of_getElem? hx)
        have hput : (mixA D a0 u).put (some d) v = mixA D a0 (fun k => if k = d then v else u k) := by
          have hm := mixL_set D a0.tmps.toList u 0 d v (by simpa using hD) hDd
          simp only [Nat.zero_add] at hm
          simp only [mixA, Act.put, List.setIfInBounds_toArray, hm]
        rw [hput]
        refine ih _ _ w' (by simpa using hsz) hcnt htail' hcl' (hrt hR hr') (fun j hj => getD_set_true (hpre j hj)) (fun k hk => ?_)
        · by_cases hki : k = i
          · subst hki
            have : uval sl (fun k => if k = d then v else u k) k = v := by simp only [uval, hslo, if_true]
            rw [this]; exact hfi
          · have hk' := hp k (by rw [getD_set_ne false (Ne.symm hki)] at hk; exact hk)
            have : uval sl (fun k => if k = d then v else u k) k = uval sl u k := by
              unfold uval
              cases hx : sl.getD k none with
              | none => rfl
              | some d' =>
                have : d' ≠ d := fun e => hki (nodup_ne hnd (by rw [hx, e]) hslo)
                simp only [if_neg this]
            rw [this]
            exact hF _ _ _ _ hr' hk'
    -- the guard
    unfold wpOp
    simp only [ho]
    cases hg : o.guard with
    | none =>
      have hw : Region.wanted o (yielded ops (mixA D a0 u).tmps) = true := by simp [Region.wanted, hg]
      rw [if_pos hw]
      simp only [StepOk, hg] at hstep
      exact .inl (hstep _ _ fun v w' h => next v w' h.1 h.2)
    | some gb =>
      obtain ⟨g, b⟩ := gb
      simp only [StepOk, hg] at hstep
      have hgsome := hgs o (List.mem_of_getElem? (i := i) (by rw [List.getElem?_take_of_lt hin]; simpa using ho))
      simp only [hg] at hgsome
      obtain ⟨gs, hgs'⟩ := Option.isSome_iff_exists.1 hgsome
      have hDg : D.getD gs false = true := hDs gs (by
        rw [List.mem_filterMap]
        refine ⟨some gs, ?_, rfl⟩
        rw [List.getD_eq_getElem?_getD] at hgs'
        cases hx : sl[g]? with
        | none => simp [hx] at hgs'
        | some y => simp [hx] at hgs'; subst hgs'; exact List.mem_of_getElem? hx)
      have hgo : ((ops[g]?).bind (·.dst)) = some gs := by
        cases hog : ops[g]? with
        | none =>
          rw [← hsl, List.getD_eq_getElem?_getD, List.getElem?_map] at hgs'
          have : (ops.toList.take n)[g]? = none := by
            rw [List.getElem?_take]
            split
            · simpa using hog
            · rfl
          simp [this] at hgs'
        | some og =>
          have hgn : g < n := by
            rcases Nat.lt_or_ge g n with h | h
            · exact h
            · exfalso
              rw [← hsl, List.getD_eq_getElem?_getD, List.getElem?_map, List.getElem?_take, if_neg (by omega)] at hgs'
              simp at hgs'
          have := sl_atN hsl hgn hog; rw [hgs'] at this; simpa using this.symm
      have hy : yielded ops (mixA D a0 u).tmps g = match u gs with | .bool b => some b | _ => none := by
        unfold yielded
        rw [hgo]
        have hm := mixL_get D a0.tmps.toList u 0 gs (by simpa using hD) hDg
        rw [Nat.zero_add] at hm
        simp only [mixA, Option.bind_some, List.getElem?_toArray, hm]
        cases u gs <;> rfl
      have huv : uval sl u g = u gs := by simp only [uval, hgs']
      rw [huv] at hstep
      by_cases hb : u gs = .bool b
      · have hw : Region.wanted o (yielded ops (mixA D a0 u).tmps) = true := by simp [Region.wanted, hg, hy, hb]
        rw [if_pos hw]
        exact .inl (hstep.1 hb _ _ fun v w' h => next v w' h.1 h.2)
      · have hw : ¬ Region.wanted o (yielded ops (mixA D a0 u).tmps) = true := by
          simp only [Region.wanted, hg, hy]
          intro h
          apply hb
          revert h
          cases u gs <;> simp
        rw [if_neg hw]
        refine next undef w ?_ ?_
        · exact hrr w
        · have := hstep.2 hb
          cases o.dst <;> exact this
theorem count_set {l : Array Bool} {i : Nat} (hi : i < l.size) (h : l.getD i false = false) : (l.setIfInBounds i true).toList.count false + 1 = l.toList.count false := by
  have e1 : (l.setIfInBounds i true).toList = l.toList.set i true := by simp
  have e2 := List.count_set (l := l.toList) (a := true) (b := false) (i := i) (by simpa using hi)
  have hlf : l[i] = false := by simpa [hi] using h
  rw [e1, e2]
  have e3 : 0 < l.toList.count false := List.count_pos_iff.2 (by rw [← hlf]; exact Array.getElem_mem_toList hi)
  have e4 : (l.toList[i]'(by simpa using hi) == false) = true := by simp [hlf]
  have e5 : (true == false) = false := rfl
  simp only [e4, e5, if_true, Bool.false_eq_true, if_false] at e2 ⊢
  omega
/-- One move f is taken first. -/
theorem wp_region_free {id : Nat} (f x d : Nat) (v : Value) (n : Nat) (sl : List (Option Nat)) (D : List Bool) (R : World → World → Prop) (F : Nat → Value → World → Prop) (hm : P.follows .mixedOrders = true) (hok : regionOkN ops n sl D = true) (htl : (decide (n ≤ ops.size) && tailOkF ops n [f]) = true) (hD : D.length = a0.tmps.size)
    (hf : (match ops[f]? with | some o => (match o.op with | .move (.tmp y) => decide (y = x) | _ => false) && o.guard.isNone && (o.dst == some d) && o.after.isEmpty | none => false) = true) (hns : Region.noSelect ops = true)
    (hfree : Region.free .any ops (Array.replicate ops.size false) f = true) (hready : (Region.ready .any ops (Array.replicate ops.size false)).contains f = true) (hfn : f < n) (hv : slot a0 x = v) (hQ : ∀ c a w, Q (.panic c) (a.put (some d) v) w → Q (.panic c) a w)
    (hrr : ∀ w, R w w) (hrt : ∀ {a b c}, R a b → R b c → R a c) (hF : ∀ i v w w', R w w' → F i v w → F i v w') (hF0 : F f v w0.drew)
    (hs : Steps P R F sl (mixA D a0) w0.drew 0 (ops.toList.take n)) (hend : ∀ u w, R w0.drew w → (∀ i, i < n → F i (uval sl u i) w) → wpAny P .any ops Q (ops.size - n) (listedN n ops.size) (mixA D a0 u) w) : (Code.region id ops true).wp P Q a0 w0 := by
  refine wp_region_any hm ?_
  rw [Bool.and_eq_true, decide_eq_true_eq] at htl
  have h0 : mixA D a0 (fun t => a0.tmps.getD t undef) = a0 := by
    unfold mixA
    rw [mixL_self D a0.tmps.toList _ 0 fun k hk => by simp]
  have hrep : ∀ i, (Array.replicate ops.size false).getD i false = false := fun i => by by_cases h : i < ops.size <;> simp [h]
  cases hof : ops[f]? with
  | none => rw [hof] at hf; cases hf
  | some o =>
    rw [hof] at hf
    simp only [Bool.and_eq_true, beq_iff_eq] at hf
    obtain ⟨⟨⟨h1, h2⟩, h3⟩, h4⟩ := hf
    have hop : o.op = .move (.tmp x) := by
      cases ho : o.op <;> rw [ho] at h1 <;> try (cases h1; done)
      rename_i y
      cases y <;> try (cases h1; done)
      rw [of_decide_eq_true h1]
    have hg : o.guard = none := by simpa using h2
    have haf : o.after = #[] := by simpa using h4
    have hfl : f < ops.size := (Array.getElem?_eq_some_iff.1 hof).1
    obtain ⟨k, hk⟩ : ∃ k, ops.size = k + 1 := ⟨ops.size - 1, by omega⟩
    have hfu : ops.size = (Array.replicate ops.size false).toList.count false := by simp
    have hcs := count_set (l := Array.replicate ops.size false) (i := f) (by simpa using hfl) (hrep f)
    rw [← hfu] at hcs
    have hcs' : ((Array.replicate ops.size false).setIfInBounds f true).toList.count false = k := by omega
    clear hcs
    have hset : ∀ i, ((Array.replicate ops.size false).setIfInBounds f true).getD i false = true → i = f := fun i hi => by
      by_cases e : i = f
      · exact e
      · rw [getD_set_ne false (Ne.symm e), hrep] at hi
        cases hi
    have hsl : sl.getD f none = some d := by
      have hok' := hok
      simp only [regionOkN, Bool.and_eq_true, beq_iff_eq] at hok'
      rw [sl_atN hok'.1.1.1.1 hfn hof, h3]
    have hDd : D.getD d false = true := by
      have hok' := hok
      simp only [regionOkN, Bool.and_eq_true, List.all_eq_true] at hok'
      refine hok'.1.1.2 d ?_
      rw [List.mem_filterMap]
      refine ⟨some d, ?_, rfl⟩
      rw [List.getD_eq_getElem?_getD] at hsl
      cases hx : sl[f]? with
      | none => simp [hx] at hsl
      | some y => simp [hx] at hsl; subst hsl; exact List.mem_of_getElem? hx
    have hput : a0.put (some d) v = mixA D a0 (fun k => if k = d then v else a0.tmps.getD k undef) := by
      have hm2 := mixL_set D a0.tmps.toList (fun t => a0.tmps.getD t undef) 0 d v (by simpa using hD) hDd
      conv => lhs; rw [← h0]
      simp only [Nat.zero_add] at hm2
      simp only [mixA, Act.put, List.setIfInBounds_toArray, hm2]
    have goal := posts_free (P := P) (ops := ops) (Q := Q) [f] n htl.1 htl.2 hok hD hrr hrt hF hs hend k ((Array.replicate ops.size false).setIfInBounds f true) (fun k => if k = d then v else a0.tmps.getD k undef) w0.drew (by simp) hcs'
      (fun i hi _ => by rw [getD_set_ne false (by omega)]; exact hrep i)
      (fun i hi o' ho' e he _ => by
        obtain rfl := hset i hi
        obtain rfl : o = o' := Option.some.inj (hof.symm.trans ho')
        rw [haf] at he
        simp at he)
      (hrr _)
      (fun j hj => by
        obtain rfl : j = f := by simpa using hj
        simp [hfl])
      (fun i hi => by
        obtain rfl := hset i hi
        have : uval sl (fun k => if k = d then v else a0.tmps.getD k undef) i = v := by simp only [uval, hsl, if_true]
        rw [this]
        exact hF0)
    rw [← hput] at goal
    rw [hk] at hfree hready ⊢
    rw [hk] at goal
    refine wpAny_take (v := v) hof hns hfree hready (by rw [h3]; exact hQ) (.inl ⟨by simp [Region.wanted, hg], fun w => ?_⟩) (by rw [h3]; exact goal)
    rw [show execOp a0.eval o = pure (.value (a0.eval (.tmp x))) by unfold execOp; rw [hop], slot_eval, hv]
    rfl
end
end Go.Proofs.YtcajamgajchheaaDoor
