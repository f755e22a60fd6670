/-
  THE STATEMENTS OF LAYER 9 (remanence), WALKED: Contains.
-/
import Derived.Test.YteeecehfbmeohaaRmConOps
namespace Go.Proofs.Yteeecehfbmeohaa
open Go Go.RowKit Go.IntWalk
set_option linter.unusedSimpArgs false
set_option maxRecDepth 8000

/-- A round: time with power, then a measurement. -/
def rnd (s : Ck) (on l h : Int) (k : Bool) : Ck := if k then offc (offc s on on) l h else satc (offc s on on) l h
theorem Cg.rnd {s : Ck} {m : Int} (hc : Cg s m) (on l h : Int) (k : Bool) : Cg (Go.Proofs.Yteeecehfbmeohaa.rnd s on l h k) (m + 1) := by
  unfold Go.Proofs.Yteeecehfbmeohaa.rnd
  cases k
  · exact (hc.off _ _).sat _ _
  · exact ((hc.off _ _).off _ _).up (by omega)
/-- What holds of a clock whose reading was tl to th in epoch q, and the true time since is P. -/
def Jc (s : Ck) (tl th q P : Int) : Prop := q ≤ s.ep ∧ (s.ep = q → tl ≤ s.lo ∧ s.lo - tl ≤ P ∧ (s.hi < 1099511627776 → th ≤ s.hi ∧ P ≤ s.hi - th ∧ th - tl ≤ s.hi - s.lo))
theorem Jc.start (s : Ck) : Jc s s.lo s.hi s.ep 0 := ⟨Int.le_refl _, fun _ => ⟨Int.le_refl _, by omega, fun _ => ⟨Int.le_refl _, by omega, Int.le_refl _⟩⟩⟩
theorem Jc.rnd {s : Ck} {tl th q P on off l h : Int} {k : Bool} (hj : Jc s tl th q P) (hv : va s.lo s.hi = true) (hon : 0 ≤ on ∧ on ≤ 4294967295) (hm : va l h = true) (hk : k = true → l ≤ off ∧ off ≤ h) : Jc (rnd s on l h k) tl th q (P + (on + off)) := by
  have v := va_iff.1 hv
  have u := va_iff.1 hm
  obtain ⟨j0, j1⟩ := hj
  unfold Go.Proofs.Yteeecehfbmeohaa.rnd
  rw [offc_yes (va_self.2 (by omega) : va on on = true)]
  cases k with
  | false =>
    rw [satc_yes hm]
    refine ⟨by show q ≤ s.ep + 1; omega, fun he => ?_⟩
    have he : s.ep + 1 = q := he
    omega
  | true =>
    obtain ⟨k0, k1⟩ := hk rfl
    rw [offc_yes hm]
    refine ⟨j0, fun he => ?_⟩
    have he : s.ep = q := he
    obtain ⟨a, b, c⟩ := j1 he
    simp only [if_true]
    unfold cl
    refine ⟨by omega, by omega, fun hh => ?_⟩
    have c' := c (by omega)
    omega
theorem measure_round (e sa off : Int) (h : okR e sa = true) (ho : 0 ≤ off ∧ off ≤ 4294967295) : mer e sa off = 0 ∧ va (mlo e sa off) (mhi e sa off) = true ∧ (mok e sa off = true → mlo e sa off ≤ off ∧ off ≤ mhi e sa off) := by
  have h1 : okM e sa off = true := by rw [okM, h, Bool.true_and, decide_eq_true_eq]; omega
  obtain ⟨⟨x0, x1, y0, y1⟩, t0, t1⟩ := okM_iff.1 h1
  obtain ⟨m0, m1, d0, d1⟩ := dev_bd ⟨x0, x1⟩ ⟨t0, t1⟩
  unfold mer mlo mhi mok
  simp only [h1, if_true, Bool.true_and, decide_eq_true_eq]
  refine ⟨trivial, ?_, fun hk => ?_⟩
  · split
    · rw [va_iff]; omega
    · exact va_cl (by omega)
  · rw [if_neg (by omega), if_neg (by omega)]
    unfold cl
    omega
theorem age_round (x y p q : Int) (w : World) (h1 : va x y = true) (h2 : va p q = true) (h3 : p ≤ x ∧ x - p ≤ y - q) :
    Calls Try.prog 15 #[iv x y, iv p q] w fun e w' => e = .returned (.tuple #[iv (x - p) (y - q), .int .i64 0]) ∧ Grew w w' := by
  have a := va_iff.1 h1
  have b := va_iff.1 h2
  have h4 : va (x - p) (y - q) = true := va_iff.2 (by omega)
  have := age_any x y p q w
  rwa [show agl x y p q = x - p by simp [agl, okA, h1, h2, h4], show agh x y p q = y - q by simp [agh, okA, h1, h2, h4], show age x y p q = 0 by simp [age, okA, h1, h2, h4]] at this
abbrev pwc (a : Int × Int) : List Value := [.int .u32 a.1, .int .u32 a.2]
/-- What a round keeps. -/
structure Eg (w0 : World) (b T : Nat) (e sa : Int) (s : Ck) (tl th : Int) (w : World) : Prop where
  ck : Blk b (ckc s) 36 w
  tb : Blk T [.int .i64 tl, .int .i64 th] 25 w
  cf : Blk w0.heap.size [.int .i64 e, .int .i64 sa] 23 w
  grew : Grew w0 w
  far : w0.heap.size ≤ b
  farT : w0.heap.size ≤ T
theorem Eg.on {w0 w w' : World} {b T : Nat} {e sa tl th : Int} {s : Ck} (h : Eg w0 b T e sa s tl th w) (hg : Grew w w') : Eg w0 b T e sa s tl th w' := ⟨h.ck.grew hg, h.tb.grew hg, h.cf.grew hg, h.grew.trans hg, h.far, h.farT⟩
theorem Eg.put {w0 w : World} {b T : Nat} {e sa tl th : Int} {s : Ck} (h : Eg w0 b T e sa s tl th w) (x y : Int) : Eg w0 b T e sa s x y ((w.setCell ⟨T, 0, none⟩ (.int .i64 x)).setCell ⟨T, 1, none⟩ (.int .i64 y)) :=
  have n1 := h.ck.ne h.tb (by decide)
  have n2 := h.cf.ne h.tb (by decide)
  ⟨(h.ck.other T 0 _ n1).other T 1 _ n1, (h.tb.set 0 (.int .i64 x)).set 1 (.int .i64 y), (h.cf.other T 0 _ n2).other T 1 _ n2, (h.grew.sc h.farT 0 _).sc h.farT 1 _, h.far, h.farT⟩
theorem field_iv (x y : Int) (W : World) : Sem.run Try.prog (Instr.field 25 (iv x y) 1) W = .ok (.int .i64 y) W := by kernel_rfl
set_option maxHeartbeats 16000000 in
theorem contains_law (e sa : Int) (p : Option Addr) (m cap : Nat) (xs : List (Int × Int)) (fr : Int) (w0 : World) (hl : xs.length = m) (hx : RdL 2 pwc w0 p cap xs) (hok : ∀ x ∈ xs, (0 ≤ x.1 ∧ x.1 ≤ 4294967295) ∧ (0 ≤ x.2 ∧ x.2 ≤ 4294967295)) :
    Calls Try.prog 6 #[iv e sa, .slice p m cap, .int .i64 fr] w0 fun e w' => e = .returned (.bool true) ∧ Grew w0 w' := by
  subst hl
  have HX := Lib.hid hx
  have HO := Lib.hid hok
  have hcap := hx.cap
  have hmax := hx.max
  clear hx hok
  have HV : Hid (∀ W : World, Calls Try.prog 17 #[iv e sa] W fun e' w' => e' = .returned (.bool (okR e sa)) ∧ Grew W w') := Lib.hid fun W => rright_any e sa W
  have HB := Lib.hid (Grew.refl w0)
  have tk0 := Lib.hid trivial
  have tk1 := Lib.hid trivial
  have tk2 := Lib.hid trivial
  by_cases hin : okR e sa = true ∧ ((xs.length : Int) ≤ 60 ∧ 0 ≤ fr ∧ fr < xs.length)
  · obtain ⟨hr, hn, f0, f1⟩ := hin
    rw [hr] at HV
    have HOK := Lib.hid hr
    clear hr
    go_enter Try.func6, Try.ntmps6
    go_wp2_with (first
      | (go_at_call 13; clear tk0; generalize hW : World.alloc _ _ = V; have p : Blk (w0.heap.size) [.int .i64 e, .int .i64 sa] 23 V := (by subst hW; exact Blk.grew (w := (w0.alloc (.cells #[.int .i64 e, .int .i64 sa] 23))) (by simpa using Blk.new w0 [.int .i64 e, .int .i64 sa] 23) (by repeat (first | with_reducible exact Grew.refl _ | with_reducible refine Grew.alloc ?_ _ | with_reducible refine Grew.drw ?_ | with_reducible refine Grew.drwN ?_ _ | with_reducible refine Grew.sc ?_ (by first | omega | (simp <;> omega)) _ _))); have hv : Grew w0 V := (by subst hW; repeat (first | with_reducible exact Grew.refl _ | with_reducible refine Grew.alloc ?_ _ | with_reducible refine Grew.drw ?_ | with_reducible refine Grew.drwN ?_ _ | with_reducible refine Grew.sc ?_ (by first | omega | (simp <;> omega)) _ _)); clear hW; replace HB := Lib.hid (HB.out.trans hv); clear hv; (with_reducible refine (examples_any _).mono ?_); rintro e w1 ⟨rfl, g1⟩; replace p := p.grew g1; have p0 := p.cell 0; have p1 := p.cell 1; have pf := p.free; have pl := p.lt; simp only [List.getElem?_cons_zero, List.getElem?_cons_succ] at p0 p1 pl; replace HB := Lib.hid (HB.out.trans g1); clear g1)
      | (go_at_call 17; clear tk1; (with_reducible refine (HV.out _).mono ?_); rintro e w2 ⟨rfl, g1⟩; clear p0 p1 pf pl; replace p := p.grew g1; have p0 := p.cell 0; have p1 := p.cell 1; have pf := p.free; have pl := p.lt; simp only [List.getElem?_cons_zero, List.getElem?_cons_succ] at p0 p1 pl; replace HB := Lib.hid (HB.out.trans g1); clear g1)
      | (go_at_call 13; (with_reducible refine (examples_any _).mono ?_); rintro e w9 ⟨rfl, g1⟩; clear tk2; replace HB := Lib.hid (HB.out.trans g1); clear g1))
    have HP := Lib.hid p
    clear p0 p1 pf pl p
    obtain ⟨b, hb⟩ : ∃ b, b = w2.heap.size := ⟨_, rfl⟩
    rw [← hb]
    refine wp_at9 (fun W => Eg w0 b (b + 1) e sa ⟨0, 0, 0⟩ 0 0 W) ⟨Blk.grew (w := w2.alloc (.cells #[.int .i64 0, .int .i64 0, .int .i64 0] 36)) (by rw [hb]; exact Blk.new w2 _ _) ((Grew.refl _).alloc _), by rw [hb]; simpa using Blk.new (w2.alloc (.cells #[.int .i64 0, .int .i64 0, .int .i64 0] 36)) [.int .i64 0, .int .i64 0] 25, HP.out.grew (((Grew.refl _).alloc _).alloc _), (HB.out.alloc _).alloc _, by rw [hb]; exact HB.out.size, by have := HB.out.size; show w0.heap.size ≤ b + 1; omega⟩ ?_
    intro W hW
    have HS := Lib.hid hW
    generalize b + 1 = T at HS ⊢
    clear hb hW HB HP HV
    go_loopg [9, 10, 43] xs.length (fun gg ev pv iv wr => ∃ (k : Nat) (s : Ck) (tl th ep0 P : Int), ev = .int .i64 ep0 ∧ pv = .int .i64 P ∧ iv = .int .i64 (k : Int) ∧ k ≤ xs.length ∧ gg = xs.length - k ∧ Hid (Cg s k) ∧ (0 ≤ P ∧ P ≤ k * 8589934590) ∧ Hid (Eg w0 b T e sa s tl th wr) ∧ Hid (fr < k → Jc s tl th ep0 P ∧ va tl th = true))
    case atStart => exact ⟨0, ⟨0, 0, 0⟩, 0, 0, 0, 0, rfl, rfl, rfl, Nat.zero_le _, rfl, Lib.hid Cg.zero, by omega, HS, Lib.hid (fun h => absurd h (by omega))⟩
    clear HS
    case round =>
      obtain ⟨k, s, tl, th, ep0, P, rfl, rfl, rfl, hk, rfl, HG, ⟨P0, P1⟩, HR, HJ⟩ := hrel
      by_cases hlt : k < xs.length
      · obtain ⟨b', o', rfl, hcc⟩ := (HX.out.kept HR.out.grew).cells (by omega)
        have hc1 := hcc k xs[k] (by simp [hlt])
        have hlb : b' < wr.heap.size := World.block_lt_of_cell? _ _ (hc1 0 _ rfl)
        have HLT := Lib.hid (Nat.succ_le_of_lt hlt)
        obtain ⟨⟨on0, on1⟩, of0, of1⟩ := HO.out xs[k] (List.getElem_mem hlt)
        generalize xs[k] = pw at hc1 on0 on1 of0 of1
        obtain ⟨on, off⟩ := pw
        simp only at on0 on1 of0 of1
        have d0 : wr.cell? ⟨b', o' + k * 2, none⟩ = some (.int .u32 on) := by simpa using hc1 0 _ rfl
        have d1 : wr.cell? ⟨b', o' + k * 2 + 1, none⟩ = some (.int .u32 off) := hc1 1 _ rfl
        have hw1 : IntKind.i64.wrap on = on := IntWalk.i64_in _ (by omega)
        have hw2 : IntKind.i64.wrap off = off := IntWalk.i64_in _ (by omega)
        have hw3 : IntKind.i64.wrap (on + off) = on + off := IntWalk.i64_in _ (by omega)
        have HGU : Hid (Cg s 4611686018427387903) := Lib.hid (HG.out.up (by omega))
        have HVS := Lib.hid HG.out.v
        obtain ⟨m0, m1, m2⟩ := measure_round e sa off HOK.out ⟨of0, of1⟩
        have HM : Hid (∀ W : World, Calls Try.prog 10 #[iv e sa, .int .i64 off] W fun e' w' => e' = .returned (.tuple #[iv (mlo e sa off) (mhi e sa off), .bool (mok e sa off), .int .i64 0]) ∧ Grew W w') := Lib.hid fun W => m0 ▸ measure_any e sa off W
        clear m0
        generalize mlo e sa off = l at m1 m2 HM
        generalize mhi e sa off = h at m1 m2 HM
        generalize mok e sa off = kk at m2 HM
        have hon : va on on = true := va_self.2 (by omega)
        have HGX := Lib.hid (HGU.out.off on on)
        have HRUN : Hid (∀ W : World, Blk b (ckc s) 36 W → Calls Try.prog 20 #[.pointer (some ⟨b, 0, none⟩), .int .i64 on] W fun e' w' => e' = .returned (.int .i64 0) ∧ Blk b (ckc (offc s on on)) 36 w' ∧ Chg W w' (fun j => j = b)) := Lib.hid fun W h1 => er_yes hon ▸ run_any b s on W h1 (HGU.out.up (by omega))
        have HOFF : Hid (kk = true → ∀ W : World, Blk b (ckc (offc s on on)) 36 W → Calls Try.prog 21 #[.pointer (some ⟨b, 0, none⟩), iv l h] W fun e' w' => e' = .returned (.int .i64 0) ∧ Blk b (ckc (rnd s on l h kk)) 36 w' ∧ Chg W w' (fun j => j = b)) := Lib.hid fun e1 W h1 => by subst e1; exact er_yes m1 ▸ off_any b _ l h W h1 (HGX.out.up (by omega))
        have HSAT : Hid (kk = false → ∀ W : World, Blk b (ckc (offc s on on)) 36 W → Calls Try.prog 22 #[.pointer (some ⟨b, 0, none⟩), iv l h] W fun e' w' => e' = .returned (.int .i64 0) ∧ Blk b (ckc (rnd s on l h kk)) 36 w' ∧ Chg W w' (fun j => j = b)) := Lib.hid fun e1 W h1 => by subst e1; exact er_yes m1 ▸ sat_any b _ l h W h1 (HGX.out.up (by omega))
        have HGN : Hid (Cg (rnd s on l h kk) ((k + 1 : Nat) : Int)) := Lib.hid ((HG.out.rnd on l h kk).up (by omega))
        have HVZ := Lib.hid HGN.out.v
        have HJR : Hid (∀ tl th q P, Jc s tl th q P → Jc (rnd s on l h kk) tl th q (P + (on + off))) := Lib.hid fun tl th q P hj => hj.rnd HVS.out ⟨on0, on1⟩ m1 m2
        have HN : Hid (w0.heap.size ≤ b) := Lib.hid HR.out.far
        have HNT : Hid (w0.heap.size ≤ T) := Lib.hid HR.out.farT
        have HRA : Hid (∀ ob, Eg w0 b T e sa s tl th (wr.alloc ob)) := Lib.hid fun ob => HR.out.on ((Grew.refl wr).alloc ob)
        generalize rnd s on l h kk = z at HOFF HSAT HGN HVZ HJR
        generalize offc s on on = x at HRUN HOFF HSAT
        clear HG HGX hcc hc1 m1 m2 hon
        have hfin : IntKind.i64.wrap (P + (on + off)) = P + (on + off) := IntWalk.i64_in _ (by omega)
        have HPB : Hid (0 ≤ P + (on + off) ∧ P + (on + off) ≤ ((k + 1 : Nat) : Int) * 8589934590) := Lib.hid (by omega)
        by_cases h0 : (k : Int) = fr
        · have hkf : ((k : Int) == fr) = true := by simp [h0]
          have hk1 : fr ≤ (k : Int) := by omega
          have hk2 : (k : Int) ≤ fr := by omega
          clear h0
          have tka := Lib.hid trivial
          have HJ1 := Lib.hid (HJR.out s.lo s.hi s.ep 0 (Jc.start s))
          clear HJ HJR hfin HPB P0 P1
          go_wp2_with (first
            | (go_at_call 18; (with_reducible refine (now_any b s _ (HRA.out _).ck).mono ?_); rintro e w3 ⟨rfl, g3⟩; clear tka; have HR3 : Hid (Eg w0 b T e sa s tl th w3) := Lib.hid ((HRA.out _).on g3); have HA3 : Hid (Blk wr.heap.size [.int .u32 on, .int .u32 off] 52 w3) := Lib.hid (Blk.grew (Blk.new wr _ _) g3); clear g3; have t0 := HR3.out.tb.cell 0; have t1 := HR3.out.tb.cell 1; have tf := HR3.out.tb.free; have tl2 := HR3.out.tb.lt; simp only [List.getElem?_cons_zero, List.getElem?_cons_succ] at t0 t1)
            | (go_at_call 19; (with_reducible refine (epoch_st b s _ HR3.out.ck).mono ?_); rintro e w9 ⟨rfl, hw9⟩; subst w9))
          obtain ⟨A, hA⟩ : ∃ A, A = wr.heap.size := ⟨_, rfl⟩
          rw [← hA] at HA3 ⊢
          refine wp_at9 (fun W => Eg w0 b T e sa s s.lo s.hi W ∧ Blk A [.int .u32 on, .int .u32 off] 52 W) ⟨HR3.out.put _ _, have n1 := HA3.out.ne HR3.out.tb (by decide); (HA3.out.other T 0 _ n1).other T 1 _ n1⟩ ?_
          intro W hW
          have key : ∃ tl th ep0, Eg w0 b T e sa s tl th W ∧ ep0 = s.ep ∧ Jc z tl th ep0 (on + off) ∧ va tl th = true := ⟨s.lo, s.hi, s.ep, hW.1, rfl, by have := HJ1.out; rwa [Int.zero_add] at this, HVS.out⟩
          have HA := Lib.hid hW.2
          clear hW hA HRA HR HR3 HA3 HJ1 d0 d1 hlb t0 t1 tf tl2
          obtain ⟨tl, th, ep0, hE0, hep, hJ0⟩ := key
          have HE := Lib.hid hE0
          have HJN : Hid (fr < ((k + 1 : Nat) : Int) → Jc z tl th ep0 (on + off) ∧ va tl th = true) := Lib.hid fun _ => hJ0
          have HPB : Hid (0 ≤ on + off ∧ on + off ≤ ((k + 1 : Nat) : Int) * 8589934590) := Lib.hid (by omega)
          rw [← hep]
          clear hep hE0 hJ0
          have c0 : Atv ⟨w0.heap.size, 0, none⟩ (.int .i64 e) W.drew := (HE.out.cf.grew (Grew.refl _).drw).atv 0 rfl
          have c1 : Atv ⟨w0.heap.size, 1, none⟩ (.int .i64 sa) W.drew := (HE.out.cf.grew (Grew.refl _).drw).atv 1 rfl
          have a0 : Atv ⟨A, 0, none⟩ (.int .u32 on) W.drew := (HA.out.grew (Grew.refl _).drw).atv 0 rfl
          have a1 : Atv ⟨A, 1, none⟩ (.int .u32 off) W.drew := (HA.out.grew (Grew.refl _).drw).atv 1 rfl
          have hB : Grew W W.drew := (Grew.refl _).drw
          refine wp_sides [8, 9] 11 [some 54, some 55, some 56, some 57, some 58, some 59, some 53, some 60, some 61, some 62, some 13] [false, false, false, false, false, false, false, false, false, false, false, false, false, true, false, false, false, false, false, false, false, false, false, false, false, false, false, false, false, false, false, false, false, false, false, false, false, false, false, false, false, false, false, false, false, false, false, false, false, false, false, false, false, true, true, true, true, true, true, true, true, true, true, false, false, false, false, false, false, false, false, false, false, false, false, false, false, false, false, false, false, false, false, false, false, false, false, false, false, false, false, false, false, false, false, false, false, false, false, false, false, false, false, false, false, false, false, false, false, false, false, false, false, false, false, false, false, false, false, false, false, false] [fun v _ => v = .agg #[.int .i64 (e), .int .i64 (sa)], fun v _ => v = .agg #[.int .i64 (e), .int .i64 (sa)], fun v _ => v = .pointer (some ⟨A, 1, none⟩), fun v _ => v = .int .u32 (off), fun v _ => v = .int .i64 (off), fun v _ => v = .tuple #[.agg #[.int .i64 (l), .int .i64 (h)], .bool (kk), .int .i64 (0)], fun v _ => v = .tuple #[.agg #[.int .i64 (l), .int .i64 (h)], .bool (kk), .int .i64 (0)], fun v _ => v = .agg #[.int .i64 (l), .int .i64 (h)], fun v _ => v = .bool (kk), fun v _ => v = .int .i64 (0), fun v w => ∃ S, v = .pointer (some ⟨S, 0, none⟩) ∧ W.heap.size ≤ S ∧ Blk S [.int .i64 (0), .int .i64 (0)] 25 w] (by kernel_rfl) (by kernel_rfl) (by kernel_rfl) (by kernel_rfl) (by kernel_rfl) (fun d _ _ _ _ h => by cases d <;> exact h) rfl ?_ ⟨fun u w hR hd => ⟨.bool (kk), fun w1 => run_ext (ev (hd.1 rfl)) rfl, rfl⟩, fun u w hR hd => ⟨.int .i64 (0), fun w1 => run_ext (ev (hd.1 rfl)) rfl, rfl⟩, trivial⟩ ⟨?_, ?_, ?_, ?_, ?_, ?_, ?_, ?_, ?_, ?_, ?_, trivial⟩ ?_
          · exact ⟨fun _ _ _ _ h => h, fun _ _ _ _ h => h, fun _ _ _ _ h => h, fun _ _ _ _ h => h, fun _ _ _ _ h => h, fun _ _ _ _ h => h, fun _ _ _ _ h => h, fun _ _ _ _ h => h, fun _ _ _ _ h => h, fun _ _ _ _ h => h, fun _ _ _ hg ⟨S, h1, h2, h3⟩ => ⟨S, h1, h2, h3.grew hg⟩, trivial⟩
          · intro u w hR hd; exact rn_ld_23 (ev rfl) (c0.kept hR) (c1.kept hR) ⟨Grew.refl _, rfl⟩
          · intro u w hR hd; exact runs_c1 enters_own (ev (hd.1 rfl)) (callp (fun _ e => e) (own_any e sa _))
          · intro u w hR hd; exact rn_fld_52_1 (ev rfl) ⟨Grew.refl _, rfl⟩
          · intro u w hR hd; exact rn_ld_50 (ev (hd.1 rfl)) (a1.kept hR) ⟨Grew.refl _, rfl⟩
          · intro u w hR hd; exact rn_cv_50_2 (ev (hd.1 rfl)) (by omega) ⟨Grew.refl _, rfl⟩
          · intro u w hR hd; exact runs_c2 enters_mea (ev (hd.1 rfl)) (ev (hd.2.1 rfl)) (callp (fun _ e => e) (HM.out _))
          · intro u w hR hd; exact runs_mv (ev (hd.1 rfl)) ⟨Grew.refl _, rfl⟩
          · intro u w hR hd; exact rn_ext (ev (hd.1 rfl)) rfl ⟨Grew.refl _, rfl⟩
          · intro u w hR hd; exact rn_ext (ev (hd.1 rfl)) rfl ⟨Grew.refl _, rfl⟩
          · intro u w hR hd; exact rn_ext (ev (hd.1 rfl)) rfl ⟨Grew.refl _, rfl⟩
          · intro u w hR hd; exact rn_alloc_25 ⟨(Grew.refl _).alloc _, ⟨_, rfl, Nat.le_trans hB.size hR.size, heap_alloc_new _ _⟩⟩
          · intro uu w4 hR hp
            obtain ⟨S3, h5, hS3, hB3⟩ := hp 10 (by decide)
            have h60 : uu 60 = iv l h := hp 7 (by decide)
            have h61 : uu 61 = .bool kk := hp 8 (by decide)
            have h62 : uu 62 = .int .i64 0 := hp 9 (by decide)
            refine wpAny_one (i := 11) none (by kernel_rfl) rfl rfl rfl (rn_st_25 (S := S3) (o := 0) (ev h5) (ev h60) (hB3.atv 0 rfl) (hB3.atv 1 rfl) hB3.free ?_)
            refine wpAny_one (i := 12) (some 14) (by kernel_rfl) rfl rfl rfl (runs_mva (ev h61) ?_)
            refine wpAny_one (i := 13) (some 15) (by kernel_rfl) rfl rfl rfl (runs_mva (ev h62) ?_)
            refine wpAny_done (by kernel_rfl) ?_ _
            have hE4 := HE.out.on (hB.trans hR)
            have hA4 := HA.out.grew (hB.trans hR)
            have hlow : w0.heap.size ≤ S3 := Nat.le_trans HE.out.grew.size hS3
            have n1 := hE4.ck.ne hB3 (by decide)
            have n2 : T ≠ S3 := fun e => by have := hE4.tb.lt; have := HE.out.tb.lt; omega
            have n3 := hE4.cf.ne hB3 (by decide)
            have n4 := hA4.ne hB3 (by decide)
            have hk := (hE4.ck.other S3 0 (.int .i64 l) n1).other S3 1 (.int .i64 h) n1
            have ht := (hE4.tb.other S3 0 (.int .i64 l) n2).other S3 1 (.int .i64 h) n2
            have hc := (hE4.cf.other S3 0 (.int .i64 l) n3).other S3 1 (.int .i64 h) n3
            have ha := (hA4.other S3 0 (.int .i64 l) n4).other S3 1 (.int .i64 h) n4
            have hs := (hB3.set 0 (.int .i64 l)).set 1 (.int .i64 h)
            have HB := Lib.hid ((hE4.grew.sc hlow 0 (.int .i64 l)).sc hlow 1 (.int .i64 h))
            simp only [Act.put, mixA, mixL, cond_true, cond_false, List.setIfInBounds_toArray, List.set_cons_succ, List.set_cons_zero]
            simp only [List.set_cons_succ, List.set_cons_zero] at hs
            have h5' : uu 13 = .pointer (some ⟨S3, 0, none⟩) := h5
            rw [h5']
            generalize hW : World.setCell (World.setCell w4 _ _) _ _ = W1
            rw [hW] at hk ht hc ha HB
            have hs : Blk S3 [.int .i64 l, .int .i64 h] 25 W1 := hW ▸ hs
            clear hW hp h5 h5' h60 h61 h62 hB3 hE4 hA4 hlow n1 n2 n3 n4 hR c0 c1 a0 a1 hB HE HA hS3
            have ha0 := ha.cell 0
            have ha1 := ha.cell 1
            have haf := ha.free
            have hal := ha.lt
            simp only [List.getElem?_cons_zero, List.getElem?_cons_succ] at ha0 ha1 hal
            have hs0 := hs.cell 0
            have hs1 := hs.cell 1
            have hsf := hs.free
            have hsl := hs.lt
            simp only [List.getElem?_cons_zero, List.getElem?_cons_succ] at hs0 hs1 hsl
            have hk0 := hk.cell 0
            have hk1 := hk.cell 1
            have hk2 := hk.cell 2
            have hkf := hk.free
            have hkl := hk.lt
            simp only [List.getElem?_cons_zero, List.getElem?_cons_succ] at hk0 hk1 hk2 hkl
            have ht0 := ht.cell 0
            have ht1 := ht.cell 1
            have htf := ht.free
            have htl := ht.lt
            simp only [List.getElem?_cons_zero, List.getElem?_cons_succ] at ht0 ht1 htl
            have hc0 := hc.cell 0
            have hc1 := hc.cell 1
            have hcf := hc.free
            have hcl := hc.lt
            simp only [List.getElem?_cons_zero, List.getElem?_cons_succ] at hc0 hc1 hcl
            have tk0 := Lib.hid trivial
            have tk1 := Lib.hid trivial
            have tk2 := Lib.hid trivial
            have tk3 := Lib.hid trivial
            have tk4 := Lib.hid trivial
            have hfd : ∀ W : World, Sem.run Try.prog (Instr.field 25 (iv z.lo z.hi) 1) W = .ok (.int .i64 z.hi) W := field_iv _ _
            by_cases hE : z.ep = ep0
            · by_cases hM : z.hi < 1099511627776
              · have hJ := HJN.out (by omega)
                obtain ⟨-, hJ⟩ := hJ.1
                obtain ⟨y0, y1, hJ⟩ := hJ hE
                obtain ⟨y2, y3, y4⟩ := hJ hM
                go_wp2_with (first
                  | (go_at_call 20; clear tk0; (with_reducible refine (HRUN.out _ hk).mono ?_); rintro e w1 ⟨rfl, h1, c1⟩; clear ha0 ha1 haf hal; replace ha := ha.chg c1 (ha.ne hk (by decide)); clear hs0 hs1 hsf hsl; replace hs := hs.chg c1 (hs.ne hk (by decide)); clear hk0 hk1 hk2 hkf hkl; clear ht0 ht1 htf htl; replace ht := ht.chg c1 (ht.ne hk (by decide)); clear hc0 hc1 hcf hcl; replace hc := hc.chg c1 (hc.ne hk (by decide)); replace HB := Lib.hid (grew_lift HB.out c1 (newb _ _ HN.out));  clear hk c1; have hk := h1; clear h1; have ha0 := ha.cell 0; have ha1 := ha.cell 1; have haf := ha.free; have hal := ha.lt; simp only [List.getElem?_cons_zero, List.getElem?_cons_succ] at ha0 ha1 hal; have hs0 := hs.cell 0; have hs1 := hs.cell 1; have hsf := hs.free; have hsl := hs.lt; simp only [List.getElem?_cons_zero, List.getElem?_cons_succ] at hs0 hs1 hsl; have hk0 := hk.cell 0; have hk1 := hk.cell 1; have hk2 := hk.cell 2; have hkf := hk.free; have hkl := hk.lt; simp only [List.getElem?_cons_zero, List.getElem?_cons_succ] at hk0 hk1 hk2 hkl; have ht0 := ht.cell 0; have ht1 := ht.cell 1; have htf := ht.free; have htl := ht.lt; simp only [List.getElem?_cons_zero, List.getElem?_cons_succ] at ht0 ht1 htl; have hc0 := hc.cell 0; have hc1 := hc.cell 1; have hcf := hc.free; have hcl := hc.lt; simp only [List.getElem?_cons_zero, List.getElem?_cons_succ] at hc0 hc1 hcl)
                  | (go_at_call 21; clear tk1; (with_reducible refine (HOFF.out (by first | rfl | assumption) _ hk).mono ?_); rintro e w2 ⟨rfl, h1, c1⟩; clear ha0 ha1 haf hal; replace ha := ha.chg c1 (ha.ne hk (by decide)); clear hs0 hs1 hsf hsl; replace hs := hs.chg c1 (hs.ne hk (by decide)); clear hk0 hk1 hk2 hkf hkl; clear ht0 ht1 htf htl; replace ht := ht.chg c1 (ht.ne hk (by decide)); clear hc0 hc1 hcf hcl; replace hc := hc.chg c1 (hc.ne hk (by decide)); replace HB := Lib.hid (grew_lift HB.out c1 (newb _ _ HN.out));  clear hk c1; have hk := h1; clear h1; have ha0 := ha.cell 0; have ha1 := ha.cell 1; have haf := ha.free; have hal := ha.lt; simp only [List.getElem?_cons_zero, List.getElem?_cons_succ] at ha0 ha1 hal; have hs0 := hs.cell 0; have hs1 := hs.cell 1; have hsf := hs.free; have hsl := hs.lt; simp only [List.getElem?_cons_zero, List.getElem?_cons_succ] at hs0 hs1 hsl; have hk0 := hk.cell 0; have hk1 := hk.cell 1; have hk2 := hk.cell 2; have hkf := hk.free; have hkl := hk.lt; simp only [List.getElem?_cons_zero, List.getElem?_cons_succ] at hk0 hk1 hk2 hkl; have ht0 := ht.cell 0; have ht1 := ht.cell 1; have htf := ht.free; have htl := ht.lt; simp only [List.getElem?_cons_zero, List.getElem?_cons_succ] at ht0 ht1 htl; have hc0 := hc.cell 0; have hc1 := hc.cell 1; have hcf := hc.free; have hcl := hc.lt; simp only [List.getElem?_cons_zero, List.getElem?_cons_succ] at hc0 hc1 hcl)
                  | (go_at_call 22; clear tk2; (with_reducible refine (HSAT.out (by first | rfl | assumption) _ hk).mono ?_); rintro e w3 ⟨rfl, h1, c1⟩; clear ha0 ha1 haf hal; replace ha := ha.chg c1 (ha.ne hk (by decide)); clear hs0 hs1 hsf hsl; replace hs := hs.chg c1 (hs.ne hk (by decide)); clear hk0 hk1 hk2 hkf hkl; clear ht0 ht1 htf htl; replace ht := ht.chg c1 (ht.ne hk (by decide)); clear hc0 hc1 hcf hcl; replace hc := hc.chg c1 (hc.ne hk (by decide)); replace HB := Lib.hid (grew_lift HB.out c1 (newb _ _ HN.out));  clear hk c1; have hk := h1; clear h1; have ha0 := ha.cell 0; have ha1 := ha.cell 1; have haf := ha.free; have hal := ha.lt; simp only [List.getElem?_cons_zero, List.getElem?_cons_succ] at ha0 ha1 hal; have hs0 := hs.cell 0; have hs1 := hs.cell 1; have hsf := hs.free; have hsl := hs.lt; simp only [List.getElem?_cons_zero, List.getElem?_cons_succ] at hs0 hs1 hsl; have hk0 := hk.cell 0; have hk1 := hk.cell 1; have hk2 := hk.cell 2; have hkf := hk.free; have hkl := hk.lt; simp only [List.getElem?_cons_zero, List.getElem?_cons_succ] at hk0 hk1 hk2 hkl; have ht0 := ht.cell 0; have ht1 := ht.cell 1; have htf := ht.free; have htl := ht.lt; simp only [List.getElem?_cons_zero, List.getElem?_cons_succ] at ht0 ht1 htl; have hc0 := hc.cell 0; have hc1 := hc.cell 1; have hcf := hc.free; have hcl := hc.lt; simp only [List.getElem?_cons_zero, List.getElem?_cons_succ] at hc0 hc1 hcl)
                  | (go_at_call 19; clear tk3; (with_reducible refine (epoch_st b z _ hk).mono ?_); rintro e w9 ⟨rfl, hw9⟩; subst w9;)
                  | (go_at_call 18; clear tk4; (with_reducible refine (now_any b z _ hk).mono ?_); rintro e w4 ⟨rfl, g1⟩; clear ha0 ha1 haf hal; replace ha := ha.grew g1; have ha0 := ha.cell 0; have ha1 := ha.cell 1; have haf := ha.free; have hal := ha.lt; simp only [List.getElem?_cons_zero, List.getElem?_cons_succ] at ha0 ha1 hal; clear hs0 hs1 hsf hsl; replace hs := hs.grew g1; have hs0 := hs.cell 0; have hs1 := hs.cell 1; have hsf := hs.free; have hsl := hs.lt; simp only [List.getElem?_cons_zero, List.getElem?_cons_succ] at hs0 hs1 hsl; clear hk0 hk1 hk2 hkf hkl; replace hk := hk.grew g1; have hk0 := hk.cell 0; have hk1 := hk.cell 1; have hk2 := hk.cell 2; have hkf := hk.free; have hkl := hk.lt; simp only [List.getElem?_cons_zero, List.getElem?_cons_succ] at hk0 hk1 hk2 hkl; clear ht0 ht1 htf htl; replace ht := ht.grew g1; have ht0 := ht.cell 0; have ht1 := ht.cell 1; have htf := ht.free; have htl := ht.lt; simp only [List.getElem?_cons_zero, List.getElem?_cons_succ] at ht0 ht1 htl; clear hc0 hc1 hcf hcl; replace hc := hc.grew g1; have hc0 := hc.cell 0; have hc1 := hc.cell 1; have hcf := hc.free; have hcl := hc.lt; simp only [List.getElem?_cons_zero, List.getElem?_cons_succ] at hc0 hc1 hcl; replace HB := Lib.hid (HB.out.trans g1); clear g1))
                all_goals
                  have HAG : Hid (∀ W : World, Calls Try.prog 15 #[iv z.lo z.hi, iv tl th] W fun e' w' => e' = .returned (.tuple #[iv (z.lo - tl) (z.hi - th), .int .i64 0]) ∧ Grew W w') := Lib.hid fun W => age_round _ _ _ _ W HVZ.out (HJN.out (by omega)).2 (by omega)
                  have t0 : Atv ⟨T, 0, none⟩ (.int .i64 tl) w4.drew := (ht.grew (Grew.refl _).drw).atv 0 rfl
                  have t1 : Atv ⟨T, 1, none⟩ (.int .i64 th) w4.drew := (ht.grew (Grew.refl _).drw).atv 1 rfl
                  have hK : Blk b (ckc z) 36 w4.drew := hk.grew (Grew.refl _).drw
                  have hB : Grew w4 w4.drew := (Grew.refl _).drw
                  refine wp_sides [5] 7 [some 102, some 103, some 104, some 101, some 105, some 106, some 16] [false, false, false, false, false, false, false, false, false, false, false, false, false, false, false, false, true, false, false, false, false, false, false, false, false, false, false, false, false, false, false, false, false, false, false, false, false, false, false, false, false, false, false, false, false, false, false, false, false, false, false, false, false, false, false, false, false, false, false, false, false, false, false, false, false, false, false, false, false, false, false, false, false, false, false, false, false, false, false, false, false, false, false, false, false, false, false, false, false, false, false, false, false, false, false, false, false, false, false, false, false, true, true, true, true, true, true, false, false, false, false, false, false, false, false, false, false, false, false, false, false, false] [fun v _ => v = .agg #[.int .i64 (z.lo), .int .i64 (z.hi)], fun v _ => v = .agg #[.int .i64 (tl), .int .i64 (th)], fun v _ => v = .tuple #[.agg #[.int .i64 (z.lo - tl), .int .i64 (z.hi - th)], .int .i64 (0)], fun v _ => v = .tuple #[.agg #[.int .i64 (z.lo - tl), .int .i64 (z.hi - th)], .int .i64 (0)], fun v _ => v = .agg #[.int .i64 (z.lo - tl), .int .i64 (z.hi - th)], fun v _ => v = .int .i64 (0), fun v w => ∃ S, v = .pointer (some ⟨S, 0, none⟩) ∧ w4.heap.size ≤ S ∧ Blk S [.int .i64 (0), .int .i64 (0)] 25 w] (by kernel_rfl) (by kernel_rfl) (by kernel_rfl) (by kernel_rfl) (by kernel_rfl) (fun d _ _ _ _ h => by cases d <;> exact h) rfl ?_ ⟨fun u w hR hd => ⟨.int .i64 (0), fun w1 => run_ext (ev (hd.1 rfl)) rfl, rfl⟩, trivial⟩ ⟨?_, ?_, ?_, ?_, ?_, ?_, ?_, trivial⟩ ?_
                  · exact ⟨fun _ _ _ _ h => h, fun _ _ _ _ h => h, fun _ _ _ _ h => h, fun _ _ _ _ h => h, fun _ _ _ _ h => h, fun _ _ _ _ h => h, fun _ _ _ hg ⟨S, h1, h2, h3⟩ => ⟨S, h1, h2, h3.grew hg⟩, trivial⟩
                  · intro u w hR hd; exact runs_c1 enters_now (ev rfl) (callp (fun _ e => e) (now_any b z _ (hK.grew hR)))
                  · intro u w hR hd; exact rn_ld_25 (ev rfl) (t0.kept hR) (t1.kept hR) ⟨Grew.refl _, rfl⟩
                  · intro u w hR hd; exact runs_c2 enters_age (ev (hd.1 rfl)) (ev (hd.2.1 rfl)) (callp (fun _ e => e) (HAG.out _))
                  · intro u w hR hd; exact runs_mv (ev (hd.1 rfl)) ⟨Grew.refl _, rfl⟩
                  · intro u w hR hd; exact rn_ext (ev (hd.1 rfl)) rfl ⟨Grew.refl _, rfl⟩
                  · intro u w hR hd; exact rn_ext (ev (hd.1 rfl)) rfl ⟨Grew.refl _, rfl⟩
                  · intro u w hR hd; exact rn_alloc_25 ⟨(Grew.refl _).alloc _, ⟨_, rfl, Nat.le_trans hB.size hR.size, heap_alloc_new _ _⟩⟩
                  · intro u2 w7 hR hp
                    obtain ⟨S6, h5, hS6, hB6⟩ := hp 6 (by decide)
                    have h105 : u2 105 = iv (z.lo - tl) (z.hi - th) := hp 4 (by decide)
                    have h106 : u2 106 = .int .i64 0 := hp 5 (by decide)
                    refine wpAny_one (i := 7) none (by kernel_rfl) rfl rfl rfl (rn_st_25 (S := S6) (o := 0) (ev h5) (ev h105) (hB6.atv 0 rfl) (hB6.atv 1 rfl) hB6.free ?_)
                    refine wpAny_one (i := 8) (some 17) (by kernel_rfl) rfl rfl rfl (runs_mva (ev h106) ?_)
                    refine wpAny_done (by kernel_rfl) ?_ _
                    have g7 := hB.trans hR
                    have hlow : w0.heap.size ≤ S6 := Nat.le_trans HB.out.size hS6
                    have n1 := (hk.grew g7).ne hB6 (by decide)
                    have n2 : T ≠ S6 := fun e => by have := htl; omega
                    have n3 := (hc.grew g7).ne hB6 (by decide)
                    replace hk := ((hk.grew g7).other S6 0 (.int .i64 (z.lo - tl)) n1).other S6 1 (.int .i64 (z.hi - th)) n1
                    replace ht := ((ht.grew g7).other S6 0 (.int .i64 (z.lo - tl)) n2).other S6 1 (.int .i64 (z.hi - th)) n2
                    replace hc := ((hc.grew g7).other S6 0 (.int .i64 (z.lo - tl)) n3).other S6 1 (.int .i64 (z.hi - th)) n3
                    have hq := (hB6.set 0 (.int .i64 (z.lo - tl))).set 1 (.int .i64 (z.hi - th))
                    replace HB := Lib.hid (((HB.out.trans g7).sc hlow 0 (.int .i64 (z.lo - tl))).sc hlow 1 (.int .i64 (z.hi - th)))
                    simp only [Act.put, mixA, mixL, cond_true, cond_false, List.setIfInBounds_toArray, List.set_cons_succ, List.set_cons_zero]
                    simp only [List.set_cons_succ, List.set_cons_zero] at hq
                    have h5' : u2 16 = .pointer (some ⟨S6, 0, none⟩) := h5
                    rw [h5']
                    generalize hW : World.setCell (World.setCell w7 _ _) _ _ = W2
                    rw [hW] at hk ht hc HB
                    have hq : Blk S6 [.int .i64 (z.lo - tl), .int .i64 (z.hi - th)] 25 W2 := hW ▸ hq
                    have q0 := hq.cell 0
                    have q1 := hq.cell 1
                    simp only [List.getElem?_cons_zero, List.getElem?_cons_succ] at q0 q1
                    clear hW hp h5 h5' h105 h106 hB6 hlow n1 n2 n3 hR t0 t1 hB hS6 hK g7 hq ha hs ha0 ha1 haf hal hs0 hs1 hsf hsl hk0 hk1 hk2 hkf hkl ht0 ht1 htf htl hc0 hc1 hcf hcl
                    go_wp2
                    go_roundg (xs.length - (k + 1))
                    case measure => have := HLT.out; omega
                    case rel => exact ⟨k + 1, z, tl, th, ep0, on + off, rfl, rfl, by go_num, HLT.out, rfl, HGN, HPB.out, Lib.hid ⟨hk, ht, hc, HB.out, HN.out, HNT.out⟩, HJN⟩
              · go_wp2_with (first
            | (go_at_call 20; clear tk0; (with_reducible refine (HRUN.out _ hk).mono ?_); rintro e w1 ⟨rfl, h1, c1⟩; clear ha0 ha1 haf hal; replace ha := ha.chg c1 (ha.ne hk (by decide)); clear hs0 hs1 hsf hsl; replace hs := hs.chg c1 (hs.ne hk (by decide)); clear hk0 hk1 hk2 hkf hkl; clear ht0 ht1 htf htl; replace ht := ht.chg c1 (ht.ne hk (by decide)); clear hc0 hc1 hcf hcl; replace hc := hc.chg c1 (hc.ne hk (by decide)); replace HB := Lib.hid (grew_lift HB.out c1 (newb _ _ HN.out));  clear hk c1; have hk := h1; clear h1; have ha0 := ha.cell 0; have ha1 := ha.cell 1; have haf := ha.free; have hal := ha.lt; simp only [List.getElem?_cons_zero, List.getElem?_cons_succ] at ha0 ha1 hal; have hs0 := hs.cell 0; have hs1 := hs.cell 1; have hsf := hs.free; have hsl := hs.lt; simp only [List.getElem?_cons_zero, List.getElem?_cons_succ] at hs0 hs1 hsl; have hk0 := hk.cell 0; have hk1 := hk.cell 1; have hk2 := hk.cell 2; have hkf := hk.free; have hkl := hk.lt; simp only [List.getElem?_cons_zero, List.getElem?_cons_succ] at hk0 hk1 hk2 hkl; have ht0 := ht.cell 0; have ht1 := ht.cell 1; have htf := ht.free; have htl := ht.lt; simp only [List.getElem?_cons_zero, List.getElem?_cons_succ] at ht0 ht1 htl; have hc0 := hc.cell 0; have hc1 := hc.cell 1; have hcf := hc.free; have hcl := hc.lt; simp only [List.getElem?_cons_zero, List.getElem?_cons_succ] at hc0 hc1 hcl)
            | (go_at_call 21; clear tk1; (with_reducible refine (HOFF.out (by first | rfl | assumption) _ hk).mono ?_); rintro e w2 ⟨rfl, h1, c1⟩; clear ha0 ha1 haf hal; replace ha := ha.chg c1 (ha.ne hk (by decide)); clear hs0 hs1 hsf hsl; replace hs := hs.chg c1 (hs.ne hk (by decide)); clear hk0 hk1 hk2 hkf hkl; clear ht0 ht1 htf htl; replace ht := ht.chg c1 (ht.ne hk (by decide)); clear hc0 hc1 hcf hcl; replace hc := hc.chg c1 (hc.ne hk (by decide)); replace HB := Lib.hid (grew_lift HB.out c1 (newb _ _ HN.out));  clear hk c1; have hk := h1; clear h1; have ha0 := ha.cell 0; have ha1 := ha.cell 1; have haf := ha.free; have hal := ha.lt; simp only [List.getElem?_cons_zero, List.getElem?_cons_succ] at ha0 ha1 hal; have hs0 := hs.cell 0; have hs1 := hs.cell 1; have hsf := hs.free; have hsl := hs.lt; simp only [List.getElem?_cons_zero, List.getElem?_cons_succ] at hs0 hs1 hsl; have hk0 := hk.cell 0; have hk1 := hk.cell 1; have hk2 := hk.cell 2; have hkf := hk.free; have hkl := hk.lt; simp only [List.getElem?_cons_zero, List.getElem?_cons_succ] at hk0 hk1 hk2 hkl; have ht0 := ht.cell 0; have ht1 := ht.cell 1; have htf := ht.free; have htl := ht.lt; simp only [List.getElem?_cons_zero, List.getElem?_cons_succ] at ht0 ht1 htl; have hc0 := hc.cell 0; have hc1 := hc.cell 1; have hcf := hc.free; have hcl := hc.lt; simp only [List.getElem?_cons_zero, List.getElem?_cons_succ] at hc0 hc1 hcl)
            | (go_at_call 22; clear tk2; (with_reducible refine (HSAT.out (by first | rfl | assumption) _ hk).mono ?_); rintro e w3 ⟨rfl, h1, c1⟩; clear ha0 ha1 haf hal; replace ha := ha.chg c1 (ha.ne hk (by decide)); clear hs0 hs1 hsf hsl; replace hs := hs.chg c1 (hs.ne hk (by decide)); clear hk0 hk1 hk2 hkf hkl; clear ht0 ht1 htf htl; replace ht := ht.chg c1 (ht.ne hk (by decide)); clear hc0 hc1 hcf hcl; replace hc := hc.chg c1 (hc.ne hk (by decide)); replace HB := Lib.hid (grew_lift HB.out c1 (newb _ _ HN.out));  clear hk c1; have hk := h1; clear h1; have ha0 := ha.cell 0; have ha1 := ha.cell 1; have haf := ha.free; have hal := ha.lt; simp only [List.getElem?_cons_zero, List.getElem?_cons_succ] at ha0 ha1 hal; have hs0 := hs.cell 0; have hs1 := hs.cell 1; have hsf := hs.free; have hsl := hs.lt; simp only [List.getElem?_cons_zero, List.getElem?_cons_succ] at hs0 hs1 hsl; have hk0 := hk.cell 0; have hk1 := hk.cell 1; have hk2 := hk.cell 2; have hkf := hk.free; have hkl := hk.lt; simp only [List.getElem?_cons_zero, List.getElem?_cons_succ] at hk0 hk1 hk2 hkl; have ht0 := ht.cell 0; have ht1 := ht.cell 1; have htf := ht.free; have htl := ht.lt; simp only [List.getElem?_cons_zero, List.getElem?_cons_succ] at ht0 ht1 htl; have hc0 := hc.cell 0; have hc1 := hc.cell 1; have hcf := hc.free; have hcl := hc.lt; simp only [List.getElem?_cons_zero, List.getElem?_cons_succ] at hc0 hc1 hcl)
            | (go_at_call 19; clear tk3; (with_reducible refine (epoch_st b z _ hk).mono ?_); rintro e w9 ⟨rfl, hw9⟩; subst w9;)
            | (go_at_call 18; clear tk4; (with_reducible refine (now_any b z _ hk).mono ?_); rintro e w4 ⟨rfl, g1⟩; clear ha0 ha1 haf hal; replace ha := ha.grew g1; have ha0 := ha.cell 0; have ha1 := ha.cell 1; have haf := ha.free; have hal := ha.lt; simp only [List.getElem?_cons_zero, List.getElem?_cons_succ] at ha0 ha1 hal; clear hs0 hs1 hsf hsl; replace hs := hs.grew g1; have hs0 := hs.cell 0; have hs1 := hs.cell 1; have hsf := hs.free; have hsl := hs.lt; simp only [List.getElem?_cons_zero, List.getElem?_cons_succ] at hs0 hs1 hsl; clear hk0 hk1 hk2 hkf hkl; replace hk := hk.grew g1; have hk0 := hk.cell 0; have hk1 := hk.cell 1; have hk2 := hk.cell 2; have hkf := hk.free; have hkl := hk.lt; simp only [List.getElem?_cons_zero, List.getElem?_cons_succ] at hk0 hk1 hk2 hkl; clear ht0 ht1 htf htl; replace ht := ht.grew g1; have ht0 := ht.cell 0; have ht1 := ht.cell 1; have htf := ht.free; have htl := ht.lt; simp only [List.getElem?_cons_zero, List.getElem?_cons_succ] at ht0 ht1 htl; clear hc0 hc1 hcf hcl; replace hc := hc.grew g1; have hc0 := hc.cell 0; have hc1 := hc.cell 1; have hcf := hc.free; have hcl := hc.lt; simp only [List.getElem?_cons_zero, List.getElem?_cons_succ] at hc0 hc1 hcl; replace HB := Lib.hid (HB.out.trans g1); clear g1))
                all_goals
                  go_roundg (xs.length - (k + 1))
                  case measure => have := HLT.out; omega
                  case rel => exact ⟨k + 1, z, tl, th, ep0, on + off, rfl, rfl, by go_num, HLT.out, rfl, HGN, HPB.out, Lib.hid ⟨hk, ht, hc, HB.out, HN.out, HNT.out⟩, HJN⟩
            · go_wp2_with (first
            | (go_at_call 20; clear tk0; (with_reducible refine (HRUN.out _ hk).mono ?_); rintro e w1 ⟨rfl, h1, c1⟩; clear ha0 ha1 haf hal; replace ha := ha.chg c1 (ha.ne hk (by decide)); clear hs0 hs1 hsf hsl; replace hs := hs.chg c1 (hs.ne hk (by decide)); clear hk0 hk1 hk2 hkf hkl; clear ht0 ht1 htf htl; replace ht := ht.chg c1 (ht.ne hk (by decide)); clear hc0 hc1 hcf hcl; replace hc := hc.chg c1 (hc.ne hk (by decide)); replace HB := Lib.hid (grew_lift HB.out c1 (newb _ _ HN.out));  clear hk c1; have hk := h1; clear h1; have ha0 := ha.cell 0; have ha1 := ha.cell 1; have haf := ha.free; have hal := ha.lt; simp only [List.getElem?_cons_zero, List.getElem?_cons_succ] at ha0 ha1 hal; have hs0 := hs.cell 0; have hs1 := hs.cell 1; have hsf := hs.free; have hsl := hs.lt; simp only [List.getElem?_cons_zero, List.getElem?_cons_succ] at hs0 hs1 hsl; have hk0 := hk.cell 0; have hk1 := hk.cell 1; have hk2 := hk.cell 2; have hkf := hk.free; have hkl := hk.lt; simp only [List.getElem?_cons_zero, List.getElem?_cons_succ] at hk0 hk1 hk2 hkl; have ht0 := ht.cell 0; have ht1 := ht.cell 1; have htf := ht.free; have htl := ht.lt; simp only [List.getElem?_cons_zero, List.getElem?_cons_succ] at ht0 ht1 htl; have hc0 := hc.cell 0; have hc1 := hc.cell 1; have hcf := hc.free; have hcl := hc.lt; simp only [List.getElem?_cons_zero, List.getElem?_cons_succ] at hc0 hc1 hcl)
            | (go_at_call 21; clear tk1; (with_reducible refine (HOFF.out (by first | rfl | assumption) _ hk).mono ?_); rintro e w2 ⟨rfl, h1, c1⟩; clear ha0 ha1 haf hal; replace ha := ha.chg c1 (ha.ne hk (by decide)); clear hs0 hs1 hsf hsl; replace hs := hs.chg c1 (hs.ne hk (by decide)); clear hk0 hk1 hk2 hkf hkl; clear ht0 ht1 htf htl; replace ht := ht.chg c1 (ht.ne hk (by decide)); clear hc0 hc1 hcf hcl; replace hc := hc.chg c1 (hc.ne hk (by decide)); replace HB := Lib.hid (grew_lift HB.out c1 (newb _ _ HN.out));  clear hk c1; have hk := h1; clear h1; have ha0 := ha.cell 0; have ha1 := ha.cell 1; have haf := ha.free; have hal := ha.lt; simp only [List.getElem?_cons_zero, List.getElem?_cons_succ] at ha0 ha1 hal; have hs0 := hs.cell 0; have hs1 := hs.cell 1; have hsf := hs.free; have hsl := hs.lt; simp only [List.getElem?_cons_zero, List.getElem?_cons_succ] at hs0 hs1 hsl; have hk0 := hk.cell 0; have hk1 := hk.cell 1; have hk2 := hk.cell 2; have hkf := hk.free; have hkl := hk.lt; simp only [List.getElem?_cons_zero, List.getElem?_cons_succ] at hk0 hk1 hk2 hkl; have ht0 := ht.cell 0; have ht1 := ht.cell 1; have htf := ht.free; have htl := ht.lt; simp only [List.getElem?_cons_zero, List.getElem?_cons_succ] at ht0 ht1 htl; have hc0 := hc.cell 0; have hc1 := hc.cell 1; have hcf := hc.free; have hcl := hc.lt; simp only [List.getElem?_cons_zero, List.getElem?_cons_succ] at hc0 hc1 hcl)
            | (go_at_call 22; clear tk2; (with_reducible refine (HSAT.out (by first | rfl | assumption) _ hk).mono ?_); rintro e w3 ⟨rfl, h1, c1⟩; clear ha0 ha1 haf hal; replace ha := ha.chg c1 (ha.ne hk (by decide)); clear hs0 hs1 hsf hsl; replace hs := hs.chg c1 (hs.ne hk (by decide)); clear hk0 hk1 hk2 hkf hkl; clear ht0 ht1 htf htl; replace ht := ht.chg c1 (ht.ne hk (by decide)); clear hc0 hc1 hcf hcl; replace hc := hc.chg c1 (hc.ne hk (by decide)); replace HB := Lib.hid (grew_lift HB.out c1 (newb _ _ HN.out));  clear hk c1; have hk := h1; clear h1; have ha0 := ha.cell 0; have ha1 := ha.cell 1; have haf := ha.free; have hal := ha.lt; simp only [List.getElem?_cons_zero, List.getElem?_cons_succ] at ha0 ha1 hal; have hs0 := hs.cell 0; have hs1 := hs.cell 1; have hsf := hs.free; have hsl := hs.lt; simp only [List.getElem?_cons_zero, List.getElem?_cons_succ] at hs0 hs1 hsl; have hk0 := hk.cell 0; have hk1 := hk.cell 1; have hk2 := hk.cell 2; have hkf := hk.free; have hkl := hk.lt; simp only [List.getElem?_cons_zero, List.getElem?_cons_succ] at hk0 hk1 hk2 hkl; have ht0 := ht.cell 0; have ht1 := ht.cell 1; have htf := ht.free; have htl := ht.lt; simp only [List.getElem?_cons_zero, List.getElem?_cons_succ] at ht0 ht1 htl; have hc0 := hc.cell 0; have hc1 := hc.cell 1; have hcf := hc.free; have hcl := hc.lt; simp only [List.getElem?_cons_zero, List.getElem?_cons_succ] at hc0 hc1 hcl)
            | (go_at_call 19; clear tk3; (with_reducible refine (epoch_st b z _ hk).mono ?_); rintro e w9 ⟨rfl, hw9⟩; subst w9;)
            | (go_at_call 18; clear tk4; (with_reducible refine (now_any b z _ hk).mono ?_); rintro e w4 ⟨rfl, g1⟩; clear ha0 ha1 haf hal; replace ha := ha.grew g1; have ha0 := ha.cell 0; have ha1 := ha.cell 1; have haf := ha.free; have hal := ha.lt; simp only [List.getElem?_cons_zero, List.getElem?_cons_succ] at ha0 ha1 hal; clear hs0 hs1 hsf hsl; replace hs := hs.grew g1; have hs0 := hs.cell 0; have hs1 := hs.cell 1; have hsf := hs.free; have hsl := hs.lt; simp only [List.getElem?_cons_zero, List.getElem?_cons_succ] at hs0 hs1 hsl; clear hk0 hk1 hk2 hkf hkl; replace hk := hk.grew g1; have hk0 := hk.cell 0; have hk1 := hk.cell 1; have hk2 := hk.cell 2; have hkf := hk.free; have hkl := hk.lt; simp only [List.getElem?_cons_zero, List.getElem?_cons_succ] at hk0 hk1 hk2 hkl; clear ht0 ht1 htf htl; replace ht := ht.grew g1; have ht0 := ht.cell 0; have ht1 := ht.cell 1; have htf := ht.free; have htl := ht.lt; simp only [List.getElem?_cons_zero, List.getElem?_cons_succ] at ht0 ht1 htl; clear hc0 hc1 hcf hcl; replace hc := hc.grew g1; have hc0 := hc.cell 0; have hc1 := hc.cell 1; have hcf := hc.free; have hcl := hc.lt; simp only [List.getElem?_cons_zero, List.getElem?_cons_succ] at hc0 hc1 hcl; replace HB := Lib.hid (HB.out.trans g1); clear g1))
              all_goals
                go_roundg (xs.length - (k + 1))
                case measure => have := HLT.out; omega
                case rel => exact ⟨k + 1, z, tl, th, ep0, on + off, rfl, rfl, by go_num, HLT.out, rfl, HGN, HPB.out, Lib.hid ⟨hk, ht, hc, HB.out, HN.out, HNT.out⟩, HJN⟩
        · by_cases h1 : (k : Int) < fr
          · have HJN : Hid (fr < ((k + 1 : Nat) : Int) → Jc z tl th ep0 (P + (on + off)) ∧ va tl th = true) := Lib.hid fun hc => absurd hc (by omega)
            clear HJ HJR
            go_wp2
            obtain ⟨A, hA⟩ : ∃ A, A = wr.heap.size := ⟨_, rfl⟩
            rw [← hA]
            refine wp_at9 (fun W => Eg w0 b T e sa s tl th W ∧ Blk A [.int .u32 on, .int .u32 off] 52 W) ⟨HRA.out _, by rw [hA]; exact Blk.new wr _ _⟩ ?_
            intro W hW
            have HE := Lib.hid hW.1
            have HA := Lib.hid hW.2
            clear hW hA HRA HR d0 d1 hlb
            have c0 : Atv ⟨w0.heap.size, 0, none⟩ (.int .i64 e) W.drew := (HE.out.cf.grew (Grew.refl _).drw).atv 0 rfl
            have c1 : Atv ⟨w0.heap.size, 1, none⟩ (.int .i64 sa) W.drew := (HE.out.cf.grew (Grew.refl _).drw).atv 1 rfl
            have a0 : Atv ⟨A, 0, none⟩ (.int .u32 on) W.drew := (HA.out.grew (Grew.refl _).drw).atv 0 rfl
            have a1 : Atv ⟨A, 1, none⟩ (.int .u32 off) W.drew := (HA.out.grew (Grew.refl _).drw).atv 1 rfl
            have hB : Grew W W.drew := (Grew.refl _).drw
            refine wp_sides [8, 9] 11 [some 54, some 55, some 56, some 57, some 58, some 59, some 53, some 60, some 61, some 62, some 13] [false, false, false, false, false, false, false, false, false, false, false, false, false, true, false, false, false, false, false, false, false, false, false, false, false, false, false, false, false, false, false, false, false, false, false, false, false, false, false, false, false, false, false, false, false, false, false, false, false, false, false, false, false, true, true, true, true, true, true, true, true, true, true, false, false, false, false, false, false, false, false, false, false, false, false, false, false, false, false, false, false, false, false, false, false, false, false, false, false, false, false, false, false, false, false, false, false, false, false, false, false, false, false, false, false, false, false, false, false, false, false, false, false, false, false, false, false, false, false, false, false, false] [fun v _ => v = .agg #[.int .i64 (e), .int .i64 (sa)], fun v _ => v = .agg #[.int .i64 (e), .int .i64 (sa)], fun v _ => v = .pointer (some ⟨A, 1, none⟩), fun v _ => v = .int .u32 (off), fun v _ => v = .int .i64 (off), fun v _ => v = .tuple #[.agg #[.int .i64 (l), .int .i64 (h)], .bool (kk), .int .i64 (0)], fun v _ => v = .tuple #[.agg #[.int .i64 (l), .int .i64 (h)], .bool (kk), .int .i64 (0)], fun v _ => v = .agg #[.int .i64 (l), .int .i64 (h)], fun v _ => v = .bool (kk), fun v _ => v = .int .i64 (0), fun v w => ∃ S, v = .pointer (some ⟨S, 0, none⟩) ∧ W.heap.size ≤ S ∧ Blk S [.int .i64 (0), .int .i64 (0)] 25 w] (by kernel_rfl) (by kernel_rfl) (by kernel_rfl) (by kernel_rfl) (by kernel_rfl) (fun d _ _ _ _ h => by cases d <;> exact h) rfl ?_ ⟨fun u w hR hd => ⟨.bool (kk), fun w1 => run_ext (ev (hd.1 rfl)) rfl, rfl⟩, fun u w hR hd => ⟨.int .i64 (0), fun w1 => run_ext (ev (hd.1 rfl)) rfl, rfl⟩, trivial⟩ ⟨?_, ?_, ?_, ?_, ?_, ?_, ?_, ?_, ?_, ?_, ?_, trivial⟩ ?_
            · exact ⟨fun _ _ _ _ h => h, fun _ _ _ _ h => h, fun _ _ _ _ h => h, fun _ _ _ _ h => h, fun _ _ _ _ h => h, fun _ _ _ _ h => h, fun _ _ _ _ h => h, fun _ _ _ _ h => h, fun _ _ _ _ h => h, fun _ _ _ _ h => h, fun _ _ _ hg ⟨S, h1, h2, h3⟩ => ⟨S, h1, h2, h3.grew hg⟩, trivial⟩
            · intro u w hR hd; exact rn_ld_23 (ev rfl) (c0.kept hR) (c1.kept hR) ⟨Grew.refl _, rfl⟩
            · intro u w hR hd; exact runs_c1 enters_own (ev (hd.1 rfl)) (callp (fun _ e => e) (own_any e sa _))
            · intro u w hR hd; exact rn_fld_52_1 (ev rfl) ⟨Grew.refl _, rfl⟩
            · intro u w hR hd; exact rn_ld_50 (ev (hd.1 rfl)) (a1.kept hR) ⟨Grew.refl _, rfl⟩
            · intro u w hR hd; exact rn_cv_50_2 (ev (hd.1 rfl)) (by omega) ⟨Grew.refl _, rfl⟩
            · intro u w hR hd; exact runs_c2 enters_mea (ev (hd.1 rfl)) (ev (hd.2.1 rfl)) (callp (fun _ e => e) (HM.out _))
            · intro u w hR hd; exact runs_mv (ev (hd.1 rfl)) ⟨Grew.refl _, rfl⟩
            · intro u w hR hd; exact rn_ext (ev (hd.1 rfl)) rfl ⟨Grew.refl _, rfl⟩
            · intro u w hR hd; exact rn_ext (ev (hd.1 rfl)) rfl ⟨Grew.refl _, rfl⟩
            · intro u w hR hd; exact rn_ext (ev (hd.1 rfl)) rfl ⟨Grew.refl _, rfl⟩
            · intro u w hR hd; exact rn_alloc_25 ⟨(Grew.refl _).alloc _, ⟨_, rfl, Nat.le_trans hB.size hR.size, heap_alloc_new _ _⟩⟩
            · intro uu w4 hR hp
              obtain ⟨S3, h5, hS3, hB3⟩ := hp 10 (by decide)
              have h60 : uu 60 = iv l h := hp 7 (by decide)
              have h61 : uu 61 = .bool kk := hp 8 (by decide)
              have h62 : uu 62 = .int .i64 0 := hp 9 (by decide)
              refine wpAny_one (i := 11) none (by kernel_rfl) rfl rfl rfl (rn_st_25 (S := S3) (o := 0) (ev h5) (ev h60) (hB3.atv 0 rfl) (hB3.atv 1 rfl) hB3.free ?_)
              refine wpAny_one (i := 12) (some 14) (by kernel_rfl) rfl rfl rfl (runs_mva (ev h61) ?_)
              refine wpAny_one (i := 13) (some 15) (by kernel_rfl) rfl rfl rfl (runs_mva (ev h62) ?_)
              refine wpAny_done (by kernel_rfl) ?_ _
              have hE4 := HE.out.on (hB.trans hR)
              have hA4 := HA.out.grew (hB.trans hR)
              have hlow : w0.heap.size ≤ S3 := Nat.le_trans HE.out.grew.size hS3
              have n1 := hE4.ck.ne hB3 (by decide)
              have n2 : T ≠ S3 := fun e => by have := hE4.tb.lt; have := HE.out.tb.lt; omega
              have n3 := hE4.cf.ne hB3 (by decide)
              have n4 := hA4.ne hB3 (by decide)
              have hk := (hE4.ck.other S3 0 (.int .i64 l) n1).other S3 1 (.int .i64 h) n1
              have ht := (hE4.tb.other S3 0 (.int .i64 l) n2).other S3 1 (.int .i64 h) n2
              have hc := (hE4.cf.other S3 0 (.int .i64 l) n3).other S3 1 (.int .i64 h) n3
              have ha := (hA4.other S3 0 (.int .i64 l) n4).other S3 1 (.int .i64 h) n4
              have hs := (hB3.set 0 (.int .i64 l)).set 1 (.int .i64 h)
              have HB := Lib.hid ((hE4.grew.sc hlow 0 (.int .i64 l)).sc hlow 1 (.int .i64 h))
              simp only [Act.put, mixA, mixL, cond_true, cond_false, List.setIfInBounds_toArray, List.set_cons_succ, List.set_cons_zero]
              simp only [List.set_cons_succ, List.set_cons_zero] at hs
              have h5' : uu 13 = .pointer (some ⟨S3, 0, none⟩) := h5
              rw [h5']
              generalize hW : World.setCell (World.setCell w4 _ _) _ _ = W1
              rw [hW] at hk ht hc ha HB
              have hs : Blk S3 [.int .i64 l, .int .i64 h] 25 W1 := hW ▸ hs
              clear hW hp h5 h5' h60 h61 h62 hB3 hE4 hA4 hlow n1 n2 n3 n4 hR c0 c1 a0 a1 hB HE HA hS3
              have ha0 := ha.cell 0
              have ha1 := ha.cell 1
              have haf := ha.free
              have hal := ha.lt
              simp only [List.getElem?_cons_zero, List.getElem?_cons_succ] at ha0 ha1 hal
              have hs0 := hs.cell 0
              have hs1 := hs.cell 1
              have hsf := hs.free
              have hsl := hs.lt
              simp only [List.getElem?_cons_zero, List.getElem?_cons_succ] at hs0 hs1 hsl
              have hk0 := hk.cell 0
              have hk1 := hk.cell 1
              have hk2 := hk.cell 2
              have hkf := hk.free
              have hkl := hk.lt
              simp only [List.getElem?_cons_zero, List.getElem?_cons_succ] at hk0 hk1 hk2 hkl
              have ht0 := ht.cell 0
              have ht1 := ht.cell 1
              have htf := ht.free
              have htl := ht.lt
              simp only [List.getElem?_cons_zero, List.getElem?_cons_succ] at ht0 ht1 htl
              have hc0 := hc.cell 0
              have hc1 := hc.cell 1
              have hcf := hc.free
              have hcl := hc.lt
              simp only [List.getElem?_cons_zero, List.getElem?_cons_succ] at hc0 hc1 hcl
              have tk0 := Lib.hid trivial
              have tk1 := Lib.hid trivial
              have tk2 := Lib.hid trivial
              go_wp2_with (first
                | (go_at_call 20; clear tk0; (with_reducible refine (HRUN.out _ hk).mono ?_); rintro e w1 ⟨rfl, h1, c1⟩; clear ha0 ha1 haf hal; replace ha := ha.chg c1 (ha.ne hk (by decide)); clear hs0 hs1 hsf hsl; replace hs := hs.chg c1 (hs.ne hk (by decide)); clear hk0 hk1 hk2 hkf hkl; clear ht0 ht1 htf htl; replace ht := ht.chg c1 (ht.ne hk (by decide)); clear hc0 hc1 hcf hcl; replace hc := hc.chg c1 (hc.ne hk (by decide)); replace HB := Lib.hid (grew_lift HB.out c1 (newb _ _ HN.out));  clear hk c1; have hk := h1; clear h1; have ha0 := ha.cell 0; have ha1 := ha.cell 1; have haf := ha.free; have hal := ha.lt; simp only [List.getElem?_cons_zero, List.getElem?_cons_succ] at ha0 ha1 hal; have hs0 := hs.cell 0; have hs1 := hs.cell 1; have hsf := hs.free; have hsl := hs.lt; simp only [List.getElem?_cons_zero, List.getElem?_cons_succ] at hs0 hs1 hsl; have hk0 := hk.cell 0; have hk1 := hk.cell 1; have hk2 := hk.cell 2; have hkf := hk.free; have hkl := hk.lt; simp only [List.getElem?_cons_zero, List.getElem?_cons_succ] at hk0 hk1 hk2 hkl; have ht0 := ht.cell 0; have ht1 := ht.cell 1; have htf := ht.free; have htl := ht.lt; simp only [List.getElem?_cons_zero, List.getElem?_cons_succ] at ht0 ht1 htl; have hc0 := hc.cell 0; have hc1 := hc.cell 1; have hcf := hc.free; have hcl := hc.lt; simp only [List.getElem?_cons_zero, List.getElem?_cons_succ] at hc0 hc1 hcl)
                | (go_at_call 21; clear tk1; (with_reducible refine (HOFF.out (by first | rfl | assumption) _ hk).mono ?_); rintro e w2 ⟨rfl, h1, c1⟩; clear ha0 ha1 haf hal; replace ha := ha.chg c1 (ha.ne hk (by decide)); clear hs0 hs1 hsf hsl; replace hs := hs.chg c1 (hs.ne hk (by decide)); clear hk0 hk1 hk2 hkf hkl; clear ht0 ht1 htf htl; replace ht := ht.chg c1 (ht.ne hk (by decide)); clear hc0 hc1 hcf hcl; replace hc := hc.chg c1 (hc.ne hk (by decide)); replace HB := Lib.hid (grew_lift HB.out c1 (newb _ _ HN.out));  clear hk c1; have hk := h1; clear h1; have ha0 := ha.cell 0; have ha1 := ha.cell 1; have haf := ha.free; have hal := ha.lt; simp only [List.getElem?_cons_zero, List.getElem?_cons_succ] at ha0 ha1 hal; have hs0 := hs.cell 0; have hs1 := hs.cell 1; have hsf := hs.free; have hsl := hs.lt; simp only [List.getElem?_cons_zero, List.getElem?_cons_succ] at hs0 hs1 hsl; have hk0 := hk.cell 0; have hk1 := hk.cell 1; have hk2 := hk.cell 2; have hkf := hk.free; have hkl := hk.lt; simp only [List.getElem?_cons_zero, List.getElem?_cons_succ] at hk0 hk1 hk2 hkl; have ht0 := ht.cell 0; have ht1 := ht.cell 1; have htf := ht.free; have htl := ht.lt; simp only [List.getElem?_cons_zero, List.getElem?_cons_succ] at ht0 ht1 htl; have hc0 := hc.cell 0; have hc1 := hc.cell 1; have hcf := hc.free; have hcl := hc.lt; simp only [List.getElem?_cons_zero, List.getElem?_cons_succ] at hc0 hc1 hcl)
                | (go_at_call 22; clear tk2; (with_reducible refine (HSAT.out (by first | rfl | assumption) _ hk).mono ?_); rintro e w3 ⟨rfl, h1, c1⟩; clear ha0 ha1 haf hal; replace ha := ha.chg c1 (ha.ne hk (by decide)); clear hs0 hs1 hsf hsl; replace hs := hs.chg c1 (hs.ne hk (by decide)); clear hk0 hk1 hk2 hkf hkl; clear ht0 ht1 htf htl; replace ht := ht.chg c1 (ht.ne hk (by decide)); clear hc0 hc1 hcf hcl; replace hc := hc.chg c1 (hc.ne hk (by decide)); replace HB := Lib.hid (grew_lift HB.out c1 (newb _ _ HN.out));  clear hk c1; have hk := h1; clear h1; have ha0 := ha.cell 0; have ha1 := ha.cell 1; have haf := ha.free; have hal := ha.lt; simp only [List.getElem?_cons_zero, List.getElem?_cons_succ] at ha0 ha1 hal; have hs0 := hs.cell 0; have hs1 := hs.cell 1; have hsf := hs.free; have hsl := hs.lt; simp only [List.getElem?_cons_zero, List.getElem?_cons_succ] at hs0 hs1 hsl; have hk0 := hk.cell 0; have hk1 := hk.cell 1; have hk2 := hk.cell 2; have hkf := hk.free; have hkl := hk.lt; simp only [List.getElem?_cons_zero, List.getElem?_cons_succ] at hk0 hk1 hk2 hkl; have ht0 := ht.cell 0; have ht1 := ht.cell 1; have htf := ht.free; have htl := ht.lt; simp only [List.getElem?_cons_zero, List.getElem?_cons_succ] at ht0 ht1 htl; have hc0 := hc.cell 0; have hc1 := hc.cell 1; have hcf := hc.free; have hcl := hc.lt; simp only [List.getElem?_cons_zero, List.getElem?_cons_succ] at hc0 hc1 hcl))
              all_goals
                go_roundg (xs.length - (k + 1))
                case measure => have := HLT.out; omega
                case rel => exact ⟨k + 1, z, tl, th, ep0, P + (on + off), rfl, rfl, by go_num, HLT.out, rfl, HGN, HPB.out, Lib.hid ⟨hk, ht, hc, HB.out, HN.out, HNT.out⟩, HJN⟩
          · have HJN : Hid (fr < ((k + 1 : Nat) : Int) → Jc z tl th ep0 (P + (on + off)) ∧ va tl th = true) := Lib.hid fun _ => ⟨HJR.out _ _ _ _ (HJ.out (by omega)).1, (HJ.out (by omega)).2⟩
            clear HJ HJR
            go_wp2
            obtain ⟨A, hA⟩ : ∃ A, A = wr.heap.size := ⟨_, rfl⟩
            rw [← hA]
            refine wp_at9 (fun W => Eg w0 b T e sa s tl th W ∧ Blk A [.int .u32 on, .int .u32 off] 52 W) ⟨HRA.out _, by rw [hA]; exact Blk.new wr _ _⟩ ?_
            intro W hW
            have HE := Lib.hid hW.1
            have HA := Lib.hid hW.2
            clear hW hA HRA HR d0 d1 hlb
            have c0 : Atv ⟨w0.heap.size, 0, none⟩ (.int .i64 e) W.drew := (HE.out.cf.grew (Grew.refl _).drw).atv 0 rfl
            have c1 : Atv ⟨w0.heap.size, 1, none⟩ (.int .i64 sa) W.drew := (HE.out.cf.grew (Grew.refl _).drw).atv 1 rfl
            have a0 : Atv ⟨A, 0, none⟩ (.int .u32 on) W.drew := (HA.out.grew (Grew.refl _).drw).atv 0 rfl
            have a1 : Atv ⟨A, 1, none⟩ (.int .u32 off) W.drew := (HA.out.grew (Grew.refl _).drw).atv 1 rfl
            have hB : Grew W W.drew := (Grew.refl _).drw
            refine wp_sides [8, 9] 11 [some 54, some 55, some 56, some 57, some 58, some 59, some 53, some 60, some 61, some 62, some 13] [false, false, false, false, false, false, false, false, false, false, false, false, false, true, false, false, false, false, false, false, false, false, false, false, false, false, false, false, false, false, false, false, false, false, false, false, false, false, false, false, false, false, false, false, false, false, false, false, false, false, false, false, false, true, true, true, true, true, true, true, true, true, true, false, false, false, false, false, false, false, false, false, false, false, false, false, false, false, false, false, false, false, false, false, false, false, false, false, false, false, false, false, false, false, false, false, false, false, false, false, false, false, false, false, false, false, false, false, false, false, false, false, false, false, false, false, false, false, false, false, false, false] [fun v _ => v = .agg #[.int .i64 (e), .int .i64 (sa)], fun v _ => v = .agg #[.int .i64 (e), .int .i64 (sa)], fun v _ => v = .pointer (some ⟨A, 1, none⟩), fun v _ => v = .int .u32 (off), fun v _ => v = .int .i64 (off), fun v _ => v = .tuple #[.agg #[.int .i64 (l), .int .i64 (h)], .bool (kk), .int .i64 (0)], fun v _ => v = .tuple #[.agg #[.int .i64 (l), .int .i64 (h)], .bool (kk), .int .i64 (0)], fun v _ => v = .agg #[.int .i64 (l), .int .i64 (h)], fun v _ => v = .bool (kk), fun v _ => v = .int .i64 (0), fun v w => ∃ S, v = .pointer (some ⟨S, 0, none⟩) ∧ W.heap.size ≤ S ∧ Blk S [.int .i64 (0), .int .i64 (0)] 25 w] (by kernel_rfl) (by kernel_rfl) (by kernel_rfl) (by kernel_rfl) (by kernel_rfl) (fun d _ _ _ _ h => by cases d <;> exact h) rfl ?_ ⟨fun u w hR hd => ⟨.bool (kk), fun w1 => run_ext (ev (hd.1 rfl)) rfl, rfl⟩, fun u w hR hd => ⟨.int .i64 (0), fun w1 => run_ext (ev (hd.1 rfl)) rfl, rfl⟩, trivial⟩ ⟨?_, ?_, ?_, ?_, ?_, ?_, ?_, ?_, ?_, ?_, ?_, trivial⟩ ?_
            · exact ⟨fun _ _ _ _ h => h, fun _ _ _ _ h => h, fun _ _ _ _ h => h, fun _ _ _ _ h => h, fun _ _ _ _ h => h, fun _ _ _ _ h => h, fun _ _ _ _ h => h, fun _ _ _ _ h => h, fun _ _ _ _ h => h, fun _ _ _ _ h => h, fun _ _ _ hg ⟨S, h1, h2, h3⟩ => ⟨S, h1, h2, h3.grew hg⟩, trivial⟩
            · intro u w hR hd; exact rn_ld_23 (ev rfl) (c0.kept hR) (c1.kept hR) ⟨Grew.refl _, rfl⟩
            · intro u w hR hd; exact runs_c1 enters_own (ev (hd.1 rfl)) (callp (fun _ e => e) (own_any e sa _))
            · intro u w hR hd; exact rn_fld_52_1 (ev rfl) ⟨Grew.refl _, rfl⟩
            · intro u w hR hd; exact rn_ld_50 (ev (hd.1 rfl)) (a1.kept hR) ⟨Grew.refl _, rfl⟩
            · intro u w hR hd; exact rn_cv_50_2 (ev (hd.1 rfl)) (by omega) ⟨Grew.refl _, rfl⟩
            · intro u w hR hd; exact runs_c2 enters_mea (ev (hd.1 rfl)) (ev (hd.2.1 rfl)) (callp (fun _ e => e) (HM.out _))
            · intro u w hR hd; exact runs_mv (ev (hd.1 rfl)) ⟨Grew.refl _, rfl⟩
            · intro u w hR hd; exact rn_ext (ev (hd.1 rfl)) rfl ⟨Grew.refl _, rfl⟩
            · intro u w hR hd; exact rn_ext (ev (hd.1 rfl)) rfl ⟨Grew.refl _, rfl⟩
            · intro u w hR hd; exact rn_ext (ev (hd.1 rfl)) rfl ⟨Grew.refl _, rfl⟩
            · intro u w hR hd; exact rn_alloc_25 ⟨(Grew.refl _).alloc _, ⟨_, rfl, Nat.le_trans hB.size hR.size, heap_alloc_new _ _⟩⟩
            · intro uu w4 hR hp
              obtain ⟨S3, h5, hS3, hB3⟩ := hp 10 (by decide)
              have h60 : uu 60 = iv l h := hp 7 (by decide)
              have h61 : uu 61 = .bool kk := hp 8 (by decide)
              have h62 : uu 62 = .int .i64 0 := hp 9 (by decide)
              refine wpAny_one (i := 11) none (by kernel_rfl) rfl rfl rfl (rn_st_25 (S := S3) (o := 0) (ev h5) (ev h60) (hB3.atv 0 rfl) (hB3.atv 1 rfl) hB3.free ?_)
              refine wpAny_one (i := 12) (some 14) (by kernel_rfl) rfl rfl rfl (runs_mva (ev h61) ?_)
              refine wpAny_one (i := 13) (some 15) (by kernel_rfl) rfl rfl rfl (runs_mva (ev h62) ?_)
              refine wpAny_done (by kernel_rfl) ?_ _
              have hE4 := HE.out.on (hB.trans hR)
              have hA4 := HA.out.grew (hB.trans hR)
              have hlow : w0.heap.size ≤ S3 := Nat.le_trans HE.out.grew.size hS3
              have n1 := hE4.ck.ne hB3 (by decide)
              have n2 : T ≠ S3 := fun e => by have := hE4.tb.lt; have := HE.out.tb.lt; omega
              have n3 := hE4.cf.ne hB3 (by decide)
              have n4 := hA4.ne hB3 (by decide)
              have hk := (hE4.ck.other S3 0 (.int .i64 l) n1).other S3 1 (.int .i64 h) n1
              have ht := (hE4.tb.other S3 0 (.int .i64 l) n2).other S3 1 (.int .i64 h) n2
              have hc := (hE4.cf.other S3 0 (.int .i64 l) n3).other S3 1 (.int .i64 h) n3
              have ha := (hA4.other S3 0 (.int .i64 l) n4).other S3 1 (.int .i64 h) n4
              have hs := (hB3.set 0 (.int .i64 l)).set 1 (.int .i64 h)
              have HB := Lib.hid ((hE4.grew.sc hlow 0 (.int .i64 l)).sc hlow 1 (.int .i64 h))
              simp only [Act.put, mixA, mixL, cond_true, cond_false, List.setIfInBounds_toArray, List.set_cons_succ, List.set_cons_zero]
              simp only [List.set_cons_succ, List.set_cons_zero] at hs
              have h5' : uu 13 = .pointer (some ⟨S3, 0, none⟩) := h5
              rw [h5']
              generalize hW : World.setCell (World.setCell w4 _ _) _ _ = W1
              rw [hW] at hk ht hc ha HB
              have hs : Blk S3 [.int .i64 l, .int .i64 h] 25 W1 := hW ▸ hs
              clear hW hp h5 h5' h60 h61 h62 hB3 hE4 hA4 hlow n1 n2 n3 n4 hR c0 c1 a0 a1 hB HE HA hS3
              have ha0 := ha.cell 0
              have ha1 := ha.cell 1
              have haf := ha.free
              have hal := ha.lt
              simp only [List.getElem?_cons_zero, List.getElem?_cons_succ] at ha0 ha1 hal
              have hs0 := hs.cell 0
              have hs1 := hs.cell 1
              have hsf := hs.free
              have hsl := hs.lt
              simp only [List.getElem?_cons_zero, List.getElem?_cons_succ] at hs0 hs1 hsl
              have hk0 := hk.cell 0
              have hk1 := hk.cell 1
              have hk2 := hk.cell 2
              have hkf := hk.free
              have hkl := hk.lt
              simp only [List.getElem?_cons_zero, List.getElem?_cons_succ] at hk0 hk1 hk2 hkl
              have ht0 := ht.cell 0
              have ht1 := ht.cell 1
              have htf := ht.free
              have htl := ht.lt
              simp only [List.getElem?_cons_zero, List.getElem?_cons_succ] at ht0 ht1 htl
              have hc0 := hc.cell 0
              have hc1 := hc.cell 1
              have hcf := hc.free
              have hcl := hc.lt
              simp only [List.getElem?_cons_zero, List.getElem?_cons_succ] at hc0 hc1 hcl
              have tk0 := Lib.hid trivial
              have tk1 := Lib.hid trivial
              have tk2 := Lib.hid trivial
              have tk3 := Lib.hid trivial
              have tk4 := Lib.hid trivial
              have hfd : ∀ W : World, Sem.run Try.prog (Instr.field 25 (iv z.lo z.hi) 1) W = .ok (.int .i64 z.hi) W := field_iv _ _
              by_cases hE : z.ep = ep0
              · by_cases hM : z.hi < 1099511627776
                · have hJ := HJN.out (by omega)
                  obtain ⟨-, hJ⟩ := hJ.1
                  obtain ⟨y0, y1, hJ⟩ := hJ hE
                  obtain ⟨y2, y3, y4⟩ := hJ hM
                  go_wp2_with (first
                    | (go_at_call 20; clear tk0; (with_reducible refine (HRUN.out _ hk).mono ?_); rintro e w1 ⟨rfl, h1, c1⟩; clear ha0 ha1 haf hal; replace ha := ha.chg c1 (ha.ne hk (by decide)); clear hs0 hs1 hsf hsl; replace hs := hs.chg c1 (hs.ne hk (by decide)); clear hk0 hk1 hk2 hkf hkl; clear ht0 ht1 htf htl; replace ht := ht.chg c1 (ht.ne hk (by decide)); clear hc0 hc1 hcf hcl; replace hc := hc.chg c1 (hc.ne hk (by decide)); replace HB := Lib.hid (grew_lift HB.out c1 (newb _ _ HN.out));  clear hk c1; have hk := h1; clear h1; have ha0 := ha.cell 0; have ha1 := ha.cell 1; have haf := ha.free; have hal := ha.lt; simp only [List.getElem?_cons_zero, List.getElem?_cons_succ] at ha0 ha1 hal; have hs0 := hs.cell 0; have hs1 := hs.cell 1; have hsf := hs.free; have hsl := hs.lt; simp only [List.getElem?_cons_zero, List.getElem?_cons_succ] at hs0 hs1 hsl; have hk0 := hk.cell 0; have hk1 := hk.cell 1; have hk2 := hk.cell 2; have hkf := hk.free; have hkl := hk.lt; simp only [List.getElem?_cons_zero, List.getElem?_cons_succ] at hk0 hk1 hk2 hkl; have ht0 := ht.cell 0; have ht1 := ht.cell 1; have htf := ht.free; have htl := ht.lt; simp only [List.getElem?_cons_zero, List.getElem?_cons_succ] at ht0 ht1 htl; have hc0 := hc.cell 0; have hc1 := hc.cell 1; have hcf := hc.free; have hcl := hc.lt; simp only [List.getElem?_cons_zero, List.getElem?_cons_succ] at hc0 hc1 hcl)
                    | (go_at_call 21; clear tk1; (with_reducible refine (HOFF.out (by first | rfl | assumption) _ hk).mono ?_); rintro e w2 ⟨rfl, h1, c1⟩; clear ha0 ha1 haf hal; replace ha := ha.chg c1 (ha.ne hk (by decide)); clear hs0 hs1 hsf hsl; replace hs := hs.chg c1 (hs.ne hk (by decide)); clear hk0 hk1 hk2 hkf hkl; clear ht0 ht1 htf htl; replace ht := ht.chg c1 (ht.ne hk (by decide)); clear hc0 hc1 hcf hcl; replace hc := hc.chg c1 (hc.ne hk (by decide)); replace HB := Lib.hid (grew_lift HB.out c1 (newb _ _ HN.out));  clear hk c1; have hk := h1; clear h1; have ha0 := ha.cell 0; have ha1 := ha.cell 1; have haf := ha.free; have hal := ha.lt; simp only [List.getElem?_cons_zero, List.getElem?_cons_succ] at ha0 ha1 hal; have hs0 := hs.cell 0; have hs1 := hs.cell 1; have hsf := hs.free; have hsl := hs.lt; simp only [List.getElem?_cons_zero, List.getElem?_cons_succ] at hs0 hs1 hsl; have hk0 := hk.cell 0; have hk1 := hk.cell 1; have hk2 := hk.cell 2; have hkf := hk.free; have hkl := hk.lt; simp only [List.getElem?_cons_zero, List.getElem?_cons_succ] at hk0 hk1 hk2 hkl; have ht0 := ht.cell 0; have ht1 := ht.cell 1; have htf := ht.free; have htl := ht.lt; simp only [List.getElem?_cons_zero, List.getElem?_cons_succ] at ht0 ht1 htl; have hc0 := hc.cell 0; have hc1 := hc.cell 1; have hcf := hc.free; have hcl := hc.lt; simp only [List.getElem?_cons_zero, List.getElem?_cons_succ] at hc0 hc1 hcl)
                    | (go_at_call 22; clear tk2; (with_reducible refine (HSAT.out (by first | rfl | assumption) _ hk).mono ?_); rintro e w3 ⟨rfl, h1, c1⟩; clear ha0 ha1 haf hal; replace ha := ha.chg c1 (ha.ne hk (by decide)); clear hs0 hs1 hsf hsl; replace hs := hs.chg c1 (hs.ne hk (by decide)); clear hk0 hk1 hk2 hkf hkl; clear ht0 ht1 htf htl; replace ht := ht.chg c1 (ht.ne hk (by decide)); clear hc0 hc1 hcf hcl; replace hc := hc.chg c1 (hc.ne hk (by decide)); replace HB := Lib.hid (grew_lift HB.out c1 (newb _ _ HN.out));  clear hk c1; have hk := h1; clear h1; have ha0 := ha.cell 0; have ha1 := ha.cell 1; have haf := ha.free; have hal := ha.lt; simp only [List.getElem?_cons_zero, List.getElem?_cons_succ] at ha0 ha1 hal; have hs0 := hs.cell 0; have hs1 := hs.cell 1; have hsf := hs.free; have hsl := hs.lt; simp only [List.getElem?_cons_zero, List.getElem?_cons_succ] at hs0 hs1 hsl; have hk0 := hk.cell 0; have hk1 := hk.cell 1; have hk2 := hk.cell 2; have hkf := hk.free; have hkl := hk.lt; simp only [List.getElem?_cons_zero, List.getElem?_cons_succ] at hk0 hk1 hk2 hkl; have ht0 := ht.cell 0; have ht1 := ht.cell 1; have htf := ht.free; have htl := ht.lt; simp only [List.getElem?_cons_zero, List.getElem?_cons_succ] at ht0 ht1 htl; have hc0 := hc.cell 0; have hc1 := hc.cell 1; have hcf := hc.free; have hcl := hc.lt; simp only [List.getElem?_cons_zero, List.getElem?_cons_succ] at hc0 hc1 hcl)
                    | (go_at_call 19; clear tk3; (with_reducible refine (epoch_st b z _ hk).mono ?_); rintro e w9 ⟨rfl, hw9⟩; subst w9;)
                    | (go_at_call 18; clear tk4; (with_reducible refine (now_any b z _ hk).mono ?_); rintro e w4 ⟨rfl, g1⟩; clear ha0 ha1 haf hal; replace ha := ha.grew g1; have ha0 := ha.cell 0; have ha1 := ha.cell 1; have haf := ha.free; have hal := ha.lt; simp only [List.getElem?_cons_zero, List.getElem?_cons_succ] at ha0 ha1 hal; clear hs0 hs1 hsf hsl; replace hs := hs.grew g1; have hs0 := hs.cell 0; have hs1 := hs.cell 1; have hsf := hs.free; have hsl := hs.lt; simp only [List.getElem?_cons_zero, List.getElem?_cons_succ] at hs0 hs1 hsl; clear hk0 hk1 hk2 hkf hkl; replace hk := hk.grew g1; have hk0 := hk.cell 0; have hk1 := hk.cell 1; have hk2 := hk.cell 2; have hkf := hk.free; have hkl := hk.lt; simp only [List.getElem?_cons_zero, List.getElem?_cons_succ] at hk0 hk1 hk2 hkl; clear ht0 ht1 htf htl; replace ht := ht.grew g1; have ht0 := ht.cell 0; have ht1 := ht.cell 1; have htf := ht.free; have htl := ht.lt; simp only [List.getElem?_cons_zero, List.getElem?_cons_succ] at ht0 ht1 htl; clear hc0 hc1 hcf hcl; replace hc := hc.grew g1; have hc0 := hc.cell 0; have hc1 := hc.cell 1; have hcf := hc.free; have hcl := hc.lt; simp only [List.getElem?_cons_zero, List.getElem?_cons_succ] at hc0 hc1 hcl; replace HB := Lib.hid (HB.out.trans g1); clear g1))
                  all_goals
                    have HAG : Hid (∀ W : World, Calls Try.prog 15 #[iv z.lo z.hi, iv tl th] W fun e' w' => e' = .returned (.tuple #[iv (z.lo - tl) (z.hi - th), .int .i64 0]) ∧ Grew W w') := Lib.hid fun W => age_round _ _ _ _ W HVZ.out (HJN.out (by omega)).2 (by omega)
                    have t0 : Atv ⟨T, 0, none⟩ (.int .i64 tl) w4.drew := (ht.grew (Grew.refl _).drw).atv 0 rfl
                    have t1 : Atv ⟨T, 1, none⟩ (.int .i64 th) w4.drew := (ht.grew (Grew.refl _).drw).atv 1 rfl
                    have hK : Blk b (ckc z) 36 w4.drew := hk.grew (Grew.refl _).drw
                    have hB : Grew w4 w4.drew := (Grew.refl _).drw
                    refine wp_sides [5] 7 [some 102, some 103, some 104, some 101, some 105, some 106, some 16] [false, false, false, false, false, false, false, false, false, false, false, false, false, false, false, false, true, false, false, false, false, false, false, false, false, false, false, false, false, false, false, false, false, false, false, false, false, false, false, false, false, false, false, false, false, false, false, false, false, false, false, false, false, false, false, false, false, false, false, false, false, false, false, false, false, false, false, false, false, false, false, false, false, false, false, false, false, false, false, false, false, false, false, false, false, false, false, false, false, false, false, false, false, false, false, false, false, false, false, false, false, true, true, true, true, true, true, false, false, false, false, false, false, false, false, false, false, false, false, false, false, false] [fun v _ => v = .agg #[.int .i64 (z.lo), .int .i64 (z.hi)], fun v _ => v = .agg #[.int .i64 (tl), .int .i64 (th)], fun v _ => v = .tuple #[.agg #[.int .i64 (z.lo - tl), .int .i64 (z.hi - th)], .int .i64 (0)], fun v _ => v = .tuple #[.agg #[.int .i64 (z.lo - tl), .int .i64 (z.hi - th)], .int .i64 (0)], fun v _ => v = .agg #[.int .i64 (z.lo - tl), .int .i64 (z.hi - th)], fun v _ => v = .int .i64 (0), fun v w => ∃ S, v = .pointer (some ⟨S, 0, none⟩) ∧ w4.heap.size ≤ S ∧ Blk S [.int .i64 (0), .int .i64 (0)] 25 w] (by kernel_rfl) (by kernel_rfl) (by kernel_rfl) (by kernel_rfl) (by kernel_rfl) (fun d _ _ _ _ h => by cases d <;> exact h) rfl ?_ ⟨fun u w hR hd => ⟨.int .i64 (0), fun w1 => run_ext (ev (hd.1 rfl)) rfl, rfl⟩, trivial⟩ ⟨?_, ?_, ?_, ?_, ?_, ?_, ?_, trivial⟩ ?_
                    · exact ⟨fun _ _ _ _ h => h, fun _ _ _ _ h => h, fun _ _ _ _ h => h, fun _ _ _ _ h => h, fun _ _ _ _ h => h, fun _ _ _ _ h => h, fun _ _ _ hg ⟨S, h1, h2, h3⟩ => ⟨S, h1, h2, h3.grew hg⟩, trivial⟩
                    · intro u w hR hd; exact runs_c1 enters_now (ev rfl) (callp (fun _ e => e) (now_any b z _ (hK.grew hR)))
                    · intro u w hR hd; exact rn_ld_25 (ev rfl) (t0.kept hR) (t1.kept hR) ⟨Grew.refl _, rfl⟩
                    · intro u w hR hd; exact runs_c2 enters_age (ev (hd.1 rfl)) (ev (hd.2.1 rfl)) (callp (fun _ e => e) (HAG.out _))
                    · intro u w hR hd; exact runs_mv (ev (hd.1 rfl)) ⟨Grew.refl _, rfl⟩
                    · intro u w hR hd; exact rn_ext (ev (hd.1 rfl)) rfl ⟨Grew.refl _, rfl⟩
                    · intro u w hR hd; exact rn_ext (ev (hd.1 rfl)) rfl ⟨Grew.refl _, rfl⟩
                    · intro u w hR hd; exact rn_alloc_25 ⟨(Grew.refl _).alloc _, ⟨_, rfl, Nat.le_trans hB.size hR.size, heap_alloc_new _ _⟩⟩
                    · intro u2 w7 hR hp
                      obtain ⟨S6, h5, hS6, hB6⟩ := hp 6 (by decide)
                      have h105 : u2 105 = iv (z.lo - tl) (z.hi - th) := hp 4 (by decide)
                      have h106 : u2 106 = .int .i64 0 := hp 5 (by decide)
                      refine wpAny_one (i := 7) none (by kernel_rfl) rfl rfl rfl (rn_st_25 (S := S6) (o := 0) (ev h5) (ev h105) (hB6.atv 0 rfl) (hB6.atv 1 rfl) hB6.free ?_)
                      refine wpAny_one (i := 8) (some 17) (by kernel_rfl) rfl rfl rfl (runs_mva (ev h106) ?_)
                      refine wpAny_done (by kernel_rfl) ?_ _
                      have g7 := hB.trans hR
                      have hlow : w0.heap.size ≤ S6 := Nat.le_trans HB.out.size hS6
                      have n1 := (hk.grew g7).ne hB6 (by decide)
                      have n2 : T ≠ S6 := fun e => by have := htl; omega
                      have n3 := (hc.grew g7).ne hB6 (by decide)
                      replace hk := ((hk.grew g7).other S6 0 (.int .i64 (z.lo - tl)) n1).other S6 1 (.int .i64 (z.hi - th)) n1
                      replace ht := ((ht.grew g7).other S6 0 (.int .i64 (z.lo - tl)) n2).other S6 1 (.int .i64 (z.hi - th)) n2
                      replace hc := ((hc.grew g7).other S6 0 (.int .i64 (z.lo - tl)) n3).other S6 1 (.int .i64 (z.hi - th)) n3
                      have hq := (hB6.set 0 (.int .i64 (z.lo - tl))).set 1 (.int .i64 (z.hi - th))
                      replace HB := Lib.hid (((HB.out.trans g7).sc hlow 0 (.int .i64 (z.lo - tl))).sc hlow 1 (.int .i64 (z.hi - th)))
                      simp only [Act.put, mixA, mixL, cond_true, cond_false, List.setIfInBounds_toArray, List.set_cons_succ, List.set_cons_zero]
                      simp only [List.set_cons_succ, List.set_cons_zero] at hq
                      have h5' : u2 16 = .pointer (some ⟨S6, 0, none⟩) := h5
                      rw [h5']
                      generalize hW : World.setCell (World.setCell w7 _ _) _ _ = W2
                      rw [hW] at hk ht hc HB
                      have hq : Blk S6 [.int .i64 (z.lo - tl), .int .i64 (z.hi - th)] 25 W2 := hW ▸ hq
                      have q0 := hq.cell 0
                      have q1 := hq.cell 1
                      simp only [List.getElem?_cons_zero, List.getElem?_cons_succ] at q0 q1
                      clear hW hp h5 h5' h105 h106 hB6 hlow n1 n2 n3 hR t0 t1 hB hS6 hK g7 hq ha hs ha0 ha1 haf hal hs0 hs1 hsf hsl hk0 hk1 hk2 hkf hkl ht0 ht1 htf htl hc0 hc1 hcf hcl
                      go_wp2
                      go_roundg (xs.length - (k + 1))
                      case measure => have := HLT.out; omega
                      case rel => exact ⟨k + 1, z, tl, th, ep0, P + (on + off), rfl, rfl, by go_num, HLT.out, rfl, HGN, HPB.out, Lib.hid ⟨hk, ht, hc, HB.out, HN.out, HNT.out⟩, HJN⟩
                · go_wp2_with (first
              | (go_at_call 20; clear tk0; (with_reducible refine (HRUN.out _ hk).mono ?_); rintro e w1 ⟨rfl, h1, c1⟩; clear ha0 ha1 haf hal; replace ha := ha.chg c1 (ha.ne hk (by decide)); clear hs0 hs1 hsf hsl; replace hs := hs.chg c1 (hs.ne hk (by decide)); clear hk0 hk1 hk2 hkf hkl; clear ht0 ht1 htf htl; replace ht := ht.chg c1 (ht.ne hk (by decide)); clear hc0 hc1 hcf hcl; replace hc := hc.chg c1 (hc.ne hk (by decide)); replace HB := Lib.hid (grew_lift HB.out c1 (newb _ _ HN.out));  clear hk c1; have hk := h1; clear h1; have ha0 := ha.cell 0; have ha1 := ha.cell 1; have haf := ha.free; have hal := ha.lt; simp only [List.getElem?_cons_zero, List.getElem?_cons_succ] at ha0 ha1 hal; have hs0 := hs.cell 0; have hs1 := hs.cell 1; have hsf := hs.free; have hsl := hs.lt; simp only [List.getElem?_cons_zero, List.getElem?_cons_succ] at hs0 hs1 hsl; have hk0 := hk.cell 0; have hk1 := hk.cell 1; have hk2 := hk.cell 2; have hkf := hk.free; have hkl := hk.lt; simp only [List.getElem?_cons_zero, List.getElem?_cons_succ] at hk0 hk1 hk2 hkl; have ht0 := ht.cell 0; have ht1 := ht.cell 1; have htf := ht.free; have htl := ht.lt; simp only [List.getElem?_cons_zero, List.getElem?_cons_succ] at ht0 ht1 htl; have hc0 := hc.cell 0; have hc1 := hc.cell 1; have hcf := hc.free; have hcl := hc.lt; simp only [List.getElem?_cons_zero, List.getElem?_cons_succ] at hc0 hc1 hcl)
              | (go_at_call 21; clear tk1; (with_reducible refine (HOFF.out (by first | rfl | assumption) _ hk).mono ?_); rintro e w2 ⟨rfl, h1, c1⟩; clear ha0 ha1 haf hal; replace ha := ha.chg c1 (ha.ne hk (by decide)); clear hs0 hs1 hsf hsl; replace hs := hs.chg c1 (hs.ne hk (by decide)); clear hk0 hk1 hk2 hkf hkl; clear ht0 ht1 htf htl; replace ht := ht.chg c1 (ht.ne hk (by decide)); clear hc0 hc1 hcf hcl; replace hc := hc.chg c1 (hc.ne hk (by decide)); replace HB := Lib.hid (grew_lift HB.out c1 (newb _ _ HN.out));  clear hk c1; have hk := h1; clear h1; have ha0 := ha.cell 0; have ha1 := ha.cell 1; have haf := ha.free; have hal := ha.lt; simp only [List.getElem?_cons_zero, List.getElem?_cons_succ] at ha0 ha1 hal; have hs0 := hs.cell 0; have hs1 := hs.cell 1; have hsf := hs.free; have hsl := hs.lt; simp only [List.getElem?_cons_zero, List.getElem?_cons_succ] at hs0 hs1 hsl; have hk0 := hk.cell 0; have hk1 := hk.cell 1; have hk2 := hk.cell 2; have hkf := hk.free; have hkl := hk.lt; simp only [List.getElem?_cons_zero, List.getElem?_cons_succ] at hk0 hk1 hk2 hkl; have ht0 := ht.cell 0; have ht1 := ht.cell 1; have htf := ht.free; have htl := ht.lt; simp only [List.getElem?_cons_zero, List.getElem?_cons_succ] at ht0 ht1 htl; have hc0 := hc.cell 0; have hc1 := hc.cell 1; have hcf := hc.free; have hcl := hc.lt; simp only [List.getElem?_cons_zero, List.getElem?_cons_succ] at hc0 hc1 hcl)
              | (go_at_call 22; clear tk2; (with_reducible refine (HSAT.out (by first | rfl | assumption) _ hk).mono ?_); rintro e w3 ⟨rfl, h1, c1⟩; clear ha0 ha1 haf hal; replace ha := ha.chg c1 (ha.ne hk (by decide)); clear hs0 hs1 hsf hsl; replace hs := hs.chg c1 (hs.ne hk (by decide)); clear hk0 hk1 hk2 hkf hkl; clear ht0 ht1 htf htl; replace ht := ht.chg c1 (ht.ne hk (by decide)); clear hc0 hc1 hcf hcl; replace hc := hc.chg c1 (hc.ne hk (by decide)); replace HB := Lib.hid (grew_lift HB.out c1 (newb _ _ HN.out));  clear hk c1; have hk := h1; clear h1; have ha0 := ha.cell 0; have ha1 := ha.cell 1; have haf := ha.free; have hal := ha.lt; simp only [List.getElem?_cons_zero, List.getElem?_cons_succ] at ha0 ha1 hal; have hs0 := hs.cell 0; have hs1 := hs.cell 1; have hsf := hs.free; have hsl := hs.lt; simp only [List.getElem?_cons_zero, List.getElem?_cons_succ] at hs0 hs1 hsl; have hk0 := hk.cell 0; have hk1 := hk.cell 1; have hk2 := hk.cell 2; have hkf := hk.free; have hkl := hk.lt; simp only [List.getElem?_cons_zero, List.getElem?_cons_succ] at hk0 hk1 hk2 hkl; have ht0 := ht.cell 0; have ht1 := ht.cell 1; have htf := ht.free; have htl := ht.lt; simp only [List.getElem?_cons_zero, List.getElem?_cons_succ] at ht0 ht1 htl; have hc0 := hc.cell 0; have hc1 := hc.cell 1; have hcf := hc.free; have hcl := hc.lt; simp only [List.getElem?_cons_zero, List.getElem?_cons_succ] at hc0 hc1 hcl)
              | (go_at_call 19; clear tk3; (with_reducible refine (epoch_st b z _ hk).mono ?_); rintro e w9 ⟨rfl, hw9⟩; subst w9;)
              | (go_at_call 18; clear tk4; (with_reducible refine (now_any b z _ hk).mono ?_); rintro e w4 ⟨rfl, g1⟩; clear ha0 ha1 haf hal; replace ha := ha.grew g1; have ha0 := ha.cell 0; have ha1 := ha.cell 1; have haf := ha.free; have hal := ha.lt; simp only [List.getElem?_cons_zero, List.getElem?_cons_succ] at ha0 ha1 hal; clear hs0 hs1 hsf hsl; replace hs := hs.grew g1; have hs0 := hs.cell 0; have hs1 := hs.cell 1; have hsf := hs.free; have hsl := hs.lt; simp only [List.getElem?_cons_zero, List.getElem?_cons_succ] at hs0 hs1 hsl; clear hk0 hk1 hk2 hkf hkl; replace hk := hk.grew g1; have hk0 := hk.cell 0; have hk1 := hk.cell 1; have hk2 := hk.cell 2; have hkf := hk.free; have hkl := hk.lt; simp only [List.getElem?_cons_zero, List.getElem?_cons_succ] at hk0 hk1 hk2 hkl; clear ht0 ht1 htf htl; replace ht := ht.grew g1; have ht0 := ht.cell 0; have ht1 := ht.cell 1; have htf := ht.free; have htl := ht.lt; simp only [List.getElem?_cons_zero, List.getElem?_cons_succ] at ht0 ht1 htl; clear hc0 hc1 hcf hcl; replace hc := hc.grew g1; have hc0 := hc.cell 0; have hc1 := hc.cell 1; have hcf := hc.free; have hcl := hc.lt; simp only [List.getElem?_cons_zero, List.getElem?_cons_succ] at hc0 hc1 hcl; replace HB := Lib.hid (HB.out.trans g1); clear g1))
                  all_goals
                    go_roundg (xs.length - (k + 1))
                    case measure => have := HLT.out; omega
                    case rel => exact ⟨k + 1, z, tl, th, ep0, P + (on + off), rfl, rfl, by go_num, HLT.out, rfl, HGN, HPB.out, Lib.hid ⟨hk, ht, hc, HB.out, HN.out, HNT.out⟩, HJN⟩
              · go_wp2_with (first
              | (go_at_call 20; clear tk0; (with_reducible refine (HRUN.out _ hk).mono ?_); rintro e w1 ⟨rfl, h1, c1⟩; clear ha0 ha1 haf hal; replace ha := ha.chg c1 (ha.ne hk (by decide)); clear hs0 hs1 hsf hsl; replace hs := hs.chg c1 (hs.ne hk (by decide)); clear hk0 hk1 hk2 hkf hkl; clear ht0 ht1 htf htl; replace ht := ht.chg c1 (ht.ne hk (by decide)); clear hc0 hc1 hcf hcl; replace hc := hc.chg c1 (hc.ne hk (by decide)); replace HB := Lib.hid (grew_lift HB.out c1 (newb _ _ HN.out));  clear hk c1; have hk := h1; clear h1; have ha0 := ha.cell 0; have ha1 := ha.cell 1; have haf := ha.free; have hal := ha.lt; simp only [List.getElem?_cons_zero, List.getElem?_cons_succ] at ha0 ha1 hal; have hs0 := hs.cell 0; have hs1 := hs.cell 1; have hsf := hs.free; have hsl := hs.lt; simp only [List.getElem?_cons_zero, List.getElem?_cons_succ] at hs0 hs1 hsl; have hk0 := hk.cell 0; have hk1 := hk.cell 1; have hk2 := hk.cell 2; have hkf := hk.free; have hkl := hk.lt; simp only [List.getElem?_cons_zero, List.getElem?_cons_succ] at hk0 hk1 hk2 hkl; have ht0 := ht.cell 0; have ht1 := ht.cell 1; have htf := ht.free; have htl := ht.lt; simp only [List.getElem?_cons_zero, List.getElem?_cons_succ] at ht0 ht1 htl; have hc0 := hc.cell 0; have hc1 := hc.cell 1; have hcf := hc.free; have hcl := hc.lt; simp only [List.getElem?_cons_zero, List.getElem?_cons_succ] at hc0 hc1 hcl)
              | (go_at_call 21; clear tk1; (with_reducible refine (HOFF.out (by first | rfl | assumption) _ hk).mono ?_); rintro e w2 ⟨rfl, h1, c1⟩; clear ha0 ha1 haf hal; replace ha := ha.chg c1 (ha.ne hk (by decide)); clear hs0 hs1 hsf hsl; replace hs := hs.chg c1 (hs.ne hk (by decide)); clear hk0 hk1 hk2 hkf hkl; clear ht0 ht1 htf htl; replace ht := ht.chg c1 (ht.ne hk (by decide)); clear hc0 hc1 hcf hcl; replace hc := hc.chg c1 (hc.ne hk (by decide)); replace HB := Lib.hid (grew_lift HB.out c1 (newb _ _ HN.out));  clear hk c1; have hk := h1; clear h1; have ha0 := ha.cell 0; have ha1 := ha.cell 1; have haf := ha.free; have hal := ha.lt; simp only [List.getElem?_cons_zero, List.getElem?_cons_succ] at ha0 ha1 hal; have hs0 := hs.cell 0; have hs1 := hs.cell 1; have hsf := hs.free; have hsl := hs.lt; simp only [List.getElem?_cons_zero, List.getElem?_cons_succ] at hs0 hs1 hsl; have hk0 := hk.cell 0; have hk1 := hk.cell 1; have hk2 := hk.cell 2; have hkf := hk.free; have hkl := hk.lt; simp only [List.getElem?_cons_zero, List.getElem?_cons_succ] at hk0 hk1 hk2 hkl; have ht0 := ht.cell 0; have ht1 := ht.cell 1; have htf := ht.free; have htl := ht.lt; simp only [List.getElem?_cons_zero, List.getElem?_cons_succ] at ht0 ht1 htl; have hc0 := hc.cell 0; have hc1 := hc.cell 1; have hcf := hc.free; have hcl := hc.lt; simp only [List.getElem?_cons_zero, List.getElem?_cons_succ] at hc0 hc1 hcl)
              | (go_at_call 22; clear tk2; (with_reducible refine (HSAT.out (by first | rfl | assumption) _ hk).mono ?_); rintro e w3 ⟨rfl, h1, c1⟩; clear ha0 ha1 haf hal; replace ha := ha.chg c1 (ha.ne hk (by decide)); clear hs0 hs1 hsf hsl; replace hs := hs.chg c1 (hs.ne hk (by decide)); clear hk0 hk1 hk2 hkf hkl; clear ht0 ht1 htf htl; replace ht := ht.chg c1 (ht.ne hk (by decide)); clear hc0 hc1 hcf hcl; replace hc := hc.chg c1 (hc.ne hk (by decide)); replace HB := Lib.hid (grew_lift HB.out c1 (newb _ _ HN.out));  clear hk c1; have hk := h1; clear h1; have ha0 := ha.cell 0; have ha1 := ha.cell 1; have haf := ha.free; have hal := ha.lt; simp only [List.getElem?_cons_zero, List.getElem?_cons_succ] at ha0 ha1 hal; have hs0 := hs.cell 0; have hs1 := hs.cell 1; have hsf := hs.free; have hsl := hs.lt; simp only [List.getElem?_cons_zero, List.getElem?_cons_succ] at hs0 hs1 hsl; have hk0 := hk.cell 0; have hk1 := hk.cell 1; have hk2 := hk.cell 2; have hkf := hk.free; have hkl := hk.lt; simp only [List.getElem?_cons_zero, List.getElem?_cons_succ] at hk0 hk1 hk2 hkl; have ht0 := ht.cell 0; have ht1 := ht.cell 1; have htf := ht.free; have htl := ht.lt; simp only [List.getElem?_cons_zero, List.getElem?_cons_succ] at ht0 ht1 htl; have hc0 := hc.cell 0; have hc1 := hc.cell 1; have hcf := hc.free; have hcl := hc.lt; simp only [List.getElem?_cons_zero, List.getElem?_cons_succ] at hc0 hc1 hcl)
              | (go_at_call 19; clear tk3; (with_reducible refine (epoch_st b z _ hk).mono ?_); rintro e w9 ⟨rfl, hw9⟩; subst w9;)
              | (go_at_call 18; clear tk4; (with_reducible refine (now_any b z _ hk).mono ?_); rintro e w4 ⟨rfl, g1⟩; clear ha0 ha1 haf hal; replace ha := ha.grew g1; have ha0 := ha.cell 0; have ha1 := ha.cell 1; have haf := ha.free; have hal := ha.lt; simp only [List.getElem?_cons_zero, List.getElem?_cons_succ] at ha0 ha1 hal; clear hs0 hs1 hsf hsl; replace hs := hs.grew g1; have hs0 := hs.cell 0; have hs1 := hs.cell 1; have hsf := hs.free; have hsl := hs.lt; simp only [List.getElem?_cons_zero, List.getElem?_cons_succ] at hs0 hs1 hsl; clear hk0 hk1 hk2 hkf hkl; replace hk := hk.grew g1; have hk0 := hk.cell 0; have hk1 := hk.cell 1; have hk2 := hk.cell 2; have hkf := hk.free; have hkl := hk.lt; simp only [List.getElem?_cons_zero, List.getElem?_cons_succ] at hk0 hk1 hk2 hkl; clear ht0 ht1 htf htl; replace ht := ht.grew g1; have ht0 := ht.cell 0; have ht1 := ht.cell 1; have htf := ht.free; have htl := ht.lt; simp only [List.getElem?_cons_zero, List.getElem?_cons_succ] at ht0 ht1 htl; clear hc0 hc1 hcf hcl; replace hc := hc.grew g1; have hc0 := hc.cell 0; have hc1 := hc.cell 1; have hcf := hc.free; have hcl := hc.lt; simp only [List.getElem?_cons_zero, List.getElem?_cons_succ] at hc0 hc1 hcl; replace HB := Lib.hid (HB.out.trans g1); clear g1))
                all_goals
                  go_roundg (xs.length - (k + 1))
                  case measure => have := HLT.out; omega
                  case rel => exact ⟨k + 1, z, tl, th, ep0, P + (on + off), rfl, rfl, by go_num, HLT.out, rfl, HGN, HPB.out, Lib.hid ⟨hk, ht, hc, HB.out, HN.out, HNT.out⟩, HJN⟩
      · obtain rfl : k = xs.length := by omega
        go_wp2
        go_ret
        exact ⟨rfl, HR.out.grew⟩
  · cases hr : okR e sa with
    | false =>
      rw [hr] at HV
      clear hr hin
      go_enter Try.func6, Try.ntmps6
      go_wp2_with (first
        | (go_at_call 13; clear tk0; generalize hW : World.alloc _ _ = V; have p : Blk (w0.heap.size) [.int .i64 e, .int .i64 sa] 23 V := (by subst hW; exact Blk.grew (w := (w0.alloc (.cells #[.int .i64 e, .int .i64 sa] 23))) (by simpa using Blk.new w0 [.int .i64 e, .int .i64 sa] 23) (by repeat (first | with_reducible exact Grew.refl _ | with_reducible refine Grew.alloc ?_ _ | with_reducible refine Grew.drw ?_ | with_reducible refine Grew.drwN ?_ _ | with_reducible refine Grew.sc ?_ (by first | omega | (simp <;> omega)) _ _))); have hv : Grew w0 V := (by subst hW; repeat (first | with_reducible exact Grew.refl _ | with_reducible refine Grew.alloc ?_ _ | with_reducible refine Grew.drw ?_ | with_reducible refine Grew.drwN ?_ _ | with_reducible refine Grew.sc ?_ (by first | omega | (simp <;> omega)) _ _)); clear hW; replace HB := Lib.hid (HB.out.trans hv); clear hv; (with_reducible refine (examples_any _).mono ?_); rintro e w1 ⟨rfl, g1⟩; replace p := p.grew g1; have p0 := p.cell 0; have p1 := p.cell 1; have pf := p.free; have pl := p.lt; simp only [List.getElem?_cons_zero, List.getElem?_cons_succ] at p0 p1 pl; replace HB := Lib.hid (HB.out.trans g1); clear g1)
        | (go_at_call 17; clear tk1; (with_reducible refine (HV.out _).mono ?_); rintro e w2 ⟨rfl, g1⟩; clear p0 p1 pf pl; replace p := p.grew g1; have p0 := p.cell 0; have p1 := p.cell 1; have pf := p.free; have pl := p.lt; simp only [List.getElem?_cons_zero, List.getElem?_cons_succ] at p0 p1 pl; replace HB := Lib.hid (HB.out.trans g1); clear g1)
        | (go_at_call 13; (with_reducible refine (examples_any _).mono ?_); rintro e w9 ⟨rfl, g1⟩; clear tk2; replace HB := Lib.hid (HB.out.trans g1); clear g1))
      all_goals go_ret
      all_goals exact ⟨rfl, HB.out⟩
    | true =>
      have hin2 : ¬ ((xs.length : Int) ≤ 60 ∧ 0 ≤ fr ∧ fr < xs.length) := fun hc => hin ⟨hr, hc⟩
      rw [hr] at HV
      clear hr hin
      go_enter Try.func6, Try.ntmps6
      go_wp2_with (first
        | (go_at_call 13; clear tk0; generalize hW : World.alloc _ _ = V; have p : Blk (w0.heap.size) [.int .i64 e, .int .i64 sa] 23 V := (by subst hW; exact Blk.grew (w := (w0.alloc (.cells #[.int .i64 e, .int .i64 sa] 23))) (by simpa using Blk.new w0 [.int .i64 e, .int .i64 sa] 23) (by repeat (first | with_reducible exact Grew.refl _ | with_reducible refine Grew.alloc ?_ _ | with_reducible refine Grew.drw ?_ | with_reducible refine Grew.drwN ?_ _ | with_reducible refine Grew.sc ?_ (by first | omega | (simp <;> omega)) _ _))); have hv : Grew w0 V := (by subst hW; repeat (first | with_reducible exact Grew.refl _ | with_reducible refine Grew.alloc ?_ _ | with_reducible refine Grew.drw ?_ | with_reducible refine Grew.drwN ?_ _ | with_reducible refine Grew.sc ?_ (by first | omega | (simp <;> omega)) _ _)); clear hW; replace HB := Lib.hid (HB.out.trans hv); clear hv; (with_reducible refine (examples_any _).mono ?_); rintro e w1 ⟨rfl, g1⟩; replace p := p.grew g1; have p0 := p.cell 0; have p1 := p.cell 1; have pf := p.free; have pl := p.lt; simp only [List.getElem?_cons_zero, List.getElem?_cons_succ] at p0 p1 pl; replace HB := Lib.hid (HB.out.trans g1); clear g1)
        | (go_at_call 17; clear tk1; (with_reducible refine (HV.out _).mono ?_); rintro e w2 ⟨rfl, g1⟩; clear p0 p1 pf pl; replace p := p.grew g1; have p0 := p.cell 0; have p1 := p.cell 1; have pf := p.free; have pl := p.lt; simp only [List.getElem?_cons_zero, List.getElem?_cons_succ] at p0 p1 pl; replace HB := Lib.hid (HB.out.trans g1); clear g1)
        | (go_at_call 13; (with_reducible refine (examples_any _).mono ?_); rintro e w9 ⟨rfl, g1⟩; clear tk2; replace HB := Lib.hid (HB.out.trans g1); clear g1))
      all_goals first | (exfalso; omega) | skip
      all_goals go_ret
      all_goals exact ⟨rfl, HB.out⟩
end Go.Proofs.Yteeecehfbmeohaa
