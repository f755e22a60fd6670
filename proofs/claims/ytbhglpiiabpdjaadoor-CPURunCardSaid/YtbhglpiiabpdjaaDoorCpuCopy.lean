/-
  LAYER 12 (cpu): Small, Copy, SameWorld of the reference.
-/
import Derived.Test.YtbhglpiiabpdjaaDoorShort
import Derived.Test.YtbhglpiiabpdjaaDoorCpuSave
namespace Go.Proofs.YtbhglpiiabpdjaaDoor
open Go Go.RowKit Go.IntWalk Go.WideShapes
set_option linter.unusedSimpArgs false
set_option linter.unusedVariables false
set_option maxRecDepth 8000
section
variable {dst : Option Tmp} {ty : TypeId} {pos : String} {after : Array Edge} {g : Option (Nat × Bool)} {a : Act} {w : World} {T : Value → World → Prop}
theorem rn_ret_c37 {fn : Func} {p0 : Tmp} (h : fn.results = #[.cell p0 37]) {tmps : Array Value} {w : World} {S0 : Nat} {v0_0 v0_1 v0_2 v0_3 : Value} {R : Ending → World → Prop} (hp0 : tmps.getD p0 undef = .pointer (some ⟨S0, 0, none⟩)) (h0_0 : w.cell? ⟨S0, 0, none⟩ = some v0_0) (h0_1 : w.cell? ⟨S0, 1, none⟩ = some v0_1) (h0_2 : w.cell? ⟨S0, 2, none⟩ = some v0_2) (h0_3 : w.cell? ⟨S0, 3, none⟩ = some v0_3) (hR : R (.returned (.agg #[v0_0, v0_1, v0_2, v0_3])) w) : bodyPost Tryd.prog fn R .ret { tmps := tmps, defers := [] } w := by
  refine bodyPost_ret (v := .agg #[v0_0, v0_1, v0_2, v0_3]) ?_ rfl hR
  rw [Array.getD_eq_getD_getElem?] at hp0
  simp [results, h, hp0, h0_0, h0_1, h0_2, h0_3, go_sem]
end
structure SmallW (I : Im) (W : Wd) : Prop where
  code : I.code.length ≤ 60
  gs : I.gs.length ≤ 20
  addr : I.addr.length ≤ 20
  chans : I.chans ≤ 20
  ws : W.ws.length ≤ 600
  rs : W.rs.length ≤ 60
  cs : W.cs.length = 0
def SmP (I : Im) (W : Wd) (w : World) (e : Ending) (w' : World) : Prop := ∃ b : Bool, e = .returned (.bool b) ∧ (b = true → SmallW I W) ∧ Grew w w'
set_option maxHeartbeats 4000000 in
theorem small_any (I : Im) (r : Rest) (gp ap kp hp : Option Addr) (gc ac kc hc : Nat) (W : Wd) (wp rp cp : Option Addr) (wc rc cc : Nat) (w : World) : Calls Tryd.prog 11 #[.agg #[r.v0, .slice gp I.gs.length gc, .int .i64 I.sens, .int .i64 I.outs, .slice hp I.chans hc, r.v5, .slice ap I.addr.length ac, r.v7, r.v8, r.v9, r.v10, .slice kp I.code.length kc], .agg #[.slice wp W.ws.length wc, .slice rp W.rs.length rc, .int .i64 W.fl, .slice cp W.cs.length cc]] w fun e w' => SmP I W w e w' := by
  go_enter Tryd.func11, Tryd.ntmps11
  go_upto_region 0 with fail
  refine wp_region_list ?_
  refine wpList_box_whole rfl _ _ rfl [r.v0, .slice gp I.gs.length gc, .int .i64 I.sens, .int .i64 I.outs, .slice hp I.chans hc, r.v5, .slice ap I.addr.length ac, r.v7, r.v8, r.v9, r.v10, .slice kp I.code.length kc] rfl fun w1 bx g1 => ?_
  simp only [zz1, zz2, zz3, Act.put, mixA, mixL, zz9, zz0, zz4, zz5, zz6]
  refine wpList_box_whole rfl _ _ rfl [.slice wp W.ws.length wc, .slice rp W.rs.length rc, .int .i64 W.fl, .slice cp W.cs.length cc] rfl fun V by' g2 => ?_
  simp only [zz1, zz2, zz3, Act.put, mixA, mixL, zz9, zz0, zz4, zz5, zz6]
  have HG := Lib.hid (g1.trans g2)
  replace bx := bx.grew g2
  have x1 := bx.cell 1
  have x4 := bx.cell 4
  have x6 := bx.cell 6
  have x11 := bx.cell 11
  have y0 := by'.cell 0
  have y1 := by'.cell 1
  have y3 := by'.cell 3
  simp only [zz7, zz8] at x1 x4 x6 x11 y0 y1 y3
  generalize w1.heap.size = Y at by' y0 y1 y3 ⊢
  clear bx by' g1 g2
  go_wp2
  all_goals go_ret
  all_goals refine ⟨_, rfl, fun hb => ?_, HG.out⟩
  all_goals first
    | (cases hb; done)
    | (have h7 : (W.cs.length : Int) = 0 := eq_of_beq hb; constructor <;> omega)
structure Wd.Small (W : Wd) : Prop where
  ws : W.ws.length ≤ 100000
  rs : W.rs.length ≤ 100000
  cs : W.cs.length ≤ 100000
/-- Rows of one's own with the content of a bus. -/
structure CopyOf (N : Nat) (w : World) (W : Wd) (wp rp cp : Option Addr) (wc rc cc : Nat) : Prop where
  ow : OwR w N 29 1 h16 (.slice wp W.ws.length wc) W.ws
  or : OwR w N 29 1 h16 (.slice rp W.rs.length rc) W.rs
  oc : OwR w N 96 3 clv (.slice cp W.cs.length cc) W.cs
  ne : ∀ a b, wp = some a → rp = some b → a.block ≠ b.block
theorem set4 (Z : Nat) (w : World) (a b c d : Value) : Chg w ((((w.setCell ⟨Z, 0, none⟩ a).setCell ⟨Z, 1, none⟩ b).setCell ⟨Z, 2, none⟩ c).setCell ⟨Z, 3, none⟩ d) (fun k => k = Z) := by
  have h0 : Chg w (w.setCell ⟨Z, 0, none⟩ a) (fun k => k = Z) := Chg.set w ⟨Z, 0, none⟩ a
  have h1 := h0.then_set ⟨Z, 1, none⟩ b rfl
  have h2 := h1.then_set ⟨Z, 2, none⟩ c rfl
  exact h2.then_set ⟨Z, 3, none⟩ d rfl
theorem CopyOf.chg {N Z : Nat} {w w' : World} {W : Wd} {wp rp cp : Option Addr} {wc rc cc : Nat} {vs : List Value} (h : CopyOf N w W wp rp cp wc rc cc) (hc : Chg w w' (fun k => k = Z)) (hZ : Blk Z vs 37 w) : CopyOf N w' W wp rp cp wc rc cc :=
  ⟨h.ow.chg hc fun a e e2 => by
    obtain ⟨cur, h1⟩ := h.ow.kind encH a e
    exact kinds_ne h1 hZ (by decide) e2, h.or.chg hc fun a e e2 => by
    obtain ⟨cur, h1⟩ := h.or.kind encH a e
    exact kinds_ne h1 hZ (by decide) e2, h.oc.chg hc fun a e e2 => by
    obtain ⟨cur, h1⟩ := h.oc.kind encL a e
    exact kinds_ne h1 hZ (by decide) e2, h.ne⟩
set_option maxHeartbeats 4000000 in
theorem copy_any (W : Wd) (wp rp cp : Option Addr) (wc rc cc : Nat) (w : World) (hw : Rw 1 h16 w wp wc W.ws) (hr : Rw 1 h16 w rp rc W.rs) (hc : Rw 3 clv w cp cc W.cs) (hl : W.Small) :
    Calls Tryd.prog 12 #[.agg #[.slice wp W.ws.length wc, .slice rp W.rs.length rc, .int .i64 W.fl, .slice cp W.cs.length cc]] w fun e w' => ∃ p0 p1 p2 c0 c1 c2, e = .returned (.agg #[.slice p0 W.ws.length c0, .slice p1 W.rs.length c1, .int .i64 W.fl, .slice p2 W.cs.length c2]) ∧ CopyOf w.heap.size w' W p0 p1 p2 c0 c1 c2 ∧ Grew w w' := by
  have HR0 := Lib.hid hw
  have HR1 := Lib.hid hr
  have HR2 := Lib.hid hc
  have HL : Hid (W.ws.length ≤ 100000 ∧ W.rs.length ≤ 100000 ∧ W.cs.length ≤ 100000) := Lib.hid ⟨hl.ws, hl.rs, hl.cs⟩
  clear hw hr hc hl
  go_enter Tryd.func12, Tryd.ntmps12
  go_upto_region 1 with fail
  generalize hW : World.alloc _ _ = u0
  have bx : Blk w.heap.size [.slice wp W.ws.length wc, .slice rp W.rs.length rc, .int .i64 W.fl, .slice cp W.cs.length cc] 37 u0 := by
    subst hW
    exact Blk.grew (Blk.new w [.slice wp W.ws.length wc, .slice rp W.rs.length rc, .int .i64 W.fl, .slice cp W.cs.length cc] 37) ((Grew.refl _).alloc _)
  have bz : Blk (w.heap.size + 1) [.slice none 0 0, .slice none 0 0, .int .i64 0, .slice none 0 0] 37 u0 := by
    subst hW
    have := Blk.new (w.alloc (.cells #[.slice wp W.ws.length wc, .slice rp W.rs.length rc, .int .i64 W.fl, .slice cp W.cs.length cc] 37)) [.slice none 0 0, .slice none 0 0, .int .i64 0, .slice none 0 0] 37
    simpa using this
  have HG : Hid (Grew w u0) := Lib.hid (by subst hW; exact ((Grew.refl _).alloc _).alloc _)
  clear hW
  have HZ := Lib.hid bz
  obtain ⟨B, hB⟩ : ∃ B, B = w.heap.size := ⟨_, rfl⟩
  obtain ⟨Z, hZ⟩ : ∃ Z, Z = w.heap.size + 1 := ⟨_, rfl⟩
  have HBZ : Hid (B ≠ Z) := Lib.hid (by omega)
  have HBL : Hid (w.heap.size ≤ B) := Lib.hid (by omega)
  have HZL : Hid (w.heap.size ≤ Z) := Lib.hid (by omega)
  rw [← hZ] at HZ ⊢
  rw [← hB] at bx ⊢
  clear hB hZ bz
  have y0 := bx.cell 0
  have y1 := bx.cell 1
  have y2 := bx.cell 2
  have y3 := bx.cell 3
  have yf := bx.free
  have yl := bx.lt
  simp only [zz7, zz8] at y0 y1 y2 y3
  go_upto_region 2 with (at_builtin; refine append_row2 encH rfl _ _ 34 rfl u0.heap.size 29 (.int .i16 0) 2 Tryd.underlying34 infoH rfl _ ([] : List Int) rfl (OwR.lit encH u0 [] 0 u0.heap.size _ _ rfl rfl (by omega) (Nat.le_refl _)) _ _ _ W.ws rfl rfl ((HR0.out.kept HG.out).kept ((Grew.refl _).alloc _)) (by have := HL.out; simp; omega) (by have := HL.out; simp; omega) (by simp) ?_; intro p0 c0 zs v0 hz ho hb hc hp; obtain rfl : W.ws = zs := (by simpa using hz.out.symm); have HB : Hid (Grew u0 v0) := Lib.hid (Below.trans ((Grew.refl u0).alloc _) hb); have HO0 := Lib.hid ho; clear y0 y1 y2 y3 yf yl ho hb hc hp hz; replace bx := bx.grew HB.out; have y0 := bx.cell 0; have y1 := bx.cell 1; have y2 := bx.cell 2; have y3 := bx.cell 3; have yf := bx.free; have yl := bx.lt; simp only [zz7, zz8] at y0 y1 y2 y3)
  generalize hW : World.setCell _ _ _ = u1
  have hs : Chg v0 u1 (fun k => k = B) := by subst hW; exact Chg.set _ _ _
  have hb2 := bx
  replace bx : Blk B [.slice p0 W.ws.length c0, .slice rp W.rs.length rc, .int .i64 W.fl, .slice cp W.cs.length cc] 37 u1 := by subst hW; exact hb2.set 0 (.slice p0 W.ws.length c0)
  have HZ2 : Hid (Blk Z [.slice none 0 0, .slice none 0 0, .int .i64 0, .slice none 0 0] 37 u1) := Lib.hid ((HZ.out.grew HB.out).chg hs fun e => HBZ.out e.symm)
  have ho0 : OwR u1 w.heap.size 29 1 h16 (.slice p0 W.ws.length c0) W.ws := OwR.chg (OwR.down HO0.out HG.out.sz) hs fun a e e2 => by
    obtain ⟨cur, h1⟩ := OwR.kind encH (OwR.down HO0.out HG.out.sz) a e
    exact kinds_ne h1 hb2 (by decide) e2
  have hg2 : Grew w u1 := grew_lift (HG.out.trans HB.out) hs fun k hk => by have e : k = B := hk; have := HBL.out; omega
  clear hs hW hb2 HZ HG HB HO0
  have HZ := Lib.hid HZ2.out
  have HG := Lib.hid hg2
  have HO0 := Lib.hid ho0
  clear HZ2 hg2 ho0
  clear y0 y1 y2 y3 yf yl
  have y0 := bx.cell 0
  have y1 := bx.cell 1
  have y2 := bx.cell 2
  have y3 := bx.cell 3
  have yf := bx.free
  have yl := bx.lt
  simp only [zz7, zz8] at y0 y1 y2 y3
  go_upto_region 3 with (at_builtin; refine append_row2 encH rfl _ _ 34 rfl u1.heap.size 29 (.int .i16 0) 2 Tryd.underlying34 infoH rfl _ ([] : List Int) rfl (OwR.lit encH u1 [] 0 u1.heap.size _ _ rfl rfl (by omega) (Nat.le_refl _)) _ _ _ W.rs rfl rfl ((HR1.out.kept HG.out).kept ((Grew.refl _).alloc _)) (by have := HL.out; simp; omega) (by have := HL.out; simp; omega) (by simp) ?_; intro p1 c1 zs v1 hz ho hb hc hp; obtain rfl : W.rs = zs := (by simpa using hz.out.symm); have HB : Hid (Grew u1 v1) := Lib.hid (Below.trans ((Grew.refl u1).alloc _) hb); have HO1 := Lib.hid ho; clear y0 y1 y2 y3 yf yl ho hb hc hp hz; replace bx := bx.grew HB.out; have y0 := bx.cell 0; have y1 := bx.cell 1; have y2 := bx.cell 2; have y3 := bx.cell 3; have yf := bx.free; have yl := bx.lt; simp only [zz7, zz8] at y0 y1 y2 y3)
  generalize hW : World.setCell _ _ _ = u2
  have hs : Chg v1 u2 (fun k => k = B) := by subst hW; exact Chg.set _ _ _
  have hb2 := bx
  replace bx : Blk B [.slice p0 W.ws.length c0, .slice p1 W.rs.length c1, .int .i64 W.fl, .slice cp W.cs.length cc] 37 u2 := by subst hW; exact hb2.set 1 (.slice p1 W.rs.length c1)
  have HZ2 : Hid (Blk Z [.slice none 0 0, .slice none 0 0, .int .i64 0, .slice none 0 0] 37 u2) := Lib.hid ((HZ.out.grew HB.out).chg hs fun e => HBZ.out e.symm)
  have ho0 : OwR u2 w.heap.size 29 1 h16 (.slice p0 W.ws.length c0) W.ws := OwR.chg (HO0.out.kept HB.out) hs fun a e e2 => by
    obtain ⟨cur, h1⟩ := OwR.kind encH (HO0.out.kept HB.out) a e
    exact kinds_ne h1 hb2 (by decide) e2
  have ho1 : OwR u2 w.heap.size 29 1 h16 (.slice p1 W.rs.length c1) W.rs := OwR.chg (OwR.down HO1.out HG.out.sz) hs fun a e e2 => by
    obtain ⟨cur, h1⟩ := OwR.kind encH (OwR.down HO1.out HG.out.sz) a e
    exact kinds_ne h1 hb2 (by decide) e2
  have HNE : Hid (∀ a b, p0 = some a → p1 = some b → a.block ≠ b.block) := Lib.hid fun a b e e2 => by
    have h1 := (OwR.place encH HO0.out a e).2
    have h2 := (OwR.place encH HO1.out b e2).1
    omega
  have hg2 : Grew w u2 := grew_lift (HG.out.trans HB.out) hs fun k hk => by have e : k = B := hk; have := HBL.out; omega
  clear hs hW hb2 HZ HG HB HO0 HO1
  have HZ := Lib.hid HZ2.out
  have HG := Lib.hid hg2
  have HO0 := Lib.hid ho0
  have HO1 := Lib.hid ho1
  clear HZ2 hg2 ho0 ho1
  clear y0 y1 y2 y3 yf yl
  have y0 := bx.cell 0
  have y1 := bx.cell 1
  have y2 := bx.cell 2
  have y3 := bx.cell 3
  have yf := bx.free
  have yl := bx.lt
  simp only [zz7, zz8] at y0 y1 y2 y3
  go_upto_region 4 with (at_builtin; refine append_row2 encL rfl _ _ 35 rfl u2.heap.size 96 (.agg #[.int .i64 0, .int .i64 0, .int .i64 0]) 24 Tryd.underlying35 infoL rfl _ ([] : List (Int × Int × Int)) rfl (OwR.lit encL u2 [] 0 u2.heap.size _ _ rfl rfl (by omega) (Nat.le_refl _)) _ _ _ W.cs rfl rfl ((HR2.out.kept HG.out).kept ((Grew.refl _).alloc _)) (by have := HL.out; simp; omega) (by have := HL.out; simp; omega) (by simp) ?_; intro p2 c2 zs v2 hz ho hb hc hp; obtain rfl : W.cs = zs := (by simpa using hz.out.symm); have HB : Hid (Grew u2 v2) := Lib.hid (Below.trans ((Grew.refl u2).alloc _) hb); have HO2 := Lib.hid ho; clear y0 y1 y2 y3 yf yl ho hb hc hp hz; replace bx := bx.grew HB.out; have y0 := bx.cell 0; have y1 := bx.cell 1; have y2 := bx.cell 2; have y3 := bx.cell 3; have yf := bx.free; have yl := bx.lt; simp only [zz7, zz8] at y0 y1 y2 y3)
  generalize hW : World.setCell _ _ _ = u3
  have hs : Chg v2 u3 (fun k => k = B) := by subst hW; exact Chg.set _ _ _
  have hb2 := bx
  replace bx : Blk B [.slice p0 W.ws.length c0, .slice p1 W.rs.length c1, .int .i64 W.fl, .slice p2 W.cs.length c2] 37 u3 := by subst hW; exact hb2.set 3 (.slice p2 W.cs.length c2)
  have HZ2 : Hid (Blk Z [.slice none 0 0, .slice none 0 0, .int .i64 0, .slice none 0 0] 37 u3) := Lib.hid ((HZ.out.grew HB.out).chg hs fun e => HBZ.out e.symm)
  have ho0 : OwR u3 w.heap.size 29 1 h16 (.slice p0 W.ws.length c0) W.ws := OwR.chg (HO0.out.kept HB.out) hs fun a e e2 => by
    obtain ⟨cur, h1⟩ := OwR.kind encH (HO0.out.kept HB.out) a e
    exact kinds_ne h1 hb2 (by decide) e2
  have ho1 : OwR u3 w.heap.size 29 1 h16 (.slice p1 W.rs.length c1) W.rs := OwR.chg (HO1.out.kept HB.out) hs fun a e e2 => by
    obtain ⟨cur, h1⟩ := OwR.kind encH (HO1.out.kept HB.out) a e
    exact kinds_ne h1 hb2 (by decide) e2
  have ho2 : OwR u3 w.heap.size 96 3 clv (.slice p2 W.cs.length c2) W.cs := OwR.chg (OwR.down HO2.out HG.out.sz) hs fun a e e2 => by
    obtain ⟨cur, h1⟩ := OwR.kind encL (OwR.down HO2.out HG.out.sz) a e
    exact kinds_ne h1 hb2 (by decide) e2
  have hg2 : Grew w u3 := grew_lift (HG.out.trans HB.out) hs fun k hk => by have e : k = B := hk; have := HBL.out; omega
  clear hs hW hb2 HZ HG HB HO0 HO1 HO2
  have HZ := Lib.hid HZ2.out
  have HG := Lib.hid hg2
  have HO0 := Lib.hid ho0
  have HO1 := Lib.hid ho1
  have HO2 := Lib.hid ho2
  clear HZ2 hg2 ho0 ho1 ho2
  clear y0 y1 y2 y3 yf yl
  have y0 := bx.cell 0
  have y1 := bx.cell 1
  have y2 := bx.cell 2
  have y3 := bx.cell 3
  have yf := bx.free
  have yl := bx.lt
  simp only [zz7, zz8] at y0 y1 y2 y3
  have z0 := HZ.out.cell 0
  have z1 := HZ.out.cell 1
  have z2 := HZ.out.cell 2
  have z3 := HZ.out.cell 3
  have zf := HZ.out.free
  have zl := HZ.out.lt
  simp only [zz7, zz8] at z0 z1 z2 z3
  have hs := set4 Z u3 (.slice p0 W.ws.length c0) (.slice p1 W.rs.length c1) (.int .i64 W.fl) (.slice p2 W.cs.length c2)
  have HG4 := Lib.hid (grew_lift HG.out hs fun k hk => by have e : k = Z := hk; have := HZL.out; omega)
  have HCO := Lib.hid (CopyOf.chg ⟨HO0.out, HO1.out, HO2.out, HNE.out⟩ hs HZ.out)
  clear hs
  go_wp2
  refine rn_ret_c37 Tryd.results12 (S0 := Z) (v0_0 := .slice p0 W.ws.length c0) (v0_1 := .slice p1 W.rs.length c1) (v0_2 := .int .i64 W.fl) (v0_3 := .slice p2 W.cs.length c2) rfl (by go_simp) (by go_simp) (by go_simp) (by go_simp) ⟨p0, p1, p2, c0, c1, c2, rfl, HCO.out, HG4.out⟩
end Go.Proofs.YtbhglpiiabpdjaaDoor
