/-
  LAYER 12 (cpu): whole structs by value: boxed, read, compared, built.
-/
import Derived.Test.YtbhglpiiabpdjaaDoorShort
import Derived.Test.YtbhglpiiabpdjaaDoorCpuAwake
import Derived.Laws.StructEq
namespace Go.Proofs.YtbhglpiiabpdjaaDoor
open Go Go.RowKit Go.IntWalk Go.WideShapes
set_option linter.unusedSimpArgs false
set_option linter.unusedVariables false
set_option maxRecDepth 8000
theorem all_range_eqI : ∀ (xs ys : List Int), xs.length = ys.length → ((List.range xs.length).all fun i => xs.getD i 0 == ys.getD i 0) = (xs == ys)
  | [], [], _ => rfl
  | x :: xs, y :: ys, h => by
    have ih := all_range_eqI xs ys (by simpa using h)
    rw [List.length_cons, List.range_succ_eq_map, List.all_cons, List.all_map]
    simp only [List.getD_cons_zero, Function.comp_def, List.getD_cons_succ, ih]
    simp [List.cons_beq_cons]
  | [], _ :: _, h => by simp at h
  | _ :: _, [], h => by simp at h
theorem run_equalIn_ints {P : Program} (w : World) (d : Nat) (t e : TypeId) (n : Nat) (ht : P.underlying t = some (.array n e)) (he : P.underlying e = some (.int .i16)) (hsz : ∀ w, (sizeOf e).run P w = .ok 1 w)
    (xs ys : List Int) (hx : xs.length = n) (hy : ys.length = n) :
    (Op.equalIn (d + 2) t (.agg (xs.map (Value.int .i16)).toArray) (.agg (ys.map (Value.int .i16)).toArray)).run P w = .ok (xs == ys) w := by
  rw [← all_range_eqI xs ys (hx.trans hy.symm), hx, List.range_eq_range', Op.equalIn]
  simp only [Sem.run_bind, run_underlying ht, Result.andThen_ok, hsz, Std.Legacy.Range.forIn_eq_forIn_range', Std.Legacy.Range.size, Nat.sub_zero, Nat.add_sub_cancel, Nat.div_one]
  have hl : ∀ i ∈ List.range' 0 n 1, i < n := fun i hi => by simpa using (List.mem_range'_1.1 hi).2
  generalize List.range' 0 n 1 = l at hl ⊢
  induction l with
  | nil => simp
  | cons i l ih =>
    have hi : i < n := hl i (by simp)
    have px : (part e (xs.map (Value.int .i16)).toArray (i * 1)).run P w = .ok (.int .i16 (xs.getD i 0)) w := by
      simp [part, isAgg, run_underlying he, List.getD, List.getElem?_eq_getElem (show i < xs.length by omega)]
    have py : (part e (ys.map (Value.int .i16)).toArray (i * 1)).run P w = .ok (.int .i16 (ys.getD i 0)) w := by
      simp [part, isAgg, run_underlying he, List.getD, List.getElem?_eq_getElem (show i < ys.length by omega)]
    have pe : (Op.equalIn (d + 1) e (.int .i16 (xs.getD i 0)) (.int .i16 (ys.getD i 0))).run P w = .ok (xs.getD i 0 == ys.getD i 0) w := run_equalIn_int w d e .i16 .i16 _ _ he
    simp only [List.forIn_cons, Sem.run_bind, px, py, pe, Result.andThen_ok, List.all_cons]
    cases hb : (xs.getD i 0 == ys.getD i 0)
    · simp
    · simp only [Bool.not_true, Bool.false_eq_true, if_false, Sem.run_pure, Result.andThen_ok, Bool.true_and]
      exact ih fun j hj => hl j (by simp [hj])
def St.rs (s : St) : List Value := (s.xs.take 8).map (Value.int .i16)
def St.fs (s : St) : List Value := (s.xs.drop 8).map (Value.int .i16)
theorem St.Ok.rl {s : St} (h : s.Ok) : s.rs.length = 8 := by simp [St.rs, h.len]
theorem St.Ok.fl {s : St} (h : s.Ok) : s.fs.length = 64 := by simp [St.fs, h.len]
theorem rng_rs {s : St} {B : Nat} {e : TypeId} {w : World} (hb : Blk B (stv s) e w) : w.rangeAt B 1 s.rs := fun j v hv => by
  rw [hb.cell, Nat.add_comm]
  simp only [stv, zz8]
  rw [← hv, St.rs, List.map_take, List.getElem?_take]
  split
  · rfl
  · rename_i hj
    rw [St.rs, List.map_take, List.getElem?_take, if_neg hj] at hv
    cases hv
theorem rng_fs {s : St} {B : Nat} {e : TypeId} {w : World} (hb : Blk B (stv s) e w) : w.rangeAt B 9 s.fs := fun j v hv => by
  rw [hb.cell, show 9 + j = (8 + j) + 1 by omega]
  simp only [stv, zz8]
  rw [← hv, St.fs, List.map_drop, List.getElem?_drop]
theorem size8 : (Tryd.prog.info? 30).map (·.size) = some 8 := by kernel_rfl
theorem size64 : (Tryd.prog.info? 31).map (·.size) = some 64 := by kernel_rfl
theorem ld_rs {s : St} (hs : s.Ok) {B : Nat} {e : TypeId} {w : World} (hb : Blk B (stv s) e w) : (Instr.loadAt 30 (.pointer (some ⟨B, 1, none⟩))).run Tryd.prog w = .ok (.agg s.rs.toArray) w :=
  run_loadAt_mid w B 1 30 s.rs _ (rng_rs hb) Tryd.underlying30 rfl (by rw [size8, hs.rl])
theorem ld_fs {s : St} (hs : s.Ok) {B : Nat} {e : TypeId} {w : World} (hb : Blk B (stv s) e w) : (Instr.loadAt 31 (.pointer (some ⟨B, 9, none⟩))).run Tryd.prog w = .ok (.agg s.fs.toArray) w :=
  run_loadAt_mid w B 9 31 s.fs _ (rng_fs hb) Tryd.underlying31 rfl (by rw [size64, hs.fl])
theorem eq8 {s t : St} (hs : s.Ok) (ht : t.Ok) (w : World) : (binOp .eql 30 (.agg s.rs.toArray) (.agg t.rs.toArray)).run Tryd.prog w = .ok (.bool (s.xs.take 8 == t.xs.take 8)) w := by
  rw [run_eql_struct]
  unfold St.rs
  rw [run_equalIn_ints w 9998 30 29 8 Tryd.underlying30 Tryd.underlying29 (fun _ => by kernel_rfl) _ _ (by simp [hs.len]) (by simp [ht.len])]
  rfl
theorem eq64 {s t : St} (hs : s.Ok) (ht : t.Ok) (w : World) : (binOp .eql 31 (.agg s.fs.toArray) (.agg t.fs.toArray)).run Tryd.prog w = .ok (.bool (s.xs.drop 8 == t.xs.drop 8)) w := by
  rw [run_eql_struct]
  unfold St.fs
  rw [run_equalIn_ints w 9998 31 29 64 Tryd.underlying31 Tryd.underlying29 (fun _ => by kernel_rfl) _ _ (by simp [hs.len]) (by simp [ht.len])]
  rfl
section
variable {ops : Array Oper} {rest : List Oper} {o : Oper} {a : Act} {Q : Exit → Act → World → Prop} {w : World}
/-- A parameter of a struct type gets a variable of its own. -/
theorem wpList_box_whole {P : Program} (hg : o.guard = none) (t : TypeId) (x : Operand) (ho : o.op = .box t x) (vs : List Value) (hx : a.eval x = .agg vs.toArray)
    (h : ∀ w', Blk w.heap.size vs t w' → Grew w w' → wpList P ops Q rest (a.put o.dst (.pointer (some ⟨w.heap.size, 0, none⟩))) w') : wpList P ops Q (o :: rest) a w := by
  refine wpList_plain hg fun K hK => ?_
  unfold Oper.wp execOp
  simp only [ho, hx, Sem.run_bind, Instr.box, newVar, newRow, run_newObj_alloc, Sem.run_pure, Result.andThen_ok]
  exact hK _ _ (h _ (Blk.new w vs t) ((Grew.refl _).alloc _))
end
/-- A processor is handed back. -/
theorem ret_cp {fn : Func} {p0 : Tmp} (h : fn.results = #[.cell p0 CPT]) {tmps : Array Value} {w : World} {S0 : Nat} {s : St} {R : Ending → World → Prop} (hs : s.Ok) (hp0 : tmps.getD p0 undef = .pointer (some ⟨S0, 0, none⟩)) (hb : Blk S0 (stv s) CPT w)
    (hR : R (.returned (.agg (stv s).toArray)) w) : bodyPost Tryd.prog fn R .ret { tmps := tmps, defers := [] } w := by
  refine bodyPost_ret (v := .agg (stv s).toArray) ?_ rfl hR
  rw [Array.getD_eq_getD_getElem?] at hp0
  have hl := run_loadVar_mid (P := Tryd.prog) w S0 0 CPT (stv s) _ hb.range Tryd.underlying43 rfl (by rw [sizeC, stv_len hs])
  simp [results, h, hp0, asAddr, hl]
theorem built_ofn (p : Int) (f : Fin 72 → Int) : Tryd.prog.built CPT [(0, .int .i64 p), (1, .agg (((List.ofFn f).take 8).map (Value.int .i16)).toArray), (2, .agg (((List.ofFn f).drop 8).map (Value.int .i16)).toArray)] = some (.int .i64 p :: (List.ofFn f).map (Value.int .i16)).toArray := by kernel_rfl
theorem built_cp {s : St} (hs : s.Ok) : Tryd.prog.built CPT [(0, .int .i64 s.pc), (1, .agg s.rs.toArray), (2, .agg s.fs.toArray)] = some (stv s).toArray := by
  obtain ⟨p, xs⟩ := s
  have hl : xs.length = 72 := hs.len
  obtain ⟨f, rfl⟩ : ∃ f : Fin 72 → Int, xs = List.ofFn f := ⟨fun i => xs[i.val]'(by have := i.isLt; omega), by
    apply List.ext_getElem
    · rw [List.length_ofFn, hl]
    · intro i h1 h2; rw [List.getElem_ofFn]⟩
  exact built_ofn p f
theorem wpList_taken {P : Program} {ops : Array Oper} {rest : List Oper} {o : Oper} {a : Act} {w : World} {Q : Exit → Act → World → Prop} (hw : Region.wanted o (yielded ops a.tmps) = true) (d : Option Tmp) (hd : o.dst = d) (h : Runs P o a w fun v w' => wpList P ops Q rest (a.put d v) w') : wpList P ops Q (o :: rest) a w := by
  subst hd
  exact wpList_step fun K hK => by rw [if_pos hw]; exact h _ _ fun v w' h => hK _ _ h
theorem runs_to {P : Program} {o : Oper} {a : Act} {w : World} {T : Value → World → Prop} {v u : Value} (hr : Runs P o a w fun x w' => x = v ∧ w' = w) (h : v = u) (ht : T u w) : Runs P o a w T := fun K Q hk => hr K Q fun x w' ⟨h1, h2⟩ => hk _ _ (by subst h1 h2 h; exact ht)
theorem runs_ldm {P : Program} {dst : Option Tmp} {ty : TypeId} {pos : String} {after : Array Edge} {g : Option (Nat × Bool)} {a : Act} {w : World} {T : Value → World → Prop} (t : TypeId) {x : Operand} {b o : Nat} {cs : List Value} {d : TypeDesc} (hx : a.eval x = .pointer (some ⟨b, o, none⟩)) (hc : w.rangeAt b o cs) (hu : P.underlying t = some d) (hd : d.isRow = true) (hi : (P.info? t).map (·.size) = some cs.length)
    (h : T (.agg cs.toArray) w) : Runs P ⟨dst, .load t x, ty, pos, after, g⟩ a w T := fun K Q hk => wp_load_mid t x rfl b o hx cs d hc hu hd hi (hk _ _ h)
section
variable {dst : Option Tmp} {ty : TypeId} {pos : String} {after : Array Edge} {g : Option (Nat × Bool)} {a : Act} {w : World} {T : Value → World → Prop}
theorem rn_fld_33_0 {x : Operand} {S o : Nat} (hx : a.eval x = .pointer (some ⟨S, o, none⟩)) (h : T (.pointer (some ⟨S, o, none⟩)) w) : Runs Tryd.prog ⟨dst, .fieldAddr 33 x 0, ty, pos, after, g⟩ a w T := by
  refine Runs.value (v := .pointer (some ⟨S, o, none⟩)) (w' := w) ?_ h
  simp only [execOp, hx]
  go_simp
theorem rn_fld_33_1 {x : Operand} {S o : Nat} (hx : a.eval x = .pointer (some ⟨S, o, none⟩)) (h : T (.pointer (some ⟨S, o + 1, none⟩)) w) : Runs Tryd.prog ⟨dst, .fieldAddr 33 x 1, ty, pos, after, g⟩ a w T := by
  refine Runs.value (v := .pointer (some ⟨S, o + 1, none⟩)) (w' := w) ?_ h
  simp only [execOp, hx]
  go_simp
theorem rn_fld_33_2 {x : Operand} {S o : Nat} (hx : a.eval x = .pointer (some ⟨S, o, none⟩)) (h : T (.pointer (some ⟨S, o + 9, none⟩)) w) : Runs Tryd.prog ⟨dst, .fieldAddr 33 x 2, ty, pos, after, g⟩ a w T := by
  refine Runs.value (v := .pointer (some ⟨S, o + 9, none⟩)) (w' := w) ?_ h
  simp only [execOp, hx]
  go_simp
theorem grd8 : Tryd.prog.eqGuardType Tryd.prog.depth 30 = false := by kernel_rfl
theorem grd64 : Tryd.prog.eqGuardType Tryd.prog.depth 31 = false := by kernel_rfl
theorem runs_eqA {dst : Option Tmp} {ty : TypeId} {pos : String} {after : Array Edge} {g : Option (Nat × Bool)} {a : Act} {w : World} {T : Value → World → Prop} {t t2 : TypeId} {x y : Operand} {u v : Array Value} {b : Bool} (hx : a.eval x = .agg u) (hy : a.eval y = .agg v) (he : (binOp .eql t (.agg u) (.agg v)).run Tryd.prog w = .ok (.bool b) w) (hg : Tryd.prog.eqGuardType Tryd.prog.depth t = false) (h : T (.bool b) w) : Runs Tryd.prog ⟨dst, .binOp .eql t x y t2, ty, pos, after, g⟩ a w T := by
  refine Runs.value (v := .bool b) (w' := w) ?_ h
  simp only [execOp, hx, hy]
  simp [Sem.run_bind, run_eqGuard_agg, hg, he]
theorem rn_eql_3 {o1 o2 : Operand} {b c : Int} (hx : a.eval o1 = .int .i64 b) (hy : a.eval o2 = .int .i64 c) (h : T (.bool (b == c)) w) : Runs Tryd.prog ⟨dst, .binOp .eql 3 o1 o2 3, ty, pos, after, g⟩ a w T := by
  refine Runs.value (v := .bool (b == c)) (w' := w) ?_ h
  simp only [execOp, hx, hy]
  go_simp
theorem wpList_built {ops : Array Oper} {rest : List Oper} {o : Oper} {Q : Exit → Act → World → Prop} (hg : o.guard = none) (t : TypeId) (parts : Array (Nat × Operand)) (ps : List (Nat × Operand)) (hp : parts = ps.toArray) (ho : o.op = .build t parts) (cs : Array Value)
    (hb : Tryd.prog.built t (ps.map fun (i, x) => (i, a.eval x)) = some cs)
    (h : wpList Tryd.prog ops Q rest (a.put o.dst (.agg cs)) w) : wpList Tryd.prog ops Q (o :: rest) a w := by
  have e : (parts.map fun (i, x) => (i, a.eval x)).toList = ps.map fun (i, x) => (i, a.eval x) := by rw [hp]; simp
  exact wpList_build hg t parts ho (by rw [e, hb]; rfl) (by rw [e, hb]; exact h)
end
set_option maxHeartbeats 4000000 in
/-- own: the reference's state as a processor. -/
theorem own_any (s : St) (hs : s.Ok) (w : World) : Calls Tryd.prog 13 #[.agg (stv s).toArray] w fun e w' => e = .returned (.agg (stv s).toArray) ∧ Grew w w' := by
  have HS := Lib.hid hs
  clear hs
  go_enter Tryd.func13, Tryd.ntmps13
  go_upto_region 0 with fail
  refine wp_region_list ?_
  refine wpList_box_whole rfl _ _ rfl (stv s) rfl fun w1 hB1 g1 => ?_
  refine alloc_cpu rfl rfl fun w2 hB2 g2 => ?_
  have HG := Lib.hid (g1.trans g2)
  replace hB1 := hB1.grew g2
  have l1 := ld_rs HS.out hB1
  have l2 := ld_fs HS.out hB1
  have c0 : w2.cell? ⟨w.heap.size, 0, none⟩ = some (.int .i64 s.pc) := hB1.cell 0
  have hne : w.heap.size ≤ w1.heap.size := g1.sz
  generalize w1.heap.size = B at hB2 hne ⊢
  clear g1 g2
  simp only [zz1, zz2, zz3, Act.put, mixA, mixL, zz9, zz0, zz4, zz5, zz6]
  go_upto_region 1 with fail
  refine wp_region_list ?_
  refine wpList_runs rfl (some 3) rfl (rn_fld_33_0 (ev rfl) ?_)
  simp only [zz1, zz2, zz3, Act.put, mixA, mixL, zz9, zz0, zz4, zz5, zz6]
  refine wpList_runs rfl (some 4) rfl (rn_ld_3 (ev rfl) c0 ?_)
  simp only [zz1, zz2, zz3, Act.put, mixA, mixL, zz9, zz0, zz4, zz5, zz6]
  refine wpList_runs rfl (some 5) rfl (rn_fld_33_1 (ev rfl) ?_)
  simp only [zz1, zz2, zz3, Act.put, mixA, mixL, zz9, zz0, zz4, zz5, zz6]
  refine wpList_load_mid rfl 30 (.tmp 5) rfl w.heap.size 1 rfl s.rs _ (rng_rs hB1) Tryd.underlying30 rfl (by rw [size8, HS.out.rl]) ?_
  simp only [zz1, zz2, zz3, Act.put, mixA, mixL, zz9, zz0, zz4, zz5, zz6]
  refine wpList_runs rfl (some 7) rfl (rn_fld_33_2 (ev rfl) ?_)
  simp only [zz1, zz2, zz3, Act.put, mixA, mixL, zz9, zz0, zz4, zz5, zz6]
  refine wpList_load_mid rfl 31 (.tmp 7) rfl w.heap.size 9 rfl s.fs _ (rng_fs hB1) Tryd.underlying31 rfl (by rw [size64, HS.out.fl]) ?_
  simp only [zz1, zz2, zz3, Act.put, mixA, mixL, zz9, zz0, zz4, zz5, zz6]
  refine wpList_built rfl CPT _ [(0, .tmp 4), (1, .tmp 6), (2, .tmp 8)] rfl rfl _ (built_cp HS.out) ?_
  simp only [zz1, zz2, zz3, Act.put, mixA, mixL, zz9, zz0, zz4, zz5, zz6]
  refine store_st sizeC rfl (.tmp 2) (.tmp 9) rfl B rfl s zst HS.out zst_ok rfl hB2 fun w6 hB6 c6 => ?_
  have HG6 : Hid (Grew w w6) := Lib.hid (grew_lift HG.out c6 fun k hk => by have e : k = B := hk; omega)
  clear l1 l2 c0 c6 hB1 hB2
  simp only [zz1, zz2, zz3, Act.put, mixA, mixL, zz9, zz0, zz4, zz5, zz6]
  go_wp2
  refine ret_cp Tryd.results13 HS.out rfl hB6 ?_
  exact ⟨rfl, HG6.out⟩
set_option maxHeartbeats 4000000 in
/-- same of a processor and a state that are the same. -/
theorem same_self (s : St) (hs : s.Ok) (w : World) : Calls Tryd.prog 16 #[.agg (stv s).toArray, .agg (stv s).toArray] w fun e w' => e = .returned (.bool true) ∧ Grew w w' := by
  have HS := Lib.hid hs
  clear hs
  go_enter Tryd.func16, Tryd.ntmps16
  go_upto_region 0 with fail
  refine wp_region_list ?_
  refine wpList_box_whole rfl _ _ rfl (stv s) rfl fun w1 hB1 g1 => ?_
  refine wpList_box_whole rfl _ _ rfl (stv s) rfl fun w2 hB2 g2 => ?_
  have HG := Lib.hid (g1.trans g2)
  replace hB1 := hB1.grew g2
  generalize w1.heap.size = B at hB2 ⊢
  simp only [zz1, zz2, zz3, Act.put, mixA, mixL, zz9, zz0, zz4, zz5, zz6]
  go_upto_region 1 with fail
  have e8 := fun W => eq8 HS.out HS.out W
  have e64 := fun W => eq64 HS.out HS.out W
  simp only [BEq.rfl] at e8 e64
  have c1 : w2.cell? ⟨w.heap.size, 0, none⟩ = some (.int .i64 s.pc) := hB1.cell 0
  have c2 : w2.cell? ⟨B, 0, none⟩ = some (.int .i64 s.pc) := hB2.cell 0
  refine wp_region_list ?_
  refine wpList_runs rfl (some 5) rfl (rn_fld_43_0 (ev rfl) ?_)
  simp only [zz1, zz2, zz3, Act.put, mixA, mixL, zz9, zz0, zz4, zz5, zz6]
  refine wpList_runs rfl (some 6) rfl (rn_ld_3 (ev rfl) c1 ?_)
  simp only [zz1, zz2, zz3, Act.put, mixA, mixL, zz9, zz0, zz4, zz5, zz6]
  refine wpList_runs rfl (some 7) rfl (rn_fld_33_0 (ev rfl) ?_)
  simp only [zz1, zz2, zz3, Act.put, mixA, mixL, zz9, zz0, zz4, zz5, zz6]
  refine wpList_runs rfl (some 8) rfl (rn_ld_3 (ev rfl) c2 ?_)
  simp only [zz1, zz2, zz3, Act.put, mixA, mixL, zz9, zz0, zz4, zz5, zz6]
  refine wpList_runs rfl (some 9) rfl (runs_to (v := .bool ((s.pc) == (s.pc))) (u := .bool (true)) (rn_eql_3 (ev rfl) (ev rfl) ⟨rfl, rfl⟩) (congrArg Value.bool (by simp)) ?_)
  simp only [zz1, zz2, zz3, Act.put, mixA, mixL, zz9, zz0, zz4, zz5, zz6]
  refine wpList_runs rfl (some 10) rfl (runs_mv (ev rfl) ?_)
  simp only [zz1, zz2, zz3, Act.put, mixA, mixL, zz9, zz0, zz4, zz5, zz6]
  refine wpList_taken rfl (some 11) rfl (rn_fld_43_1 (ev rfl) ?_)
  simp only [zz1, zz2, zz3, Act.put, mixA, mixL, zz9, zz0, zz4, zz5, zz6]
  refine wpList_taken rfl (some 12) rfl (runs_ldm 30 (ev rfl) (rng_rs hB1) Tryd.underlying30 rfl (by rw [size8, HS.out.rl]) ?_)
  simp only [zz1, zz2, zz3, Act.put, mixA, mixL, zz9, zz0, zz4, zz5, zz6]
  refine wpList_taken rfl (some 13) rfl (rn_fld_33_1 (ev rfl) ?_)
  simp only [zz1, zz2, zz3, Act.put, mixA, mixL, zz9, zz0, zz4, zz5, zz6]
  refine wpList_taken rfl (some 14) rfl (runs_ldm 30 (ev rfl) (rng_rs hB2) Tryd.underlying30 rfl (by rw [size8, HS.out.rl]) ?_)
  simp only [zz1, zz2, zz3, Act.put, mixA, mixL, zz9, zz0, zz4, zz5, zz6]
  refine wpList_taken rfl (some 15) rfl (runs_eqA (ev rfl) (ev rfl) (e8 _) grd8 ?_)
  simp only [zz1, zz2, zz3, Act.put, mixA, mixL, zz9, zz0, zz4, zz5, zz6]
  refine wpList_runs rfl (some 16) rfl (runs_an (ev rfl) (fun hb => ev (rfl)) ?_)
  simp only [zz1, zz2, zz3, Act.put, mixA, mixL, zz9, zz0, zz4, zz5, zz6]
  refine wpList_runs rfl (some 17) rfl (runs_mv (ev rfl) ?_)
  simp only [zz1, zz2, zz3, Act.put, mixA, mixL, zz9, zz0, zz4, zz5, zz6]
  refine wpList_taken rfl (some 18) rfl (rn_fld_43_2 (ev rfl) ?_)
  simp only [zz1, zz2, zz3, Act.put, mixA, mixL, zz9, zz0, zz4, zz5, zz6]
  refine wpList_taken rfl (some 19) rfl (runs_ldm 31 (ev rfl) (rng_fs hB1) Tryd.underlying31 rfl (by rw [size64, HS.out.fl]) ?_)
  simp only [zz1, zz2, zz3, Act.put, mixA, mixL, zz9, zz0, zz4, zz5, zz6]
  refine wpList_taken rfl (some 20) rfl (rn_fld_33_2 (ev rfl) ?_)
  simp only [zz1, zz2, zz3, Act.put, mixA, mixL, zz9, zz0, zz4, zz5, zz6]
  refine wpList_taken rfl (some 21) rfl (runs_ldm 31 (ev rfl) (rng_fs hB2) Tryd.underlying31 rfl (by rw [size64, HS.out.fl]) ?_)
  simp only [zz1, zz2, zz3, Act.put, mixA, mixL, zz9, zz0, zz4, zz5, zz6]
  refine wpList_taken rfl (some 22) rfl (runs_eqA (ev rfl) (ev rfl) (e64 _) grd64 ?_)
  simp only [zz1, zz2, zz3, Act.put, mixA, mixL, zz9, zz0, zz4, zz5, zz6]
  refine wpList_runs rfl (some 23) rfl (runs_an (ev rfl) (fun hb => ev (rfl)) ?_)
  simp only [zz1, zz2, zz3, Act.put, mixA, mixL, zz9, zz0, zz4, zz5, zz6]
  refine wpList_runs rfl (some 4) rfl (runs_mva (ev rfl) ?_)
  simp only [zz1, zz2, zz3, Act.put, mixA, mixL, zz9, zz0, zz4, zz5, zz6]
  clear e8 e64 c1 c2 hB1 hB2 g1 g2
  go_wp2
  go_ret
  exact ⟨rfl, HG.out⟩
end Go.Proofs.YtbhglpiiabpdjaaDoor
