/-
  LAYER 12 (cpu): the operand of an instruction.
-/
import Derived.Test.YtbhglpiiabpdjaaDoorShort
import Derived.Test.YtbhglpiiabpdjaaDoorCpuPerfOps
namespace Go.Proofs.YtbhglpiiabpdjaaDoor
open Go Go.RowKit Go.IntWalk Go.WideShapes
set_option linter.unusedSimpArgs false
set_option linter.unusedVariables false
set_option maxRecDepth 8000
section
variable {dst : Option Tmp} {ty : TypeId} {pos : String} {after : Array Edge} {g : Option (Nat × Bool)} {a : Act} {w : World} {T : Value → World → Prop}
theorem rn_cv_29_3 {x : Operand} {z : Int} (hx : a.eval x = .int .i16 z) (hb : -9223372036854775808 ≤ z ∧ z ≤ 9223372036854775807) (h : T (.int .i64 z) w) : Runs Tryd.prog ⟨dst, .convert 29 3 x, ty, pos, after, g⟩ a w T := by
  refine Runs.value (v := .int .i64 z) (w' := w) ?_ h
  have hw : IntKind.i64.wrap z = z := IntWalk.i64_in _ hb
  simp only [execOp, hx]
  go_simp
theorem rn_fld_28_2 {x : Operand} {S o : Nat} (hx : a.eval x = .pointer (some ⟨S, o, none⟩)) (h : T (.pointer (some ⟨S, o + 2, none⟩)) w) : Runs Tryd.prog ⟨dst, .fieldAddr 28 x 2, ty, pos, after, g⟩ a w T := by
  refine Runs.value (v := .pointer (some ⟨S, o + 2, none⟩)) (w' := w) ?_ h
  simp only [execOp, hx]
  go_simp
theorem rn_lss_3 {o1 o2 : Operand} {b c : Int} (hx : a.eval o1 = .int .i64 b) (hy : a.eval o2 = .int .i64 c) (h : T (.bool (decide (b < c))) w) : Runs Tryd.prog ⟨dst, .binOp .lss 3 o1 o2 3, ty, pos, after, g⟩ a w T := by
  refine Runs.value (v := .bool (decide (b < c))) (w' := w) ?_ h
  simp only [execOp, hx, hy]
  go_simp
theorem rn_fld_28_4 {x : Operand} {S o : Nat} (hx : a.eval x = .pointer (some ⟨S, o, none⟩)) (h : T (.pointer (some ⟨S, o + 4, none⟩)) w) : Runs Tryd.prog ⟨dst, .fieldAddr 28 x 4, ty, pos, after, g⟩ a w T := by
  refine Runs.value (v := .pointer (some ⟨S, o + 4, none⟩)) (w' := w) ?_ h
  simp only [execOp, hx]
  go_simp
theorem rn_ld_23 {x : Operand} {q : Addr} {v : Value} (hx : a.eval x = .pointer (some q)) (hc : w.cell? q = some v) (h : T v w) : Runs Tryd.prog ⟨dst, .load 23 x, ty, pos, after, g⟩ a w T := by
  refine Runs.value (v := v) (w' := w) ?_ h
  simp only [execOp, hx]
  go_simp
theorem rn_len_23 {x : Operand} {p : Option Addr} {n c : Nat} (hx : a.eval x = .slice p n c) (h : T (.int .i64 (n : Nat)) w) : Runs Tryd.prog ⟨dst, .call { callee := .builtin .len, args := #[x], argTypes := #[23] }, ty, pos, after, g⟩ a w T := by
  refine Runs.value (v := .int .i64 (n : Nat)) (w' := w) ?_ h
  simp [execOp, resolve, invoke, builtin, hx, Result.andThen]
  go_simp
theorem rn_fld_28_3 {x : Operand} {S o : Nat} (hx : a.eval x = .pointer (some ⟨S, o, none⟩)) (h : T (.pointer (some ⟨S, o + 3, none⟩)) w) : Runs Tryd.prog ⟨dst, .fieldAddr 28 x 3, ty, pos, after, g⟩ a w T := by
  refine Runs.value (v := .pointer (some ⟨S, o + 3, none⟩)) (w' := w) ?_ h
  simp only [execOp, hx]
  go_simp
end
theorem isdata_any (n : Int) (w : World) : Calls Tryd.prog 50 #[.int .i64 n] w fun e w' => e = .returned (.bool (dat n)) ∧ w' = w := by
  obtain ⟨t, ht⟩ : ∃ t, (n.tmod 2 == 0) = t := ⟨_, rfl⟩
  have HD := Lib.hid (show dat n = (decide (2560 ≤ n) && (decide (n < 3584) && t)) from by rw [← ht]; rfl)
  go_enter Tryd.func50, Tryd.ntmps50
  go_wp2
  all_goals (go_ret; refine ⟨ret_bool ?_, rfl⟩; rw [HD.out]; first | (simp [*]; done) | (simp [*]; omega) | (rw [← ht, Int.tmod_eq_emod_of_nonneg (by omega)]; simp [*]))
theorem addr_g (g : Int) (h0 : 0 ≤ g) (v : Int) (I : Im) (N p : Nat) (w : World) (hI : ImgAt N w p I) (hIo : I.Ok) (hg : (I.gs.length : Int) ≤ g) :
    Calls Tryd.prog 51 #[.pointer (some ⟨p, 0, none⟩), .int .i64 g, .int .i16 v] w fun e w' => e = .returned (.tuple #[.int .i64 (elt I g v).1, .bool (elt I g v).2]) ∧ w' = w := by
  rw [show elt I g v = (0, false) from by unfold elt; rw [if_pos (.inl hg)]]
  obtain ⟨r, gp, ap, kp, hp, gc, ac, kc, hc, hb, hR⟩ := hI
  have i1 : w.cell? ⟨p, 1, none⟩ = some (.slice gp I.gs.length gc) := hb.cell 1
  have i6 : w.cell? ⟨p, 6, none⟩ = some (.slice ap I.addr.length ac) := hb.cell 6
  have HQ := Lib.hid (show True from trivial)
  clear hb hR hIo
  go_enter Tryd.func51, Tryd.ntmps51
  go_wp2
  go_ret2
  exact ⟨rfl, rfl⟩
theorem addr_a (g : Int) (h0 : 0 ≤ g) (v : Int) (I : Im) (N p : Nat) (w : World) (hI : ImgAt N w p I) (hIo : I.Ok) (hg : g < I.gs.length) (hA : (I.addr.length : Int) ≤ g) :
    Calls Tryd.prog 51 #[.pointer (some ⟨p, 0, none⟩), .int .i64 g, .int .i16 v] w fun e w' => e = .returned (.tuple #[.int .i64 (elt I g v).1, .bool (elt I g v).2]) ∧ w' = w := by
  rw [show elt I g v = (0, false) from by unfold elt; rw [if_pos (.inr hA)]]
  obtain ⟨r, gp, ap, kp, hp, gc, ac, kc, hc, hb, hR⟩ := hI
  have i1 : w.cell? ⟨p, 1, none⟩ = some (.slice gp I.gs.length gc) := hb.cell 1
  have i6 : w.cell? ⟨p, 6, none⟩ = some (.slice ap I.addr.length ac) := hb.cell 6
  have HQ := Lib.hid (show True from trivial)
  clear hb hR hIo
  go_enter Tryd.func51, Tryd.ntmps51
  go_wp2
  go_ret2
  exact ⟨rfl, rfl⟩
theorem addr_n (g : Int) (h0 : 0 ≤ g) (v : Int) (I : Im) (N p : Nat) (w : World) (hI : ImgAt N w p I) (hIo : I.Ok) (hg : g < I.gs.length) (hA : g < I.addr.length) (hL : I.len g.toNat < 1) :
    Calls Tryd.prog 51 #[.pointer (some ⟨p, 0, none⟩), .int .i64 g, .int .i16 v] w fun e w' => e = .returned (.tuple #[.int .i64 (elt I g v).1, .bool (elt I g v).2]) ∧ w' = w := by
  rw [show elt I g v = (wrap64 (I.addr.getD g.toNat 0 + 2 * 0), false) from by unfold elt; rw [if_neg (by omega), if_pos hL, decide_eq_false (by omega)]]
  obtain ⟨r, gp, ap, kp, hp, gc, ac, kc, hc, hb, hR⟩ := hI
  have i1 : w.cell? ⟨p, 1, none⟩ = some (.slice gp I.gs.length gc) := hb.cell 1
  have i6 : w.cell? ⟨p, 6, none⟩ = some (.slice ap I.addr.length ac) := hb.cell 6
  obtain ⟨m, rfl⟩ : ∃ m : Nat, g = (m : Int) := ⟨g.toNat, by omega⟩
  rw [Int.toNat_natCast] at *
  have hm1 : m < I.gs.length := by omega
  have hm2 : m < I.addr.length := by omega
  obtain ⟨gv, hgv⟩ : ∃ gv, I.gs[m]? = some gv := ⟨_, List.getElem?_eq_getElem hm1⟩
  obtain ⟨av, hav⟩ : ∃ av, I.addr[m]? = some av := ⟨_, List.getElem?_eq_getElem hm2⟩
  have hlen : I.len m = gv.2.1 := by unfold Im.len; rw [List.getD_eq_getElem?_getD, hgv]; rfl
  have hadr : I.addr.getD m 0 = av := by rw [List.getD_eq_getElem?_getD, hav]; rfl
  obtain ⟨av0, av1⟩ := hIo.addr av (List.mem_of_getElem? hav)
  obtain ⟨gv0, gv1⟩ := hIo.lens gv (List.mem_of_getElem? hgv)
  rw [hlen] at hL
  rw [hadr]
  obtain ⟨gb, go, rfl, hgc⟩ := hR.gs.cells (by omega)
  obtain ⟨ab, ao, rfl, hac⟩ := hR.addr.cells (by omega)
  have c1 : w.cell? ⟨gb, go + m * 4 + 1, none⟩ = some (.int .i64 gv.2.1) := hgc m gv hgv 1 _ rfl
  have c2 : w.cell? ⟨ab, ao + m, none⟩ = some (.int .i64 av) := by have := hac m av hav 0 _ rfl; simpa using this
  generalize gv.2.1 = L at *
  clear hgc hac hlen hadr hgv hav
  rw [show wrap64 (av + 2 * 0) = av from by rw [Int.mul_zero, Int.add_zero]; unfold wrap64; omega]
  skip
  clear hb hR hIo
  go_enter Tryd.func51, Tryd.ntmps51
  go_wp2_with (go_at_call 66; (with_reducible refine (index_no v L hL _).mono ?_); rintro e w5 ⟨rfl, h9⟩; subst h9)
  go_ret2
  exact ⟨rfl, rfl⟩
theorem addr_y (g : Int) (h0 : 0 ≤ g) (v : Int) (I : Im) (N p : Nat) (w : World) (hI : ImgAt N w p I) (hIo : I.Ok) (hg : g < I.gs.length) (hA : g < I.addr.length) (hL : 1 ≤ I.len g.toNat) :
    Calls Tryd.prog 51 #[.pointer (some ⟨p, 0, none⟩), .int .i64 g, .int .i16 v] w fun e w' => e = .returned (.tuple #[.int .i64 (elt I g v).1, .bool (elt I g v).2]) ∧ w' = w := by
  rw [show elt I g v = (wrap64 (I.addr.getD g.toNat 0 + 2 * (v % 65536 % I.len g.toNat)), true) from by unfold elt; rw [if_neg (by omega), if_neg (by omega), decide_eq_true (by omega)]]
  obtain ⟨r, gp, ap, kp, hp, gc, ac, kc, hc, hb, hR⟩ := hI
  have i1 : w.cell? ⟨p, 1, none⟩ = some (.slice gp I.gs.length gc) := hb.cell 1
  have i6 : w.cell? ⟨p, 6, none⟩ = some (.slice ap I.addr.length ac) := hb.cell 6
  obtain ⟨m, rfl⟩ : ∃ m : Nat, g = (m : Int) := ⟨g.toNat, by omega⟩
  rw [Int.toNat_natCast] at *
  have hm1 : m < I.gs.length := by omega
  have hm2 : m < I.addr.length := by omega
  obtain ⟨gv, hgv⟩ : ∃ gv, I.gs[m]? = some gv := ⟨_, List.getElem?_eq_getElem hm1⟩
  obtain ⟨av, hav⟩ : ∃ av, I.addr[m]? = some av := ⟨_, List.getElem?_eq_getElem hm2⟩
  have hlen : I.len m = gv.2.1 := by unfold Im.len; rw [List.getD_eq_getElem?_getD, hgv]; rfl
  have hadr : I.addr.getD m 0 = av := by rw [List.getD_eq_getElem?_getD, hav]; rfl
  obtain ⟨av0, av1⟩ := hIo.addr av (List.mem_of_getElem? hav)
  obtain ⟨gv0, gv1⟩ := hIo.lens gv (List.mem_of_getElem? hgv)
  rw [hlen] at hL
  rw [hlen, hadr]
  obtain ⟨gb, go, rfl, hgc⟩ := hR.gs.cells (by omega)
  obtain ⟨ab, ao, rfl, hac⟩ := hR.addr.cells (by omega)
  have c1 : w.cell? ⟨gb, go + m * 4 + 1, none⟩ = some (.int .i64 gv.2.1) := hgc m gv hgv 1 _ rfl
  have c2 : w.cell? ⟨ab, ao + m, none⟩ = some (.int .i64 av) := by have := hac m av hav 0 _ rfl; simpa using this
  generalize gv.2.1 = L at *
  clear hgc hac hlen hadr hgv hav
  have q0 : 0 ≤ v % 65536 % L := Int.emod_nonneg _ (by omega)
  have q1 : v % 65536 % L ≤ 65535 := by
    by_cases h : v % 65536 < L
    · rw [Int.emod_eq_of_lt (by omega) h]; omega
    · have := Int.emod_lt_of_pos (v % 65536) (show 0 < L by omega); omega
  skip
  clear hb hR hIo
  go_enter Tryd.func51, Tryd.ntmps51
  go_wp2_with (go_at_call 66; (with_reducible refine (index_any v L hL _).mono ?_); rintro e w5 ⟨rfl, h9⟩; subst h9)
  go_ret2
  exact ⟨rfl, rfl⟩
theorem addr_any (g : Int) (h0 : 0 ≤ g) (v : Int) (I : Im) (N p : Nat) (w : World) (hI : ImgAt N w p I) (hIo : I.Ok) :
    Calls Tryd.prog 51 #[.pointer (some ⟨p, 0, none⟩), .int .i64 g, .int .i16 v] w fun e w' => e = .returned (.tuple #[.int .i64 (elt I g v).1, .bool (elt I g v).2]) ∧ w' = w := by
  by_cases hg : (I.gs.length : Int) ≤ g
  · exact addr_g g h0 v I N p w hI hIo hg
  · by_cases hA : (I.addr.length : Int) ≤ g
    · exact addr_a g h0 v I N p w hI hIo (by omega) hA
    · by_cases hL : I.len g.toNat < 1
      · exact addr_n g h0 v I N p w hI hIo (by omega) (by omega) hL
      · exact addr_y g h0 v I N p w hI hIo (by omega) (by omega) (by omega)
theorem en_ad : Enters Tryd.prog 51 := fun args w => by go_simp
/-- The operand, by what it refers to. -/
def opndS (src : Int) (x : Cd) (s : St) (I : Im) : Int × Bool :=
  if src = 1 then (x.i, dat x.i) else if src = 2 then (s.reg x.a.toNat, dat (s.reg x.a.toNat)) else if src = 3 then (s.reg x.b.toNat, dat (s.reg x.b.toNat))
  else if src = 4 then elt I x.i (s.reg x.b.toNat) else if src = 5 then (x.i, decide (x.i < I.sens)) else if src = 6 then (x.i, decide (x.i < I.chans)) else if src = 7 then (x.i, decide (x.i < I.outs)) else (x.i, true)
theorem opnd_src (k : Nat) (a b d i : Int) (s : St) (I : Im) (hk : k < 31) : opnd ⟨k, a, b, d, i⟩ s I = opndS (ins k).1 ⟨k, a, b, d, i⟩ s I := by
  match k, hk with
  | 0, _ => rfl
  | 1, _ => rfl
  | 2, _ => rfl
  | 3, _ => rfl
  | 4, _ => rfl
  | 5, _ => rfl
  | 6, _ => rfl
  | 7, _ => rfl
  | 8, _ => rfl
  | 9, _ => rfl
  | 10, _ => rfl
  | 11, _ => rfl
  | 12, _ => rfl
  | 13, _ => rfl
  | 14, _ => rfl
  | 15, _ => rfl
  | 16, _ => rfl
  | 17, _ => rfl
  | 18, _ => rfl
  | 19, _ => rfl
  | 20, _ => rfl
  | 21, _ => rfl
  | 22, _ => rfl
  | 23, _ => rfl
  | 24, _ => rfl
  | 25, _ => rfl
  | 26, _ => rfl
  | 27, _ => rfl
  | 28, _ => rfl
  | 29, _ => rfl
  | 30, _ => rfl
  | n + 31, h => omega
theorem ins_cases : ∀ k : Fin 31, (ins k.val).1 = 0 ∨ (ins k.val).1 = 1 ∨ (ins k.val).1 = 2 ∨ (ins k.val).1 = 3 ∨ (ins k.val).1 = 4 ∨ (ins k.val).1 = 5 ∨ (ins k.val).1 = 6 ∨ (ins k.val).1 = 7 := by decide
theorem ins_lo : ∀ k : Fin 31, 4 ≤ (ins k.val).1 → 0 ≤ (opr (k.val : Int)).lo := by decide
set_option maxHeartbeats 4000000 in
theorem opnd_0 (k a b d : Nat) (hk : k < 31) (ha : a < 8) (hb : b < 8) (i : Int) (hi : I16 i) (hi0 : 4 ≤ (ins k).1 → 0 ≤ i) (I : Im) (s : St) (N c p : Nat) (w : World) (hC : Blk c (stv s) CPT w) (hs : s.Ok) (hIm : ImgAt N w p I) (hIo : I.Ok) (hE : EnvN N w) (hsrc : (ins k).1 = 0) :
    Calls Tryd.prog 26 #[.pointer (some ⟨c, 0, none⟩), cdV ⟨k, a, b, d, i⟩, .pointer (some ⟨p, 0, none⟩)] w fun e w' => e = .returned (.tuple #[.int .i64 (opndS 0 ⟨k, a, b, d, i⟩ s I).1, .bool (opndS 0 ⟨k, a, b, d, i⟩ s I).2]) ∧ Grew w w' := by
  obtain ⟨r, gp, ap, kp, hp, gc, ac, kc, hc, hI, hR⟩ := hIm
  have HS := Lib.hid hs
  have HIo := Lib.hid hIo
  have HI0 : Hid (4 ≤ (ins k).1 → 0 ≤ i) := Lib.hid hi0
  obtain ⟨bi0, bi1⟩ := hi
  have ti0 : w.cell? ⟨0, k * 2, none⟩ = some (.int .i64 (ins k).1) := hE.ins.cell k hk 0 rfl
  rw [hsrc] at ti0 HI0
  have bk : ¬ (31 : Int) ≤ (k : Int) := by omega
  have bk2 : (k : Int) < 31 := by omega
  have hgl : 0 < w.heap.size := World.block_lt_of_cell? _ _ ti0
  clear hE hs hIo hsrc hi0
  go_enter Tryd.func26, Tryd.ntmps26
  go_wp2
  go_ret2
  exact ⟨rfl, (Grew.refl _).alloc _⟩
set_option maxHeartbeats 4000000 in
theorem opnd_1 (k a b d : Nat) (hk : k < 31) (ha : a < 8) (hb : b < 8) (i : Int) (hi : I16 i) (hi0 : 4 ≤ (ins k).1 → 0 ≤ i) (I : Im) (s : St) (N c p : Nat) (w : World) (hC : Blk c (stv s) CPT w) (hs : s.Ok) (hIm : ImgAt N w p I) (hIo : I.Ok) (hE : EnvN N w) (hsrc : (ins k).1 = 1) :
    Calls Tryd.prog 26 #[.pointer (some ⟨c, 0, none⟩), cdV ⟨k, a, b, d, i⟩, .pointer (some ⟨p, 0, none⟩)] w fun e w' => e = .returned (.tuple #[.int .i64 (opndS 1 ⟨k, a, b, d, i⟩ s I).1, .bool (opndS 1 ⟨k, a, b, d, i⟩ s I).2]) ∧ Grew w w' := by
  obtain ⟨r, gp, ap, kp, hp, gc, ac, kc, hc, hI, hR⟩ := hIm
  have HS := Lib.hid hs
  have HIo := Lib.hid hIo
  have HI0 : Hid (4 ≤ (ins k).1 → 0 ≤ i) := Lib.hid hi0
  obtain ⟨bi0, bi1⟩ := hi
  have ti0 : w.cell? ⟨0, k * 2, none⟩ = some (.int .i64 (ins k).1) := hE.ins.cell k hk 0 rfl
  rw [hsrc] at ti0 HI0
  have bk : ¬ (31 : Int) ≤ (k : Int) := by omega
  have bk2 : (k : Int) < 31 := by omega
  have hgl : 0 < w.heap.size := World.block_lt_of_cell? _ _ ti0
  clear hE hs hIo hsrc hi0
  go_enter Tryd.func26, Tryd.ntmps26
  go_wp2_with (go_at_call 50; (with_reducible refine (isdata_any _ _).mono ?_); rintro e w5 ⟨rfl, h9⟩; subst h9)
  go_ret2
  exact ⟨rfl, (Grew.refl _).alloc _⟩
set_option maxHeartbeats 4000000 in
theorem opnd_2 (k a b d : Nat) (hk : k < 31) (ha : a < 8) (hb : b < 8) (i : Int) (hi : I16 i) (hi0 : 4 ≤ (ins k).1 → 0 ≤ i) (I : Im) (s : St) (N c p : Nat) (w : World) (hC : Blk c (stv s) CPT w) (hs : s.Ok) (hIm : ImgAt N w p I) (hIo : I.Ok) (hE : EnvN N w) (hsrc : (ins k).1 = 2) :
    Calls Tryd.prog 26 #[.pointer (some ⟨c, 0, none⟩), cdV ⟨k, a, b, d, i⟩, .pointer (some ⟨p, 0, none⟩)] w fun e w' => e = .returned (.tuple #[.int .i64 (opndS 2 ⟨k, a, b, d, i⟩ s I).1, .bool (opndS 2 ⟨k, a, b, d, i⟩ s I).2]) ∧ Grew w w' := by
  obtain ⟨r, gp, ap, kp, hp, gc, ac, kc, hc, hI, hR⟩ := hIm
  have HS := Lib.hid hs
  have HIo := Lib.hid hIo
  have HI0 : Hid (4 ≤ (ins k).1 → 0 ≤ i) := Lib.hid hi0
  obtain ⟨bi0, bi1⟩ := hi
  have ti0 : w.cell? ⟨0, k * 2, none⟩ = some (.int .i64 (ins k).1) := hE.ins.cell k hk 0 rfl
  rw [hsrc] at ti0 HI0
  have bk : ¬ (31 : Int) ≤ (k : Int) := by omega
  have bk2 : (k : Int) < 31 := by omega
  have hgl : 0 < w.heap.size := World.block_lt_of_cell? _ _ ti0
  clear hE hs hIo hsrc hi0
  go_enter Tryd.func26, Tryd.ntmps26
  go_upto_region 6 with fail
  generalize hV : World.alloc _ _ = V
  have bx : Blk w.heap.size (cdv ⟨k, a, b, d, i⟩) 72 V := by subst hV; exact Blk.new w (cdv ⟨k, a, b, d, i⟩) _
  have hg : Grew w V := by subst hV; exact (Grew.refl _).alloc _
  clear hV ti0 hgl
  replace hC := hC.grew hg
  replace hI := hI.grew hg
  replace hR := hR.chg (Chg.of_grew hg (fun _ => False)) fun _ h => h.elim
  have x1 : Atv ⟨w.heap.size, 1, none⟩ (.int .i64 (a : Int)) V.drew := (bx.grew (Grew.refl _).drw).atv 1 rfl
  have ra : Atv ⟨c, 1 + a, none⟩ (.int .i16 (s.reg a)) V.drew := (hC.grew (Grew.refl _).drw).atv (1 + a) (stv_at HS.out (by omega))
  refine wp_still [some 24, some 25, some 26, some 27, some 28, some 29, some 30, some 31, some 8] [false, false, false, false, false, false, false, false, true, false, false, false, false, false, false, false, false, false, false, false, false, false, false, false, true, true, true, true, true, true, true, true, false, false, false, false, false, false, false, false, false, false, false, false, false, false, false, false, false, false, false, false, false, false, false, false, false, false, false, false, false, false, false, false, false, false, false, false, false, false, false, false, false, false, false, false, false, false, false, false, false, false, false, false, false, false, false, false, false, false, false] [fun v _ => v = .pointer (some ⟨c, 0, none⟩), fun v _ => v = .pointer (some ⟨w.heap.size, 1, none⟩), fun v _ => v = .int .i64 (((a : Nat) : Int)), fun v _ => v = .pointer (some ⟨c, 0, none⟩), fun v _ => v = .pointer (some ⟨c, 1, none⟩), fun v _ => v = .pointer (some ⟨c, 1 + a, none⟩), fun v _ => v = .int .i16 (s.reg a), fun v _ => v = .int .i64 (s.reg a), fun v _ => v = .int .i64 (s.reg a)] (by kernel_rfl) (by kernel_rfl) rfl ⟨?_, ?_, ?_, ?_, ?_, ?_, ?_, ?_, ?_, trivial⟩ ?_
  · intro u w hR hd; exact runs_mv (ev rfl) ⟨rfl, rfl⟩
  · intro u w hR hd; exact rn_fld_72_1 (ev rfl) ⟨rfl, rfl⟩
  · intro u w hR hd; exact rn_ld_3 (ev (hd.1 rfl)) (x1.kept hR) ⟨rfl, rfl⟩
  · intro u w hR hd; exact rn_nil (ev (hd.1 rfl)) ⟨rfl, rfl⟩
  · intro u w hR hd; exact rn_fld_43_1 (ev (hd.1 rfl)) ⟨rfl, rfl⟩
  · intro u w hR hd; exact rn_idxa_30 (a) (ev (hd.1 rfl)) (ev (hd.2.1 rfl)) (by omega) ⟨rfl, rfl⟩
  · intro u w hR hd; exact rn_ld_29 (ev (hd.1 rfl)) (ra.kept hR) ⟨rfl, rfl⟩
  · intro u w hR hd; exact rn_cv_29_3 (ev (hd.1 rfl)) (by have := HS.out.reg a; unfold I16 at this; omega) ⟨rfl, rfl⟩
  · intro u w hR hd; exact runs_mva (ev (hd.1 rfl)) ⟨rfl, rfl⟩
  intro u h
  have e0 : u 8 = .int .i64 (s.reg a) := h 8 (by decide)
  simp only [mixA, mixL, zz9, zz0]
  rw [e0]
  clear h e0 ra x1
  go_wp2_with (go_at_call 50; (with_reducible refine (isdata_any _ _).mono ?_); rintro e w5 ⟨rfl, h9⟩; subst h9)
  go_ret2
  exact ⟨rfl, hg.drw⟩
set_option maxHeartbeats 4000000 in
theorem opnd_3 (k a b d : Nat) (hk : k < 31) (ha : a < 8) (hb : b < 8) (i : Int) (hi : I16 i) (hi0 : 4 ≤ (ins k).1 → 0 ≤ i) (I : Im) (s : St) (N c p : Nat) (w : World) (hC : Blk c (stv s) CPT w) (hs : s.Ok) (hIm : ImgAt N w p I) (hIo : I.Ok) (hE : EnvN N w) (hsrc : (ins k).1 = 3) :
    Calls Tryd.prog 26 #[.pointer (some ⟨c, 0, none⟩), cdV ⟨k, a, b, d, i⟩, .pointer (some ⟨p, 0, none⟩)] w fun e w' => e = .returned (.tuple #[.int .i64 (opndS 3 ⟨k, a, b, d, i⟩ s I).1, .bool (opndS 3 ⟨k, a, b, d, i⟩ s I).2]) ∧ Grew w w' := by
  obtain ⟨r, gp, ap, kp, hp, gc, ac, kc, hc, hI, hR⟩ := hIm
  have HS := Lib.hid hs
  have HIo := Lib.hid hIo
  have HI0 : Hid (4 ≤ (ins k).1 → 0 ≤ i) := Lib.hid hi0
  obtain ⟨bi0, bi1⟩ := hi
  have ti0 : w.cell? ⟨0, k * 2, none⟩ = some (.int .i64 (ins k).1) := hE.ins.cell k hk 0 rfl
  rw [hsrc] at ti0 HI0
  have bk : ¬ (31 : Int) ≤ (k : Int) := by omega
  have bk2 : (k : Int) < 31 := by omega
  have hgl : 0 < w.heap.size := World.block_lt_of_cell? _ _ ti0
  clear hE hs hIo hsrc hi0
  go_enter Tryd.func26, Tryd.ntmps26
  go_upto_region 9 with fail
  generalize hV : World.alloc _ _ = V
  have bx : Blk w.heap.size (cdv ⟨k, a, b, d, i⟩) 72 V := by subst hV; exact Blk.new w (cdv ⟨k, a, b, d, i⟩) _
  have hg : Grew w V := by subst hV; exact (Grew.refl _).alloc _
  clear hV ti0 hgl
  replace hC := hC.grew hg
  replace hI := hI.grew hg
  replace hR := hR.chg (Chg.of_grew hg (fun _ => False)) fun _ h => h.elim
  have x2 : Atv ⟨w.heap.size, 2, none⟩ (.int .i64 (b : Int)) V.drew := (bx.grew (Grew.refl _).drw).atv 2 rfl
  have rb : Atv ⟨c, 1 + b, none⟩ (.int .i16 (s.reg b)) V.drew := (hC.grew (Grew.refl _).drw).atv (1 + b) (stv_at HS.out (by omega))
  refine wp_still [some 37, some 38, some 39, some 40, some 41, some 42, some 43, some 44, some 8] [false, false, false, false, false, false, false, false, true, false, false, false, false, false, false, false, false, false, false, false, false, false, false, false, false, false, false, false, false, false, false, false, false, false, false, false, false, true, true, true, true, true, true, true, true, false, false, false, false, false, false, false, false, false, false, false, false, false, false, false, false, false, false, false, false, false, false, false, false, false, false, false, false, false, false, false, false, false, false, false, false, false, false, false, false, false, false, false, false, false, false] [fun v _ => v = .pointer (some ⟨c, 0, none⟩), fun v _ => v = .pointer (some ⟨w.heap.size, 2, none⟩), fun v _ => v = .int .i64 (((b : Nat) : Int)), fun v _ => v = .pointer (some ⟨c, 0, none⟩), fun v _ => v = .pointer (some ⟨c, 1, none⟩), fun v _ => v = .pointer (some ⟨c, 1 + b, none⟩), fun v _ => v = .int .i16 (s.reg b), fun v _ => v = .int .i64 (s.reg b), fun v _ => v = .int .i64 (s.reg b)] (by kernel_rfl) (by kernel_rfl) rfl ⟨?_, ?_, ?_, ?_, ?_, ?_, ?_, ?_, ?_, trivial⟩ ?_
  · intro u w hR hd; exact runs_mv (ev rfl) ⟨rfl, rfl⟩
  · intro u w hR hd; exact rn_fld_72_2 (ev rfl) ⟨rfl, rfl⟩
  · intro u w hR hd; exact rn_ld_3 (ev (hd.1 rfl)) (x2.kept hR) ⟨rfl, rfl⟩
  · intro u w hR hd; exact rn_nil (ev (hd.1 rfl)) ⟨rfl, rfl⟩
  · intro u w hR hd; exact rn_fld_43_1 (ev (hd.1 rfl)) ⟨rfl, rfl⟩
  · intro u w hR hd; exact rn_idxa_30 (b) (ev (hd.1 rfl)) (ev (hd.2.1 rfl)) (by omega) ⟨rfl, rfl⟩
  · intro u w hR hd; exact rn_ld_29 (ev (hd.1 rfl)) (rb.kept hR) ⟨rfl, rfl⟩
  · intro u w hR hd; exact rn_cv_29_3 (ev (hd.1 rfl)) (by have := HS.out.reg b; unfold I16 at this; omega) ⟨rfl, rfl⟩
  · intro u w hR hd; exact runs_mva (ev (hd.1 rfl)) ⟨rfl, rfl⟩
  intro u h
  have e0 : u 8 = .int .i64 (s.reg b) := h 8 (by decide)
  simp only [mixA, mixL, zz9, zz0]
  rw [e0]
  clear h e0 rb x2
  go_wp2_with (go_at_call 50; (with_reducible refine (isdata_any _ _).mono ?_); rintro e w5 ⟨rfl, h9⟩; subst h9)
  go_ret2
  exact ⟨rfl, hg.drw⟩
set_option maxHeartbeats 4000000 in
theorem opnd_4 (k a b d : Nat) (hk : k < 31) (ha : a < 8) (hb : b < 8) (i : Int) (hi : I16 i) (hi0 : 4 ≤ (ins k).1 → 0 ≤ i) (I : Im) (s : St) (N c p : Nat) (w : World) (hC : Blk c (stv s) CPT w) (hs : s.Ok) (hIm : ImgAt N w p I) (hIo : I.Ok) (hE : EnvN N w) (hsrc : (ins k).1 = 4) :
    Calls Tryd.prog 26 #[.pointer (some ⟨c, 0, none⟩), cdV ⟨k, a, b, d, i⟩, .pointer (some ⟨p, 0, none⟩)] w fun e w' => e = .returned (.tuple #[.int .i64 (opndS 4 ⟨k, a, b, d, i⟩ s I).1, .bool (opndS 4 ⟨k, a, b, d, i⟩ s I).2]) ∧ Grew w w' := by
  obtain ⟨r, gp, ap, kp, hp, gc, ac, kc, hc, hI, hR⟩ := hIm
  have HS := Lib.hid hs
  have HIo := Lib.hid hIo
  have HI0 : Hid (4 ≤ (ins k).1 → 0 ≤ i) := Lib.hid hi0
  obtain ⟨bi0, bi1⟩ := hi
  have ti0 : w.cell? ⟨0, k * 2, none⟩ = some (.int .i64 (ins k).1) := hE.ins.cell k hk 0 rfl
  rw [hsrc] at ti0 HI0
  have bk : ¬ (31 : Int) ≤ (k : Int) := by omega
  have bk2 : (k : Int) < 31 := by omega
  have hgl : 0 < w.heap.size := World.block_lt_of_cell? _ _ ti0
  clear hE hs hIo hsrc hi0
  go_enter Tryd.func26, Tryd.ntmps26
  go_upto_region 12 with fail
  generalize hV : World.alloc _ _ = V
  have bx : Blk w.heap.size (cdv ⟨k, a, b, d, i⟩) 72 V := by subst hV; exact Blk.new w (cdv ⟨k, a, b, d, i⟩) _
  have hg : Grew w V := by subst hV; exact (Grew.refl _).alloc _
  clear hV ti0 hgl
  replace hC := hC.grew hg
  replace hI := hI.grew hg
  replace hR := hR.chg (Chg.of_grew hg (fun _ => False)) fun _ h => h.elim
  have hIX : ImgAt N V.drew p I := ImgAt.grew ⟨r, gp, ap, kp, hp, gc, ac, kc, hc, hI, hR⟩ (Grew.refl _).drw
  have x2 : Atv ⟨w.heap.size, 2, none⟩ (.int .i64 (b : Int)) V.drew := (bx.grew (Grew.refl _).drw).atv 2 rfl
  have rb : Atv ⟨c, 1 + b, none⟩ (.int .i16 (s.reg b)) V.drew := (hC.grew (Grew.refl _).drw).atv (1 + b) (stv_at HS.out (by omega))
  refine wp_still [some 50, some 51, some 52, some 53, some 54, some 55, some 56, some 57, some 58, some 59, some 60, some 61, some 6, some 7] [false, false, false, false, false, false, true, true, false, false, false, false, false, false, false, false, false, false, false, false, false, false, false, false, false, false, false, false, false, false, false, false, false, false, false, false, false, false, false, false, false, false, false, false, false, false, false, false, false, false, true, true, true, true, true, true, true, true, true, true, true, true, false, false, false, false, false, false, false, false, false, false, false, false, false, false, false, false, false, false, false, false, false, false, false, false, false, false, false, false, false] [fun v _ => v = .pointer (some ⟨p, 0, none⟩), fun v _ => v = .int .i64 (i), fun v _ => v = .pointer (some ⟨c, 0, none⟩), fun v _ => v = .pointer (some ⟨w.heap.size, 2, none⟩), fun v _ => v = .int .i64 (((b : Nat) : Int)), fun v _ => v = .pointer (some ⟨c, 0, none⟩), fun v _ => v = .pointer (some ⟨c, 1, none⟩), fun v _ => v = .pointer (some ⟨c, 1 + b, none⟩), fun v _ => v = .int .i16 (s.reg b), fun v _ => v = .tuple #[.int .i64 ((elt I i (s.reg b)).1), .bool ((elt I i (s.reg b)).2)], fun v _ => v = .int .i64 ((elt I i (s.reg b)).1), fun v _ => v = .bool ((elt I i (s.reg b)).2), fun v _ => v = .int .i64 ((elt I i (s.reg b)).1), fun v _ => v = .bool ((elt I i (s.reg b)).2)] (by kernel_rfl) (by kernel_rfl) rfl ⟨?_, ?_, ?_, ?_, ?_, ?_, ?_, ?_, ?_, ?_, ?_, ?_, ?_, ?_, trivial⟩ ?_
  · intro u w hR hd; exact runs_mv (ev rfl) ⟨rfl, rfl⟩
  · intro u w hR hd; exact runs_mv (ev rfl) ⟨rfl, rfl⟩
  · intro u w hR hd; exact runs_mv (ev rfl) ⟨rfl, rfl⟩
  · intro u w hR hd; exact rn_fld_72_2 (ev rfl) ⟨rfl, rfl⟩
  · intro u w hR hd; exact rn_ld_3 (ev (hd.1 rfl)) (x2.kept hR) ⟨rfl, rfl⟩
  · intro u w hR hd; exact rn_nil (ev (hd.1 rfl)) ⟨rfl, rfl⟩
  · intro u w hR hd; exact rn_fld_43_1 (ev (hd.1 rfl)) ⟨rfl, rfl⟩
  · intro u w hR hd; exact rn_idxa_30 (b) (ev (hd.1 rfl)) (ev (hd.2.1 rfl)) (by omega) ⟨rfl, rfl⟩
  · intro u w hR hd; exact rn_ld_29 (ev (hd.1 rfl)) (rb.kept hR) ⟨rfl, rfl⟩
  · intro u w hR hd; exact runs_c3 en_ad (ev (hd.1 rfl)) (ev (hd.2.1 rfl)) (ev (hd.2.2.1 rfl)) (callp (fun _ e => e) (addr_any i (HI0.out (by decide)) (s.reg b) I N p _ (hIX.grew (by cases hR; exact Grew.refl _)) HIo.out))
  · intro u w hR hd; exact rn_ext (ev (hd.1 rfl)) rfl ⟨rfl, rfl⟩
  · intro u w hR hd; exact rn_ext (ev (hd.1 rfl)) rfl ⟨rfl, rfl⟩
  · intro u w hR hd; exact runs_mva (ev (hd.1 rfl)) ⟨rfl, rfl⟩
  · intro u w hR hd; exact runs_mva (ev (hd.1 rfl)) ⟨rfl, rfl⟩
  intro u h
  have e0 : u 6 = .int .i64 (elt I i (s.reg b)).1 := h 12 (by decide)
  have e1 : u 7 = .bool (elt I i (s.reg b)).2 := h 13 (by decide)
  simp only [mixA, mixL, zz9, zz0]
  rw [e0, e1]
  clear h e0 e1 rb x2
  go_wp2
  go_ret2
  exact ⟨rfl, hg.drw⟩
set_option maxHeartbeats 4000000 in
theorem opnd_5 (k a b d : Nat) (hk : k < 31) (ha : a < 8) (hb : b < 8) (i : Int) (hi : I16 i) (hi0 : 4 ≤ (ins k).1 → 0 ≤ i) (I : Im) (s : St) (N c p : Nat) (w : World) (hC : Blk c (stv s) CPT w) (hs : s.Ok) (hIm : ImgAt N w p I) (hIo : I.Ok) (hE : EnvN N w) (hsrc : (ins k).1 = 5) :
    Calls Tryd.prog 26 #[.pointer (some ⟨c, 0, none⟩), cdV ⟨k, a, b, d, i⟩, .pointer (some ⟨p, 0, none⟩)] w fun e w' => e = .returned (.tuple #[.int .i64 (opndS 5 ⟨k, a, b, d, i⟩ s I).1, .bool (opndS 5 ⟨k, a, b, d, i⟩ s I).2]) ∧ Grew w w' := by
  obtain ⟨r, gp, ap, kp, hp, gc, ac, kc, hc, hI, hR⟩ := hIm
  have HS := Lib.hid hs
  have HIo := Lib.hid hIo
  have HI0 : Hid (4 ≤ (ins k).1 → 0 ≤ i) := Lib.hid hi0
  obtain ⟨bi0, bi1⟩ := hi
  have ti0 : w.cell? ⟨0, k * 2, none⟩ = some (.int .i64 (ins k).1) := hE.ins.cell k hk 0 rfl
  rw [hsrc] at ti0 HI0
  have bk : ¬ (31 : Int) ≤ (k : Int) := by omega
  have bk2 : (k : Int) < 31 := by omega
  have hgl : 0 < w.heap.size := World.block_lt_of_cell? _ _ ti0
  clear hE hs hIo hsrc hi0
  go_enter Tryd.func26, Tryd.ntmps26
  go_upto_region 14 with fail
  generalize hV : World.alloc _ _ = V
  have bx : Blk w.heap.size (cdv ⟨k, a, b, d, i⟩) 72 V := by subst hV; exact Blk.new w (cdv ⟨k, a, b, d, i⟩) _
  have hg : Grew w V := by subst hV; exact (Grew.refl _).alloc _
  clear hV ti0 hgl
  replace hC := hC.grew hg
  replace hI := hI.grew hg
  replace hR := hR.chg (Chg.of_grew hg (fun _ => False)) fun _ h => h.elim
  have i2 : Atv ⟨p, 2, none⟩ (.int .i64 I.sens) V.drew := (hI.grew (Grew.refl _).drw).atv 2 rfl
  refine wp_still [some 64, some 65, some 66, some 67, some 68, some 69, some 70, some 6, some 7] [false, false, false, false, false, false, true, true, false, false, false, false, false, false, false, false, false, false, false, false, false, false, false, false, false, false, false, false, false, false, false, false, false, false, false, false, false, false, false, false, false, false, false, false, false, false, false, false, false, false, false, false, false, false, false, false, false, false, false, false, false, false, false, false, true, true, true, true, true, true, true, false, false, false, false, false, false, false, false, false, false, false, false, false, false, false, false, false, false, false, false] [fun v _ => v = .int .i64 (i), fun v _ => v = .int .i64 (i), fun v _ => v = .pointer (some ⟨p, 0, none⟩), fun v _ => v = .pointer (some ⟨p, 0, none⟩), fun v _ => v = .pointer (some ⟨p, 2, none⟩), fun v _ => v = .int .i64 (I.sens), fun v _ => v = .bool (decide ((i) < (I.sens))), fun v _ => v = .int .i64 (i), fun v _ => v = .bool (decide ((i) < (I.sens)))] (by kernel_rfl) (by kernel_rfl) rfl ⟨?_, ?_, ?_, ?_, ?_, ?_, ?_, ?_, ?_, trivial⟩ ?_
  · intro u w hR hd; exact runs_mv (ev rfl) ⟨rfl, rfl⟩
  · intro u w hR hd; exact runs_mv (ev rfl) ⟨rfl, rfl⟩
  · intro u w hR hd; exact runs_mv (ev rfl) ⟨rfl, rfl⟩
  · intro u w hR hd; exact rn_nil (ev (hd.1 rfl)) ⟨rfl, rfl⟩
  · intro u w hR hd; exact rn_fld_28_2 (ev (hd.1 rfl)) ⟨rfl, rfl⟩
  · intro u w hR hd; exact rn_ld_3 (ev (hd.1 rfl)) (i2.kept hR) ⟨rfl, rfl⟩
  · intro u w hR hd; exact rn_lss_3 (ev (hd.1 rfl)) (ev (hd.2.1 rfl)) ⟨rfl, rfl⟩
  · intro u w hR hd; exact runs_mva (ev (hd.1 rfl)) ⟨rfl, rfl⟩
  · intro u w hR hd; exact runs_mva (ev (hd.1 rfl)) ⟨rfl, rfl⟩
  intro u h
  have e0 : u 6 = .int .i64 i := h 7 (by decide)
  have e1 : u 7 = .bool (decide (i < I.sens)) := h 8 (by decide)
  simp only [mixA, mixL, zz9, zz0]
  rw [e0, e1]
  clear h e0 e1 i2
  go_wp2
  go_ret2
  exact ⟨rfl, hg.drw⟩
set_option maxHeartbeats 4000000 in
theorem opnd_6 (k a b d : Nat) (hk : k < 31) (ha : a < 8) (hb : b < 8) (i : Int) (hi : I16 i) (hi0 : 4 ≤ (ins k).1 → 0 ≤ i) (I : Im) (s : St) (N c p : Nat) (w : World) (hC : Blk c (stv s) CPT w) (hs : s.Ok) (hIm : ImgAt N w p I) (hIo : I.Ok) (hE : EnvN N w) (hsrc : (ins k).1 = 6) :
    Calls Tryd.prog 26 #[.pointer (some ⟨c, 0, none⟩), cdV ⟨k, a, b, d, i⟩, .pointer (some ⟨p, 0, none⟩)] w fun e w' => e = .returned (.tuple #[.int .i64 (opndS 6 ⟨k, a, b, d, i⟩ s I).1, .bool (opndS 6 ⟨k, a, b, d, i⟩ s I).2]) ∧ Grew w w' := by
  obtain ⟨r, gp, ap, kp, hp, gc, ac, kc, hc, hI, hR⟩ := hIm
  have HS := Lib.hid hs
  have HIo := Lib.hid hIo
  have HI0 : Hid (4 ≤ (ins k).1 → 0 ≤ i) := Lib.hid hi0
  obtain ⟨bi0, bi1⟩ := hi
  have ti0 : w.cell? ⟨0, k * 2, none⟩ = some (.int .i64 (ins k).1) := hE.ins.cell k hk 0 rfl
  rw [hsrc] at ti0 HI0
  have bk : ¬ (31 : Int) ≤ (k : Int) := by omega
  have bk2 : (k : Int) < 31 := by omega
  have hgl : 0 < w.heap.size := World.block_lt_of_cell? _ _ ti0
  clear hE hs hIo hsrc hi0
  go_enter Tryd.func26, Tryd.ntmps26
  go_upto_region 16 with fail
  generalize hV : World.alloc _ _ = V
  have bx : Blk w.heap.size (cdv ⟨k, a, b, d, i⟩) 72 V := by subst hV; exact Blk.new w (cdv ⟨k, a, b, d, i⟩) _
  have hg : Grew w V := by subst hV; exact (Grew.refl _).alloc _
  clear hV ti0 hgl
  replace hC := hC.grew hg
  replace hI := hI.grew hg
  replace hR := hR.chg (Chg.of_grew hg (fun _ => False)) fun _ h => h.elim
  have i4 : Atv ⟨p, 4, none⟩ (.slice hp I.chans hc) V.drew := (hI.grew (Grew.refl _).drw).atv 4 rfl
  refine wp_still [some 73, some 74, some 75, some 76, some 77, some 78, some 79, some 80, some 6, some 7] [false, false, false, false, false, false, true, true, false, false, false, false, false, false, false, false, false, false, false, false, false, false, false, false, false, false, false, false, false, false, false, false, false, false, false, false, false, false, false, false, false, false, false, false, false, false, false, false, false, false, false, false, false, false, false, false, false, false, false, false, false, false, false, false, false, false, false, false, false, false, false, false, false, true, true, true, true, true, true, true, true, false, false, false, false, false, false, false, false, false, false] [fun v _ => v = .int .i64 (i), fun v _ => v = .int .i64 (i), fun v _ => v = .pointer (some ⟨p, 0, none⟩), fun v _ => v = .pointer (some ⟨p, 0, none⟩), fun v _ => v = .pointer (some ⟨p, 4, none⟩), fun v _ => v = .slice hp (I.chans) (hc), fun v _ => v = .int .i64 (((I.chans : Nat) : Int)), fun v _ => v = .bool (decide ((i) < (((I.chans : Nat) : Int)))), fun v _ => v = .int .i64 (i), fun v _ => v = .bool (decide ((i) < (((I.chans : Nat) : Int))))] (by kernel_rfl) (by kernel_rfl) rfl ⟨?_, ?_, ?_, ?_, ?_, ?_, ?_, ?_, ?_, ?_, trivial⟩ ?_
  · intro u w hR hd; exact runs_mv (ev rfl) ⟨rfl, rfl⟩
  · intro u w hR hd; exact runs_mv (ev rfl) ⟨rfl, rfl⟩
  · intro u w hR hd; exact runs_mv (ev rfl) ⟨rfl, rfl⟩
  · intro u w hR hd; exact rn_nil (ev (hd.1 rfl)) ⟨rfl, rfl⟩
  · intro u w hR hd; exact rn_fld_28_4 (ev (hd.1 rfl)) ⟨rfl, rfl⟩
  · intro u w hR hd; exact rn_ld_23 (ev (hd.1 rfl)) (i4.kept hR) ⟨rfl, rfl⟩
  · intro u w hR hd; exact rn_len_23 (ev (hd.1 rfl)) ⟨rfl, rfl⟩
  · intro u w hR hd; exact rn_lss_3 (ev (hd.1 rfl)) (ev (hd.2.1 rfl)) ⟨rfl, rfl⟩
  · intro u w hR hd; exact runs_mva (ev (hd.1 rfl)) ⟨rfl, rfl⟩
  · intro u w hR hd; exact runs_mva (ev (hd.1 rfl)) ⟨rfl, rfl⟩
  intro u h
  have e0 : u 6 = .int .i64 i := h 8 (by decide)
  have e1 : u 7 = .bool (decide (i < ((I.chans : Nat) : Int))) := h 9 (by decide)
  simp only [mixA, mixL, zz9, zz0]
  rw [e0, e1]
  clear h e0 e1 i4
  go_wp2
  go_ret2
  exact ⟨rfl, hg.drw⟩
set_option maxHeartbeats 4000000 in
theorem opnd_7 (k a b d : Nat) (hk : k < 31) (ha : a < 8) (hb : b < 8) (i : Int) (hi : I16 i) (hi0 : 4 ≤ (ins k).1 → 0 ≤ i) (I : Im) (s : St) (N c p : Nat) (w : World) (hC : Blk c (stv s) CPT w) (hs : s.Ok) (hIm : ImgAt N w p I) (hIo : I.Ok) (hE : EnvN N w) (hsrc : (ins k).1 = 7) :
    Calls Tryd.prog 26 #[.pointer (some ⟨c, 0, none⟩), cdV ⟨k, a, b, d, i⟩, .pointer (some ⟨p, 0, none⟩)] w fun e w' => e = .returned (.tuple #[.int .i64 (opndS 7 ⟨k, a, b, d, i⟩ s I).1, .bool (opndS 7 ⟨k, a, b, d, i⟩ s I).2]) ∧ Grew w w' := by
  obtain ⟨r, gp, ap, kp, hp, gc, ac, kc, hc, hI, hR⟩ := hIm
  have HS := Lib.hid hs
  have HIo := Lib.hid hIo
  have HI0 : Hid (4 ≤ (ins k).1 → 0 ≤ i) := Lib.hid hi0
  obtain ⟨bi0, bi1⟩ := hi
  have ti0 : w.cell? ⟨0, k * 2, none⟩ = some (.int .i64 (ins k).1) := hE.ins.cell k hk 0 rfl
  rw [hsrc] at ti0 HI0
  have bk : ¬ (31 : Int) ≤ (k : Int) := by omega
  have bk2 : (k : Int) < 31 := by omega
  have hgl : 0 < w.heap.size := World.block_lt_of_cell? _ _ ti0
  clear hE hs hIo hsrc hi0
  go_enter Tryd.func26, Tryd.ntmps26
  go_upto_region 18 with fail
  generalize hV : World.alloc _ _ = V
  have bx : Blk w.heap.size (cdv ⟨k, a, b, d, i⟩) 72 V := by subst hV; exact Blk.new w (cdv ⟨k, a, b, d, i⟩) _
  have hg : Grew w V := by subst hV; exact (Grew.refl _).alloc _
  clear hV ti0 hgl
  replace hC := hC.grew hg
  replace hI := hI.grew hg
  replace hR := hR.chg (Chg.of_grew hg (fun _ => False)) fun _ h => h.elim
  have i3 : Atv ⟨p, 3, none⟩ (.int .i64 I.outs) V.drew := (hI.grew (Grew.refl _).drw).atv 3 rfl
  refine wp_still [some 83, some 84, some 85, some 86, some 87, some 88, some 89, some 6, some 7] [false, false, false, false, false, false, true, true, false, false, false, false, false, false, false, false, false, false, false, false, false, false, false, false, false, false, false, false, false, false, false, false, false, false, false, false, false, false, false, false, false, false, false, false, false, false, false, false, false, false, false, false, false, false, false, false, false, false, false, false, false, false, false, false, false, false, false, false, false, false, false, false, false, false, false, false, false, false, false, false, false, false, false, true, true, true, true, true, true, true, false] [fun v _ => v = .int .i64 (i), fun v _ => v = .int .i64 (i), fun v _ => v = .pointer (some ⟨p, 0, none⟩), fun v _ => v = .pointer (some ⟨p, 0, none⟩), fun v _ => v = .pointer (some ⟨p, 3, none⟩), fun v _ => v = .int .i64 (I.outs), fun v _ => v = .bool (decide ((i) < (I.outs))), fun v _ => v = .int .i64 (i), fun v _ => v = .bool (decide ((i) < (I.outs)))] (by kernel_rfl) (by kernel_rfl) rfl ⟨?_, ?_, ?_, ?_, ?_, ?_, ?_, ?_, ?_, trivial⟩ ?_
  · intro u w hR hd; exact runs_mv (ev rfl) ⟨rfl, rfl⟩
  · intro u w hR hd; exact runs_mv (ev rfl) ⟨rfl, rfl⟩
  · intro u w hR hd; exact runs_mv (ev rfl) ⟨rfl, rfl⟩
  · intro u w hR hd; exact rn_nil (ev (hd.1 rfl)) ⟨rfl, rfl⟩
  · intro u w hR hd; exact rn_fld_28_3 (ev (hd.1 rfl)) ⟨rfl, rfl⟩
  · intro u w hR hd; exact rn_ld_3 (ev (hd.1 rfl)) (i3.kept hR) ⟨rfl, rfl⟩
  · intro u w hR hd; exact rn_lss_3 (ev (hd.1 rfl)) (ev (hd.2.1 rfl)) ⟨rfl, rfl⟩
  · intro u w hR hd; exact runs_mva (ev (hd.1 rfl)) ⟨rfl, rfl⟩
  · intro u w hR hd; exact runs_mva (ev (hd.1 rfl)) ⟨rfl, rfl⟩
  intro u h
  have e0 : u 6 = .int .i64 i := h 7 (by decide)
  have e1 : u 7 = .bool (decide (i < I.outs)) := h 8 (by decide)
  simp only [mixA, mixL, zz9, zz0]
  rw [e0, e1]
  clear h e0 e1 i3
  go_wp2
  go_ret2
  exact ⟨rfl, hg.drw⟩
end Go.Proofs.YtbhglpiiabpdjaaDoor
