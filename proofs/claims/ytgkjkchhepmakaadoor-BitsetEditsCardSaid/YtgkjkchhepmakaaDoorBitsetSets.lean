/-
  CONTRACTS OF LAYER 4 (bitset): sets in memory, and the operations on them.
-/
import Derived.Test.YtgkjkchhepmakaaDoorBitsetLib2
import Derived.Deep.LoopGhost
import Derived.Handy
import Derived.Deep.Heap
import Derived.Deep.RegionHeld3
namespace Go.Proofs.YtgkjkchhepmakaaDoor
open Go.RowKit Go.IntWalk

/-- The slice of words is the set f. -/
def St (w : World) (p : Option Addr) (n c : Nat) (f : Nat → Bool) : Prop := ∃ ws : List W64, ws.length = n ∧ Rd wv w p c ws ∧ Sets ws f
theorem St.kept {w w' : World} {p : Option Addr} {n c : Nat} {f : Nat → Bool} (h : St w p n c f) (hb : Below w.heap.size w w') : St w' p n c f := by
  obtain ⟨ws, h1, h2, h3⟩ := h
  exact ⟨ws, h1, h2.kept hb, h3⟩
theorem St.congr {w : World} {p : Option Addr} {n c : Nat} {f g : Nat → Bool} (h : St w p n c f) (e : ∀ n, f n = g n) : St w p n c g := by
  obtain ⟨ws, h1, h2, h3⟩ := h
  exact ⟨ws, h1, h2, h3.congr e⟩
theorem St.lt {w : World} {p : Option Addr} {n c : Nat} {f : Nat → Bool} (h : St w p n c f) (k : Nat) (hk : f k = true) : k < 65536 := by
  obtain ⟨ws, h1, h2, h3⟩ := h
  exact h3.lt k hk
theorem new_cell (w : World) (v : Value) (t : TypeId) : (w.alloc (.cells #[v] t)).cell? ⟨w.heap.size, 0, none⟩ = some v := by
  rw [World.cell?_alloc_mark]; rfl
theorem new_free (w : World) (v : Value) (t : TypeId) : (w.alloc (.cells #[v] t)).frozen? ⟨w.heap.size, 0, none⟩ = false := by
  exact World.frozen?_alloc_at _ _ _ _ rfl
/-- The slice lies in memory that was made since. -/
def New (w : World) (p : Option Addr) : Prop := ∀ a, p = some a → w.heap.size ≤ a.block
theorem Ow.isNew {α : Type} {enc : α → Value} {w w0 : World} {base : Nat} {e : TypeId} {p : Option Addr} {n c : Nat} {xs : List α} (h : Ow enc w base e (.slice p n c) xs) (hb : w0.heap.size ≤ base) : New w0 p := fun a ha => Nat.le_trans hb (h.place a ha).1
theorem ret_cell {fn : Func} {p : Tmp} (h : fn.results = #[.cell p 27]) (tmps : Array Value) (w : World) (a : Addr) (v : Value) (hp : tmps.getD p undef = .pointer (some a)) (hc : w.cell? a = some v) :
    (results fn tmps).run Tryd.prog w = .ok (.agg #[v]) w := by
  have hp' : tmps[p]?.getD undef = .pointer (some a) := by simpa using hp
  simp [results, h, hp', hc, go_sem]
theorem set_below {w wr : World} {N : Nat} (h : Below N w wr) (g j : Nat) (v : Value) (hg : N ≤ g) : Below N w (wr.setCell ⟨g, j, none⟩ v) := h.setCell (p := ⟨g, j, none⟩) hg _
theorem ret_set {fn : Func} {p : Tmp} (h : fn.results = #[.cell p 27]) {tmps : Array Value} {w : World} {a : Addr} {u v : Value} {R : Ending → World → Prop} (hp : tmps.getD p undef = .pointer (some a)) (hc : w.cell? a = some u)
    (hR : R (.returned (.agg #[v])) (w.setCell a v)) : bodyPost Tryd.prog fn R .ret { tmps := tmps, defers := [] } (w.setCell a v) :=
  bodyPost_ret (ret_cell h _ _ a v hp (World.cell?_setCell_same' _ _ _ (by rw [hc]; rfl))) rfl hR
def slLen : Value → Nat
  | .slice _ n _ => n
  | _ => 0
theorem St.nil (w : World) : St w none 0 0 (fun _ => false) := ⟨[], rfl, Rd.nil w, Sets.nil⟩

def hasZ (f : Nat → Bool) (z : Int) : Bool := decide (0 ≤ z) && f z.toNat
theorem ret_bool {a b : Bool} (h : a = b) : Ending.returned (.bool a) = .returned (.bool b) := by rw [h]
theorem shr_bit (u : W64) (r : Nat) : (bits .and .u64 ((u.toNat : Int) / 2 ^ r) 1 == 1) = u.getLsbD r := by
  have e : ((u.toNat : Int) / 2 ^ r) = ((u.toNat / 2 ^ r : Nat) : Int) := by simp
  have hu := u.isLt
  have hlt : u.toNat / 2 ^ r < 18446744073709551616 := Nat.lt_of_le_of_lt (Nat.div_le_self _ _) hu
  have e2 : bits .and .u64 ((u.toNat / 2 ^ r : Nat) : Int) 1 = ((u.toNat / 2 ^ r &&& 1 : Nat) : Int) := bits_and_u64_nat _ 1 hlt (by decide)
  rw [e, e2]
  show _ = u.toNat.testBit r
  rw [Nat.testBit_eq_decide_div_mod_eq, Nat.and_one_is_mod]
  rw [Bool.eq_iff_iff]
  simp only [beq_iff_eq, decide_eq_true_eq]
  omega
theorem has_any (p : Option Addr) (n c : Nat) (f : Nat → Bool) (z : Int) (hi : z ≤ 9223372036854775807) (w : World) (h : St w p n c f) :
    Calls Tryd.prog 16 #[.agg #[.slice p n c], .int .i64 z] w fun e w' => e = .returned (.bool (hasZ f z)) ∧ Below w.heap.size w w' := by
  obtain ⟨ws, rfl, hr, hs⟩ := h
  rcases Int.lt_or_le z 0 with hz | hz
  · go_enter Tryd.func16, Tryd.ntmps16
    go_wp2
    go_ret
    refine ⟨ret_bool ?_, (Below.refl _ _).alloc (Nat.le_refl _) _⟩
    simp [hasZ]
    omega
  · obtain ⟨k, rfl⟩ := Int.eq_ofNat_of_zero_le hz
    obtain ⟨q, hq⟩ : ∃ q, k / 64 = q := ⟨_, rfl⟩
    obtain ⟨r, hr6⟩ : ∃ r, k % 64 = r := ⟨_, rfl⟩
    have e1 : (k : Int) / 64 = (q : Int) := by omega
    have e2 : (k : Int) % 64 = (r : Int) := by omega
    have e3 : (r : Int) ≤ 64 := by omega
    have hf : f k = (ws.getD q 0#64).getLsbD r := by rw [← hs.bits, ← hq, ← hr6]; rfl
    have hres : hasZ f (k : Int) = (ws.getD q 0#64).getLsbD r := by simp [hasZ, hf]
    rcases Nat.lt_or_ge q ws.length with hlt | hge
    · obtain ⟨b, o, rfl, _⟩ := hr.cells (by omega)
      have hcell : ∀ ob, (w.alloc ob).cell? ⟨b, o + q, none⟩ = some (.int .u64 ((ws.getD q 0#64).toNat : Int)) := fun ob => (hr.kept ((Below.refl _ _).alloc (Nat.le_refl _) ob)).word q hlt
      have d1 : decide ((k : Int) < 0) = false := by simp
      have d2 : decide ((ws.length : Int) ≤ (q : Int)) = false := by simp; omega
      have hsh := shr_bit (ws.getD q 0#64) r
      generalize ws.getD q 0#64 = u at hcell hsh hres hf
      go_enter Tryd.func16, Tryd.ntmps16
      go_wp2
      go_ret
      exact ⟨ret_bool hres.symm, (Below.refl _ _).alloc (Nat.le_refl _) _⟩
    · rw [getD_out _ _ hge, BitVec.getLsbD_zero] at hres
      go_enter Tryd.func16, Tryd.ntmps16
      go_wp2
      go_ret
      exact ⟨ret_bool hres.symm, (Below.refl _ _).alloc (Nat.le_refl _) _⟩
theorem len_any (p : Option Addr) (n c : Nat) (f : Nat → Bool) (x : List Nat) (w : World) (h : St w p n c f) (hx : Lst f x) :
    Calls Tryd.prog 36 #[.agg #[.slice p n c]] w fun e w' => e = .returned (.int .i64 (x.length : Int)) ∧ Below w.heap.size w w' := by
  obtain ⟨ws, rfl, hr, hs⟩ := h
  have hxl : x.length = pcs ws := by rw [← pcs_els ws 0, hx.unique hs.els (fun _ => rfl)]
  have hle := hs.len
  go_enter Tryd.func36, Tryd.ntmps36
  go_wp2
  go_loopw [3, 9] (fun v i wr => ∃ k : Nat, v = .int .i64 ((pcs (ws.take k) : Nat) : Int) ∧ i = .int .i64 (k : Int) ∧ k ≤ ws.length ∧ Hid (Below w.heap.size w wr)) (fun _ i _ => ws.length - (intOf i).toNat)
  case atStart => exact ⟨0, rfl, rfl, Nat.zero_le _, (Below.refl _ _).alloc (Nat.le_refl _) _⟩
  case round =>
    obtain ⟨k, rfl, rfl, hk, hb⟩ := hrel
    have hp := pcs_le (ws.take k)
    have hp2 : (ws.take k).length = k := by simp; omega
    rw [hp2] at hp
    rcases Nat.lt_or_ge k ws.length with hlt | hge
    · obtain ⟨b, o, rfl, _⟩ := hr.cells (by omega)
      have hcell := (hr.kept hb.out).word k hlt
      have hpc := pc_le (ws.getD k 0#64)
      have hnx := Lib.hid (pcs_take ws k hlt)
      generalize ws.getD k 0#64 = u at hcell hpc hnx
      go_wp2_with (go_at_call 47; (with_reducible refine (ones_any u _).mono ?_); rintro e w1 ⟨rfl, rfl⟩)
      go_roundw
      case rel => exact ⟨k + 1, by rw [hnx.out]; simp [Int.natCast_add], by simp, hlt, hb⟩
      case measure => simp [intOf]; omega
    · obtain rfl : k = ws.length := by omega
      go_wp2
      go_ret
      exact ⟨ret_int (by rw [hxl, List.take_length]), hb.out⟩
theorem trim_any (q : Option Addr) (n d : Nat) (vs : List W64) (f : Nat → Bool) (w : World) (hl : vs.length = n) (hn : n ≤ 1024) (h : Rd wv w q d vs) (hf : ∀ k, bitAt vs k = f k) :
    Calls Tryd.prog 40 #[.slice q n d] w fun e w' => ∃ k, e = .returned (.agg #[.slice q k d]) ∧ k ≤ n ∧ St w' q k d f ∧ Below w.heap.size w w' := by
  subst hl
  have hcap := h.cap
  have hmax := h.max
  go_enter Tryd.func40, Tryd.ntmps40
  go_wp2
  go_loopw [0] (fun v wr => ∃ k : Nat, v = .slice q k d ∧ k ≤ vs.length ∧ Hid (∀ i, k ≤ i → vs.getD i 0#64 = 0#64) ∧ Hid (Below w.heap.size w wr) ∧ Hid (wr.cell? ⟨w.heap.size, 0, none⟩ = some (.slice none 0 0)) ∧ Hid (wr.frozen? ⟨w.heap.size, 0, none⟩ = false)) (fun v _ => slLen v)
  case atStart => exact ⟨vs.length, rfl, Nat.le_refl _, fun i hi => getD_out vs i hi, (Below.refl _ _).alloc (Nat.le_refl _) _, new_cell w _ _, new_free w _ _⟩
  case round =>
    obtain ⟨k, rfl, hk, h0, hb, hc1, hc2⟩ := hrel
    have hcc := hc1.out
    have hcf := hc2.out
    rcases Nat.eq_zero_or_pos k with rfl | hpos
    · go_wp2
      try simp only [Exit.inBlock, Exit.then]
      refine ret_set rfl rfl hcc ?_
      have hset := Sets.take (ws := vs) (f := f) 0 (Nat.zero_le _) hn h0.out (fun j hj => by omega) hf
      have hb' := set_below hb.out w.heap.size 0 (.slice q 0 d) (Nat.le_refl _)
      exact ⟨0, rfl, Nat.zero_le _, ⟨vs.take 0, rfl, (h.kept hb').upto 0 (Nat.zero_le _), hset⟩, hb'⟩
    · obtain ⟨b, o, rfl, _⟩ := h.cells (by omega)
      have hcell := (h.kept hb.out).word (k - 1) (by omega)
      obtain ⟨u, hu⟩ : ∃ u, vs.getD (k - 1) 0#64 = u := ⟨_, rfl⟩
      rw [hu] at hcell
      go_wp2
      · rename_i hz
        refine ⟨⟨k - 1, rfl, by omega, Lib.hid fun i hi => ?_, hb, hc1, hc2⟩, by simp [slLen]; omega⟩
        rcases Nat.lt_or_ge i k with h1 | h1
        · obtain rfl : i = k - 1 := by omega
          rw [hu]
          exact BitVec.eq_of_toNat_eq (by simpa using hz)
        · exact h0.out i h1
      · rename_i hz
        try simp only [Exit.inBlock, Exit.then]
        refine ret_set rfl rfl hcc ?_
        have hset := Sets.take (ws := vs) (f := f) k hk hn h0.out (fun j hj => by
          obtain rfl : j = k - 1 := by omega
          rw [hu]
          intro e
          rw [e] at hz
          simp at hz) hf
        have hb' := set_below hb.out w.heap.size 0 (.slice (some ⟨b, o, none⟩) k d) (Nat.le_refl _)
        exact ⟨k, rfl, hk, ⟨vs.take k, by simp; omega, (h.kept hb').upto k hk, hset⟩, hb'⟩

/-! ### Union -/
theorem or_num (u v : W64) : bits .or .u64 (u.toNat : Int) (v.toNat : Int) = ((u ||| v).toNat : Int) := by
  rw [bits_or_u64_nat _ _ u.isLt v.isLt, BitVec.toNat_or]
theorem and_num (u v : W64) : bits .and .u64 (u.toNat : Int) (v.toNat : Int) = ((u &&& v).toNat : Int) := by
  rw [bits_and_u64_nat _ _ u.isLt v.isLt, BitVec.toNat_and]
theorem ofInt_num (u : W64) : BitVec.ofInt 64 (u.toNat : Int) = u := by
  apply BitVec.eq_of_toNat_eq
  rw [BitVec.ofInt_natCast, BitVec.toNat_ofNat]
  exact Nat.mod_eq_of_lt u.isLt
theorem wrap_num (u : W64) : IntKind.u64.wrap (u.toNat : Int) = (u.toNat : Int) := by
  have := u.isLt
  rw [IntKind.wrap_u64]
  omega
theorem andNot_num (u v : W64) : bits .andNot .u64 (u.toNat : Int) (v.toNat : Int) = ((u &&& ~~~ v).toNat : Int) := by
  show IntKind.u64.wrap ((BitVec.ofInt 64 (u.toNat : Int) &&& ~~~ BitVec.ofInt 64 (v.toNat : Int)).toNat : Int) = _
  rw [ofInt_num, ofInt_num, wrap_num]

theorem new_at (w : World) (v : Value) (t : TypeId) (n : Nat) (hn : n = w.heap.size) : (w.alloc (.cells #[v] t)).cell? ⟨n, 0, none⟩ = some v := by subst hn; exact new_cell w v t
theorem below_frozen {N : Nat} {w w1 : World} (h : Below N w w1) {p : Addr} (hp : p.block < N) : w1.frozen? p = w.frozen? p := by
  simp only [World.frozen?, h.block p.block hp]
theorem cell_off {w : World} {g B : Nat} (j : Nat) (v : Value) (h : g ≠ B) : (w.setCell ⟨g, j, none⟩ v).cell? ⟨B, 0, none⟩ = w.cell? ⟨B, 0, none⟩ := World.cell?_of_block (Go.Deep.blk_setCell_other w ⟨g, j, none⟩ v B (fun e => h e.symm))
theorem free_off {w : World} {g B : Nat} (j : Nat) (v : Value) (h : g ≠ B) : (w.setCell ⟨g, j, none⟩ v).frozen? ⟨B, 0, none⟩ = w.frozen? ⟨B, 0, none⟩ := by
  simp only [World.frozen?, Go.Deep.blk_setCell_other w ⟨g, j, none⟩ v B (fun e => h e.symm)]
theorem Ow.apart {α : Type} {enc : α → Value} {w : World} {base : Nat} {e : TypeId} {p : Option Addr} {n c : Nat} {xs : List α} (h : Ow enc w base e (.slice p n c) xs) (B j : Nat) (v : Value) (hB : B < base) : Rd enc (w.setCell ⟨B, j, none⟩ v) p c xs :=
  h.rd.2.keep fun b o hp _ => Go.Deep.blk_setCell_other w ⟨B, j, none⟩ v b (by have := (h.place _ hp).1; simp at this ⊢; omega)
theorem below2 (w : World) (a b : Obj) : Below w.heap.size w ((w.alloc a).alloc b) := ((Below.refl _ _).alloc (Nat.le_refl _) _).alloc (by simp) _
theorem below3 (w : World) (a b c : Obj) : Below w.heap.size w (((w.alloc a).alloc b).alloc c) := (below2 w a b).alloc (by simp; omega) _
theorem union_any (p : Option Addr) (n c : Nat) (q : Option Addr) (m d : Nat) (f g : Nat → Bool) (w : World) (h : St w p n c f) (h2 : St w q m d g) :
    Calls Tryd.prog 20 #[.agg #[.slice p n c], .agg #[.slice q m d]] w fun e w' => ∃ r k j, e = .returned (.agg #[.slice r k j]) ∧ New w r ∧ St w' r k j (fun x => f x || g x) ∧ Below w.heap.size w w' := by
  obtain ⟨ws, rfl, hr, hs⟩ := h
  obtain ⟨vs, rfl, hq, ht⟩ := h2
  have hsl := hs.len
  have htl := ht.len
  rcases Nat.lt_or_ge ws.length vs.length with hlt | hle
  · have setsR := Sets.or ht hs (by omega)
    go_enter Tryd.func20, Tryd.ntmps20
    go_wp2
    go_region
    generalize hW : World.drew _ = W0
    have hb0 := Lib.hid (show Below w.heap.size w W0 by rw [← hW]; exact (below3 w _ _ _).drew)
    have hsz := Lib.hid (show W0.heap.size = w.heap.size + 3 by rw [← hW]; simp)
    have hc0 := Lib.hid (show W0.cell? ⟨w.heap.size + 1 + 1, 0, none⟩ = some (.slice none 0 0) by rw [← hW]; exact new_at _ _ _ _ (by simp))
    have hf0 := Lib.hid (show W0.frozen? ⟨w.heap.size + 1 + 1, 0, none⟩ = false by rw [← hW]; exact World.frozen?_alloc_at _ _ _ _ (by simp))
    clear hW
    go_wp2_with (go_at_call 39; (with_reducible refine (clone_any _ _ _ vs _ rfl ht.len (hq.kept hb0.out)).mono ?_); rintro e w1 ⟨r, j, rfl, ho1, hb1⟩)
    rw [hsz.out] at ho1
    go_loopw [25] (fun v wr => ∃ k : Nat, v = .int .i64 (k : Int) ∧ k ≤ ws.length ∧ Hid (Ow wv wr (w.heap.size + 3) 56 (.slice r vs.length j) (upTo k vs fun i u => u ||| ws.getD i 0#64)) ∧ Hid (Below w.heap.size w wr) ∧ Hid (wr.cell? ⟨w.heap.size + 1 + 1, 0, none⟩ = some (.slice none 0 0)) ∧ Hid (wr.frozen? ⟨w.heap.size + 1 + 1, 0, none⟩ = false)) (fun v _ => ws.length - (intOf v).toNat)
    case atStart =>
      refine ⟨0, rfl, Nat.zero_le _, ?_, hb0.out.trans (hb1.mono hb0.out.size), (hb1.cell (p := ⟨w.heap.size + 1 + 1, 0, none⟩) (by rw [hsz.out]; simp)).trans hc0.out, ?_⟩
      · rw [upTo_zero]; exact ho1
      · exact (below_frozen hb1 (p := ⟨w.heap.size + 1 + 1, 0, none⟩) (by rw [hsz.out]; simp)).trans hf0.out
    case round =>
      obtain ⟨k, rfl, hk, ho, hb, hc1, hc2⟩ := hrel
      have hcc := hc1.out
      have hcf := hc2.out
      rcases Nat.lt_or_ge k ws.length with hlt | hge
      · obtain ⟨b, o, rfl, _⟩ := hr.cells (by omega)
        obtain ⟨g1, rfl, hg1, hg2⟩ := ho.out.at (by omega)
        have hsc := (hr.kept hb.out).word k hlt
        have hrc := ho.out.rd.2.word k (by rw [upTo_length]; omega)
        have hrf := (ho.out.free k).2
        rw [upTo_here _ _ _ (by omega)] at hrc
        rw [Nat.zero_add] at hrc
        have hst := ho.out.set k (vs.getD k 0#64 ||| ws.getD k 0#64)
        rw [upTo_set k vs (fun i u => u ||| ws.getD i 0#64) (by omega)] at hst
        have hst := Lib.hid hst
        generalize vs.getD k 0#64 = u at hrc hst
        generalize ws.getD k 0#64 = v at hsc hst
        have hor := or_num u v
        go_wp2
        go_roundw
        case rel => exact ⟨k + 1, by simp, hlt, hst, set_below hb.out g1 k _ (by omega), (cell_off k _ (by omega)).trans hcc, (free_off k _ (by omega)).trans hcf⟩
        case measure => simp [intOf]; omega
      · obtain rfl : k = ws.length := by omega
        go_wp2
        try simp only [Exit.inBlock, Exit.then]
        refine ret_set rfl rfl hcc ?_
        exact ⟨r, _, j, rfl, ho.out.isNew (by omega), ⟨_, upTo_length _ _ _, ho.out.apart _ 0 _ (by omega), (or_comm' setsR)⟩, set_below hb.out _ 0 _ (by omega)⟩
  · have setsR := Sets.or hs ht (by omega)
    go_enter Tryd.func20, Tryd.ntmps20
    go_wp2
    go_region
    generalize hW : World.drew _ = W0
    have hb0 := Lib.hid (show Below w.heap.size w W0 by rw [← hW]; exact (below3 w _ _ _).drew)
    have hsz := Lib.hid (show W0.heap.size = w.heap.size + 3 by rw [← hW]; simp)
    have hc0 := Lib.hid (show W0.cell? ⟨w.heap.size + 1 + 1, 0, none⟩ = some (.slice none 0 0) by rw [← hW]; exact new_at _ _ _ _ (by simp))
    have hf0 := Lib.hid (show W0.frozen? ⟨w.heap.size + 1 + 1, 0, none⟩ = false by rw [← hW]; exact World.frozen?_alloc_at _ _ _ _ (by simp))
    clear hW
    go_wp2_with (go_at_call 39; (with_reducible refine (clone_any _ _ _ ws _ rfl hs.len (hr.kept hb0.out)).mono ?_); rintro e w1 ⟨r, j, rfl, ho1, hb1⟩)
    rw [hsz.out] at ho1
    go_loopw [25] (fun v wr => ∃ k : Nat, v = .int .i64 (k : Int) ∧ k ≤ vs.length ∧ Hid (Ow wv wr (w.heap.size + 3) 56 (.slice r ws.length j) (upTo k ws fun i u => u ||| vs.getD i 0#64)) ∧ Hid (Below w.heap.size w wr) ∧ Hid (wr.cell? ⟨w.heap.size + 1 + 1, 0, none⟩ = some (.slice none 0 0)) ∧ Hid (wr.frozen? ⟨w.heap.size + 1 + 1, 0, none⟩ = false)) (fun v _ => vs.length - (intOf v).toNat)
    case atStart =>
      refine ⟨0, rfl, Nat.zero_le _, ?_, hb0.out.trans (hb1.mono hb0.out.size), (hb1.cell (p := ⟨w.heap.size + 1 + 1, 0, none⟩) (by rw [hsz.out]; simp)).trans hc0.out, ?_⟩
      · rw [upTo_zero]; exact ho1
      · exact (below_frozen hb1 (p := ⟨w.heap.size + 1 + 1, 0, none⟩) (by rw [hsz.out]; simp)).trans hf0.out
    case round =>
      obtain ⟨k, rfl, hk, ho, hb, hc1, hc2⟩ := hrel
      have hcc := hc1.out
      have hcf := hc2.out
      rcases Nat.lt_or_ge k vs.length with hlt | hge
      · obtain ⟨b, o, rfl, _⟩ := hq.cells (by omega)
        obtain ⟨g1, rfl, hg1, hg2⟩ := ho.out.at (by omega)
        have hsc := (hq.kept hb.out).word k hlt
        have hrc := ho.out.rd.2.word k (by rw [upTo_length]; omega)
        have hrf := (ho.out.free k).2
        rw [upTo_here _ _ _ (by omega)] at hrc
        rw [Nat.zero_add] at hrc
        have hst := ho.out.set k (ws.getD k 0#64 ||| vs.getD k 0#64)
        rw [upTo_set k ws (fun i u => u ||| vs.getD i 0#64) (by omega)] at hst
        have hst := Lib.hid hst
        generalize ws.getD k 0#64 = u at hrc hst
        generalize vs.getD k 0#64 = v at hsc hst
        have hor := or_num u v
        go_wp2
        go_roundw
        case rel => exact ⟨k + 1, by simp, hlt, hst, set_below hb.out g1 k _ (by omega), (cell_off k _ (by omega)).trans hcc, (free_off k _ (by omega)).trans hcf⟩
        case measure => simp [intOf]; omega
      · obtain rfl : k = vs.length := by omega
        go_wp2
        try simp only [Exit.inBlock, Exit.then]
        refine ret_set rfl rfl hcc ?_
        exact ⟨r, _, j, rfl, ho.out.isNew (by omega), ⟨_, upTo_length _ _ _, ho.out.apart _ 0 _ (by omega), setsR⟩, set_below hb.out _ 0 _ (by omega)⟩
end Go.Proofs.YtgkjkchhepmakaaDoor
