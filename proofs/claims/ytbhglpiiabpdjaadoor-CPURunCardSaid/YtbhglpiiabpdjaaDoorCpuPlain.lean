/-
  PLAIN MATHEMATICS FOR LAYER 12 (cpu): the state, the simulated bus, what an instruction does, runs. Nothing of the program stands here.
-/
import Derived.Test.YtbhglpiiabpdjaaDoorCpuWord
import Derived.Test.YtbhglpiiabpdjaaDoorCiCost
namespace Go.Proofs.YtbhglpiiabpdjaaDoor
open Go Go.RowKit Go.IntWalk

/-- The processor: the program counter; registers 0 to 7 and frame slots 8 to 71. -/
structure St where
  pc : Int
  xs : List Int
/-- The bus: words of memory, readings, at which call the power fails, the calls. -/
structure Wd where
  ws : List Int
  rs : List Int
  fl : Int
  cs : List (Int × Int × Int)
/-- What of an image the processor looks at. -/
structure Im where
  code : List Cd
  gs : List (ByteArray × Int × Int × Int)
  addr : List Int
  sens : Int
  outs : Int
  chans : Nat
def All16 (xs : List Int) : Prop := ∀ v ∈ xs, I16 v
structure St.Ok (s : St) : Prop where
  len : s.xs.length = 72
  all : All16 s.xs
structure Wd.Ok (W : Wd) : Prop where
  ws : All16 W.ws
  rs : All16 W.rs
def St.reg (s : St) (k : Nat) : Int := s.xs.getD k 0
/-- Location k holds v, and the program counter is p. -/
def St.to (s : St) (k : Nat) (v p : Int) : St := ⟨p, s.xs.set k v⟩
theorem All16.set {xs : List Int} (h : All16 xs) (k : Nat) {v : Int} (hv : I16 v) : All16 (xs.set k v) := fun u hu => by
  rcases List.mem_or_eq_of_mem_set hu with h1 | rfl
  · exact h u h1
  · exact hv
theorem zero16 : I16 0 := by unfold I16; omega
theorem St.Ok.reg {s : St} (h : s.Ok) (k : Nat) : I16 (s.reg k) := by
  unfold St.reg
  rw [List.getD_eq_getElem?_getD]
  cases hk : s.xs[k]? with
  | none => exact zero16
  | some v => exact h.all v (List.mem_of_getElem? hk)
theorem St.Ok.to {s : St} (h : s.Ok) (k : Nat) {v : Int} (p : Int) (hv : I16 v) : (s.to k v p).Ok := ⟨by simp [St.to, h.len], h.all.set k hv⟩
theorem St.Ok.pc {s : St} (h : s.Ok) (p : Int) : (⟨p, s.xs⟩ : St).Ok := ⟨h.len, h.all⟩
theorem St.Ok.at {s : St} (h : s.Ok) {k : Nat} (hk : k < 72) : s.xs[k]? = some (s.reg k) := by
  have hl : k < s.xs.length := by rw [h.len]; exact hk
  simp [St.reg, List.getD_eq_getElem?_getD, hl]
def Wd.call (W : Wd) (k a b : Int) : Wd := { W with cs := W.cs ++ [(k, a, b)] }
/-- The power lasts. -/
def Wd.okb (W : Wd) : Bool := (W.cs.length : Int) != W.fl
def ix (n : Int) : Int := (n - 2560).tdiv 2
def Wd.word (W : Wd) (n : Int) : Int := if ix n < 0 ∨ (W.ws.length : Int) ≤ ix n then 0 else W.ws.getD (ix n).toNat 0
def Wd.load (W : Wd) (n : Int) : Int × Bool × Wd := (W.word n, (W.call 1 n 0).okb, W.call 1 n 0)
def Wd.put (W : Wd) (n v : Int) : Wd := if ix n < 0 ∨ (W.ws.length : Int) ≤ ix n then W else { W with ws := W.ws.set (ix n).toNat v }
def Wd.store (W : Wd) (n v : Int) : Bool × Wd := if (W.call 2 n v).okb then (true, (W.call 2 n v).put n v) else (false, W.call 2 n v)
def Wd.read (W : Wd) (n : Int) : Int × Bool × Wd := (W.rs.headD 0, (W.call 3 n 0).okb, { W.call 3 n 0 with rs := W.rs.tail })
theorem Wd.Ok.call {W : Wd} (h : W.Ok) (k a b : Int) : (W.call k a b).Ok := ⟨h.ws, h.rs⟩
theorem Wd.Ok.word {W : Wd} (h : W.Ok) (n : Int) : I16 (W.word n) := by
  unfold Wd.word
  split
  · exact zero16
  · rw [List.getD_eq_getElem?_getD]
    cases hk : W.ws[(ix n).toNat]? with
    | none => exact zero16
    | some v => exact h.ws v (List.mem_of_getElem? hk)
theorem Wd.Ok.put {W : Wd} (h : W.Ok) (n : Int) {v : Int} (hv : I16 v) : (W.put n v).Ok := by
  unfold Wd.put
  split
  · exact h
  · exact ⟨h.ws.set _ hv, h.rs⟩
theorem Wd.Ok.store {W : Wd} (h : W.Ok) (n : Int) {v : Int} (hv : I16 v) : (W.store n v).2.Ok := by
  unfold Wd.store
  split
  · exact (h.call 2 n v).put n hv
  · exact h.call 2 n v
theorem Wd.Ok.read {W : Wd} (h : W.Ok) (n : Int) : (W.read n).2.2.Ok := ⟨h.ws, fun v hv => h.rs v (List.mem_of_mem_tail hv)⟩
theorem Wd.Ok.head {W : Wd} (h : W.Ok) : I16 (W.rs.headD 0) := by
  cases hr : W.rs with
  | nil => exact zero16
  | cons v l => exact h.rs v (by rw [hr]; exact List.mem_cons_self)
/-- A data address. -/
def dat (n : Int) : Bool := decide (2560 ≤ n) && (decide (n < 3584) && n.tmod 2 == 0)
def Im.len (I : Im) (g : Nat) : Int := (I.gs.getD g (⟨#[]⟩, 0, 0, 0)).2.1
/-- The address of an element of a global variable. -/
def elt (I : Im) (g v : Int) : Int × Bool :=
  if (I.gs.length : Int) ≤ g ∨ (I.addr.length : Int) ≤ g then (0, false)
  else (wrap64 (I.addr.getD g.toNat 0 + 2 * (if I.len g.toNat < 1 then 0 else v % 65536 % I.len g.toNat)), decide (1 ≤ I.len g.toNat))
/-- The operand of a valid instruction, and whether it is valid. -/
def opnd (x : Cd) (s : St) (I : Im) : Int × Bool :=
  if x.op = 14 ∨ x.op = 15 ∨ x.op = 27 then (x.i, dat x.i)
  else if x.op = 16 ∨ x.op = 17 then (s.reg x.b.toNat, dat (s.reg x.b.toNat))
  else if x.op = 28 then (s.reg x.a.toNat, dat (s.reg x.a.toNat))
  else if x.op = 18 then elt I x.i (s.reg x.b.toNat)
  else if x.op = 23 then (x.i, decide (x.i < I.sens))
  else if x.op = 24 then (x.i, decide (x.i < I.chans))
  else if x.op = 26 then (x.i, decide (x.i < I.outs))
  else (x.i, true)
/-- The operator of an arithmetic instruction. -/
def oper (op : Int) : Int := if op = 4 then 1 else if op = 5 then 2 else if op ≤ 11 then op - 3 else if op = 12 then 10 else 11
/-- What an instruction with the operand n does: whether the power lasts, the state, the bus. -/
def perf (x : Cd) (n : Int) (s : St) (W : Wd) : Bool × St × Wd :=
  let a := x.a.toNat
  let p := s.pc + 1
  if x.op = 1 then (true, s, W)
  else if x.op = 2 ∨ x.op = 18 then (true, s.to a (w16 n) p, W)
  else if x.op = 3 then (true, s.to a (s.reg x.b.toNat) p, W)
  else if x.op = 4 ∨ x.op = 5 then (true, s.to a (unv (oper x.op) (s.reg x.b.toNat)) p, W)
  else if 6 ≤ x.op ∧ x.op ≤ 13 then (true, s.to a (binv (oper x.op) (s.reg x.b.toNat) (s.reg x.c.toNat)) p, W)
  else if x.op = 14 ∨ x.op = 16 then ((W.load n).2.1, s.to a (W.load n).1 p, (W.load n).2.2)
  else if x.op = 15 ∨ x.op = 17 then ((W.store n (s.reg a)).1, ⟨p, s.xs⟩, (W.store n (s.reg a)).2)
  else if x.op = 19 then (true, s.to (8 + n.toNat) (s.reg a) p, W)
  else if x.op = 20 then (true, s.to a (s.reg (8 + n.toNat)) p, W)
  else if x.op = 21 then (true, ⟨n, s.xs⟩, W)
  else if x.op = 22 then (true, ⟨if s.reg a = 0 then n else p, s.xs⟩, W)
  else if x.op = 23 then ((W.read n).2.1, s.to a (W.read n).1 p, (W.read n).2.2)
  else if x.op = 24 then ((W.call 4 n (s.reg a)).okb, ⟨p, s.xs⟩, W.call 4 n (s.reg a))
  else if x.op = 25 then ((W.call 5 (s.reg a) 0).okb, ⟨p, s.xs⟩, W.call 5 (s.reg a) 0)
  else if x.op = 26 then ((W.call 6 n (s.reg a)).okb, ⟨p, s.xs⟩, W.call 6 n (s.reg a))
  else if x.op = 27 ∨ x.op = 28 then ((W.call 7 n 0).okb, ⟨p, s.xs⟩, W.call 7 n 0)
  else (true, ⟨p, s.xs⟩, W)
theorem ite_both {p : Prop} [Decidable p] {α : Type} (P : α → Prop) {x y : α} (h1 : P x) (h2 : P y) : P (if p then x else y) := by split <;> assumption
theorem perf_ok (x : Cd) (n : Int) {s : St} {W : Wd} (hs : s.Ok) (hW : W.Ok) : (perf x n s W).2.1.Ok ∧ (perf x n s W).2.2.Ok := by
  have hp := hs.pc (s.pc + 1)
  show (fun r : Bool × St × Wd => r.2.1.Ok ∧ r.2.2.Ok) (perf x n s W)
  unfold perf
  refine ite_both (fun r : Bool × St × Wd => r.2.1.Ok ∧ r.2.2.Ok) ⟨hs, hW⟩ ?_
  refine ite_both (fun r : Bool × St × Wd => r.2.1.Ok ∧ r.2.2.Ok) ⟨hs.to _ _ (w16_bd _), hW⟩ ?_
  refine ite_both (fun r : Bool × St × Wd => r.2.1.Ok ∧ r.2.2.Ok) ⟨hs.to _ _ (hs.reg _), hW⟩ ?_
  refine ite_both (fun r : Bool × St × Wd => r.2.1.Ok ∧ r.2.2.Ok) ⟨hs.to _ _ (unv_16 _ _), hW⟩ ?_
  refine ite_both (fun r : Bool × St × Wd => r.2.1.Ok ∧ r.2.2.Ok) ⟨hs.to _ _ (binv_16 _ _ _ (hs.reg _)), hW⟩ ?_
  refine ite_both (fun r : Bool × St × Wd => r.2.1.Ok ∧ r.2.2.Ok) ⟨hs.to _ _ (hW.word _), hW.call _ _ _⟩ ?_
  refine ite_both (fun r : Bool × St × Wd => r.2.1.Ok ∧ r.2.2.Ok) ⟨hp, hW.store _ (hs.reg _)⟩ ?_
  refine ite_both (fun r : Bool × St × Wd => r.2.1.Ok ∧ r.2.2.Ok) ⟨hs.to _ _ (hs.reg _), hW⟩ ?_
  refine ite_both (fun r : Bool × St × Wd => r.2.1.Ok ∧ r.2.2.Ok) ⟨hs.to _ _ (hs.reg _), hW⟩ ?_
  refine ite_both (fun r : Bool × St × Wd => r.2.1.Ok ∧ r.2.2.Ok) ⟨hs.pc _, hW⟩ ?_
  refine ite_both (fun r : Bool × St × Wd => r.2.1.Ok ∧ r.2.2.Ok) ⟨hs.pc _, hW⟩ ?_
  refine ite_both (fun r : Bool × St × Wd => r.2.1.Ok ∧ r.2.2.Ok) ⟨hs.to _ _ hW.head, hW.read _⟩ ?_
  refine ite_both (fun r : Bool × St × Wd => r.2.1.Ok ∧ r.2.2.Ok) ⟨hp, hW.call _ _ _⟩ ?_
  refine ite_both (fun r : Bool × St × Wd => r.2.1.Ok ∧ r.2.2.Ok) ⟨hp, hW.call _ _ _⟩ ?_
  refine ite_both (fun r : Bool × St × Wd => r.2.1.Ok ∧ r.2.2.Ok) ⟨hp, hW.call _ _ _⟩ ?_
  refine ite_both (fun r : Bool × St × Wd => r.2.1.Ok ∧ r.2.2.Ok) ⟨hp, hW.call _ _ _⟩ ?_
  exact ⟨hp, hW⟩
def Im.at (I : Im) (pc : Int) : Option Cd := if 0 ≤ pc then I.code[pc.toNat]? else none
def outc (op : Int) : Int := if op = 1 then 2 else if op = 29 then 3 else 1
def spend (W : Wd) (op : Int) : Wd := W.call 8 ((cst op).1 - (cst op).2.2) (cst op).2.1
/-- What an instruction that is not trapped does. -/
def go1 (x : Cd) (n : Int) (s : St) (W : Wd) : St × Int × Wd :=
  if (spend W x.op).okb then
    let r := perf x n s (spend W x.op)
    if r.1 then (r.2.1, outc x.op, r.2.2) else (s, 4, r.2.2)
  else (s, 4, spend W x.op)
/-- Whether an instruction is trapped. -/
def trapd (I : Im) (s : St) : Bool := match I.at s.pc with
  | none => true
  | some x => !valid x || !(opnd x s I).2
def step (I : Im) (s : St) (W : Wd) : St × Int × Wd := match I.at s.pc with
  | none => (s, 5, W)
  | some x => if valid x && (opnd x s I).2 then go1 x (opnd x s I).1 s W else (s, 5, W)
theorem go1_ok (x : Cd) (n : Int) {s : St} {W : Wd} (hs : s.Ok) (hW : W.Ok) : (go1 x n s W).1.Ok ∧ (go1 x n s W).2.2.Ok := by
  have h := perf_ok x n hs (hW.call 8 ((cst x.op).1 - (cst x.op).2.2) (cst x.op).2.1)
  unfold go1
  split
  · simp only
    split
    · exact h
    · exact ⟨hs, h.2⟩
  · exact ⟨hs, hW.call _ _ _⟩
theorem step_ok (I : Im) {s : St} {W : Wd} (hs : s.Ok) (hW : W.Ok) : (step I s W).1.Ok ∧ (step I s W).2.2.Ok := by
  unfold step
  split
  · exact ⟨hs, hW⟩
  · split
    · exact go1_ok _ _ hs hW
    · exact ⟨hs, hW⟩
/-- At most so many steps: the state, the outcome, the number of steps, the bus. -/
def runN (I : Im) : Nat → St → Wd → St × Int × Nat × Wd
  | 0, s, W => (s, 1, 0, W)
  | k + 1, s, W => if (step I s W).2.1 = 1 then
      let t := runN I k (step I s W).1 (step I s W).2.2
      (t.1, t.2.1, t.2.2.1 + 1, t.2.2.2)
    else ((step I s W).1, (step I s W).2.1, 1, (step I s W).2.2)
end Go.Proofs.YtbhglpiiabpdjaaDoor
