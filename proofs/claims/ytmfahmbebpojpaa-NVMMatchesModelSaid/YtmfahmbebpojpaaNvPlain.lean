/-
  LAYER 7 (nvm), plainly: the state of a memory, its meters, and what a write does.
-/
import Derived.Test.YtmfahmbebpojpaaChg
namespace Go.Proofs.Ytmfahmbebpojpaa
open Go Go.RowKit Go.IntWalk

/-- A meter: none; a closure that counts a box down; one that counts a box up to what another holds. -/
inductive Mt where
  | no
  | down (b : Nat) (n : Int)
  | up (b kb : Nat) (c k : Int)
def Mt.val : Mt → Value
  | .no => .nilFunc
  | .down b _ => .func (.func 42) #[] #[.pointer (some ⟨b, 0, none⟩)]
  | .up b kb _ _ => .func (.func 23) #[] #[.pointer (some ⟨b, 0, none⟩), .pointer (some ⟨kb, 0, none⟩)]
def Mt.rep (w : World) : Mt → Prop
  | .no => True
  | .down b n => w.heap[b]? = some (.cells #[.int .i64 n] 3)
  | .up b kb c k => w.heap[b]? = some (.cells #[.int .i64 c] 3) ∧ w.heap[kb]? = some (.cells #[.int .i64 k] 3) ∧ b ≠ kb
/-- Whether the meter allows the next write. -/
def Mt.pays : Mt → Bool
  | .no => true
  | .down _ n => decide (0 ≤ wrap64 (n - 1))
  | .up _ _ c k => decide (wrap64 (c + 1) ≤ k)
/-- The meter behind a call. -/
def Mt.spent : Mt → Mt
  | .no => .no
  | .down b n => .down b (wrap64 (n - 1))
  | .up b kb c k => .up b kb (wrap64 (c + 1)) k
/-- The block that its calls change. -/
def Mt.blk : Mt → Nat → Prop
  | .no, _ => False
  | .down b _, k => k = b
  | .up b _ _ _, k => k = b
theorem Mt.spent_blk (m : Mt) (k : Nat) : m.spent.blk k ↔ m.blk k := by cases m <;> rfl
theorem Mt.spent_val (m : Mt) : m.spent.val = m.val := by cases m <;> rfl

/-- The state of a memory. -/
structure NV where
  B : List UInt8
  off : Bool
  left : Int
  mt : Mt
  wr : Int
def validB (len : Nat) (a n : Int) : Bool := decide (0 ≤ a) && decide (0 ≤ n) && decide (a ≤ (len : Int) - n)
/-- What a write of one byte does, and whether it succeeds. -/
def wr1 (s : NV) (a : Int) (x : UInt8) : NV × Bool :=
  if s.off || !validB s.B.length a 1 then (s, false)
  else if s.left = 0 then ({ s with off := true }, false)
  else if s.mt.pays = false then ({ s with off := true, mt := s.mt.spent }, false)
  else ({ s with B := s.B.set a.toNat x, left := if 0 < s.left then wrap64 (s.left - 1) else s.left, mt := s.mt.spent, wr := wrap64 (s.wr + 1) }, true)
def wrL (s : NV) (a : Int) : List UInt8 → NV × Bool
  | [] => (s, true)
  | x :: xs => if (wr1 s a x).2 then wrL (wr1 s a x).1 (a + 1) xs else ((wr1 s a x).1, false)
/-- What a write of several bytes does. -/
def wrs (s : NV) (a : Int) (xs : List UInt8) : NV × Bool :=
  if validB s.B.length a xs.length then ((wrL s a xs).1, (wrL s a xs).2 && !(wrL s a xs).1.off) else (s, false)
/-- What is read. -/
def rd1 (s : NV) (a : Int) : UInt8 := if s.off || !validB s.B.length a 1 then 0 else s.B.getD a.toNat 0
def rdw (s : NV) (a : Int) : Int := if s.off || !validB s.B.length a 2 then 0 else IntKind.i16.wrap (((s.B.getD a.toNat 0).toNat : Int) + 256 * ((s.B.getD (a.toNat + 1) 0).toNat : Int))
def rds (s : NV) (a n : Int) : List UInt8 := if validB s.B.length a n then (if s.off then List.replicate n.toNat 0 else (s.B.drop a.toNat).take n.toNat) else []
def nv0 (size : Nat) : NV := ⟨List.replicate size 0, false, -1, .no, 0⟩

theorem validB_iff {len : Nat} {a n : Int} : validB len a n = true ↔ 0 ≤ a ∧ 0 ≤ n ∧ a ≤ (len : Int) - n := by simp [validB, and_assoc]
theorem wr1_len (s : NV) (a : Int) (x : UInt8) : (wr1 s a x).1.B.length = s.B.length := by
  unfold wr1
  split
  · rfl
  · split
    · rfl
    · split
      · rfl
      · simp
theorem wr1_blk (s : NV) (a : Int) (x : UInt8) (k : Nat) : (wr1 s a x).1.mt.blk k ↔ s.mt.blk k := by
  unfold wr1
  split
  · rfl
  · split
    · rfl
    · split
      · exact s.mt.spent_blk k
      · exact s.mt.spent_blk k
theorem wrL_blk (xs : List UInt8) : ∀ (s : NV) (a : Int) (k : Nat), (wrL s a xs).1.mt.blk k ↔ s.mt.blk k := by
  induction xs with
  | nil => intro s a k; rfl
  | cons x xs ih =>
    intro s a k
    simp only [wrL]
    split
    · exact (ih _ _ _).trans (wr1_blk s a x k)
    · exact wr1_blk s a x k
theorem wrs_blk (s : NV) (a : Int) (xs : List UInt8) (k : Nat) : (wrs s a xs).1.mt.blk k ↔ s.mt.blk k := by
  unfold wrs
  split
  · exact wrL_blk xs s a k
  · rfl
theorem wrL_len (xs : List UInt8) : ∀ (s : NV) (a : Int), (wrL s a xs).1.B.length = s.B.length := by
  induction xs with
  | nil => intro s a; rfl
  | cons x xs ih =>
    intro s a
    simp only [wrL]
    split
    · exact (ih _ _).trans (wr1_len s a x)
    · exact wr1_len s a x
theorem wrs_len (s : NV) (a : Int) (xs : List UInt8) : (wrs s a xs).1.B.length = s.B.length := by
  unfold wrs
  split
  · exact wrL_len xs s a
  · rfl
end Go.Proofs.Ytmfahmbebpojpaa
