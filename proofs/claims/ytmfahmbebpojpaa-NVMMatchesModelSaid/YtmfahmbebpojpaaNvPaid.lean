/-
  LAYER 7 (nvm): the meters, and the deferred recovery around them.
-/
import Derived.Test.YtmfahmbebpojpaaNvObj
import Derived.Test.YtmfahmbebpojpaaRows
import Derived.WalkKit
import Derived.WalkSpells
import Derived.WalkLawsBesides
import Derived.Defers
import Derived.Recover
namespace Go.Proofs.Ytmfahmbebpojpaa
open Go Go.RowKit Go.IntWalk Go.Extern.Stop Go.Stop Go.Extern
set_option linter.unusedSimpArgs false

theorem down_any (b : Nat) (n : Int) (w : World) (h : w.heap[b]? = some (.cells #[.int .i64 n] 3)) :
    Calls Try.prog 42 #[.pointer (some ⟨b, 0, none⟩)] w fun e w' => e = .returned (.bool (decide (0 ≤ wrap64 (n - 1)))) ∧ w' = w.setCell ⟨b, 0, none⟩ (.int .i64 (wrap64 (n - 1))) := by
  have h0 : w.cell? ⟨b, 0, none⟩ = some (.int .i64 n) := by rw [cells_of_heap h]; rfl
  have hf := free_of_heap h 0
  have hs : (w.setCell ⟨b, 0, none⟩ (.int .i64 (wrap64 (n - 1)))).cell? ⟨b, 0, none⟩ = some (.int .i64 (wrap64 (n - 1))) := World.cell?_setCell_same' _ _ _ (by rw [h0]; rfl)
  clear h
  go_enter Try.func42, Try.ntmps42
  go_wp2
  go_ret
  exact ⟨rfl, rfl⟩
theorem up_any (b kb : Nat) (c k : Int) (w : World) (h : w.heap[b]? = some (.cells #[.int .i64 c] 3)) (h2 : w.heap[kb]? = some (.cells #[.int .i64 k] 3)) (hne : b ≠ kb) :
    Calls Try.prog 23 #[.pointer (some ⟨b, 0, none⟩), .pointer (some ⟨kb, 0, none⟩)] w fun e w' => e = .returned (.bool (decide (wrap64 (c + 1) ≤ k))) ∧ w' = w.setCell ⟨b, 0, none⟩ (.int .i64 (wrap64 (c + 1))) := by
  have h0 : w.cell? ⟨b, 0, none⟩ = some (.int .i64 c) := by rw [cells_of_heap h]; rfl
  have hf := free_of_heap h 0
  have hs : (w.setCell ⟨b, 0, none⟩ (.int .i64 (wrap64 (c + 1)))).cell? ⟨b, 0, none⟩ = some (.int .i64 (wrap64 (c + 1))) := World.cell?_setCell_same' _ _ _ (by rw [h0]; rfl)
  have hk : (w.setCell ⟨b, 0, none⟩ (.int .i64 (wrap64 (c + 1)))).cell? ⟨kb, 0, none⟩ = some (.int .i64 k) := by
    rw [World.cell?_setCell_other _ _ _ _ (by simp [hne]), cells_of_heap h2]; rfl
  clear h h2
  go_enter Try.func23, Try.ntmps23
  go_wp2
  go_ret
  exact ⟨rfl, rfl⟩
/-- The deferred function of paid, entered behind a call that returns: recover finds nothing. -/
theorem catch_idle (w : World) : CallsD Try.prog 43 #[] .returning w fun e u' w' => e = .returned (.tuple #[]) ∧ u' = .returning ∧ w' = w := by
  refine callsD_of_wpS Try.func43 rfl fun c₀ cs hu => ?_
  apply wpS_region
  simp [wpOpsS, go_sem, recoverD, hu, Try.ntmps43, Exit.thenS]
  cases c₀
  simp_all [bodyPostS, results, Try.results43]
theorem paid_none (q : Nat) (w : World) (h : w.cell? ⟨q, 3, none⟩ = some .nilFunc) :
    Calls Try.prog 40 #[.pointer (some ⟨q, 0, none⟩)] w fun e w' => e = .returned (.bool true) ∧ w' = w := by
  have hnil : ∀ w : World, (binOp BinOp.eql 23 .nilFunc .nilFunc).run Try.prog w = .ok (.bool true) w := fun _ => by kernel_rfl
  go_enter_defers Try.func40, Try.ntmps40
  go_wp2
  exact ⟨_, results_tmp rfl _ _ _, rfl, rfl⟩
/-- A meter whose contract is at hand. -/
theorem paid_some (q : Nat) (f : FuncId) (cap : Array Value) (b : Bool) (R : World → Prop) (w : World) (h : w.cell? ⟨q, 3, none⟩ = some (.func (.func f) #[] cap))
    (hc : Calls Try.prog f cap w fun e w' => e = .returned (.bool b) ∧ R w') (hE : ∀ (args : Array Value) (w : World), Sem.run Try.prog (callFunc f args) w = .ok (.enter f args) w) :
    Calls Try.prog 40 #[.pointer (some ⟨q, 0, none⟩)] w fun e w' => e = .returned (.bool b) ∧ R w' := by
  have hnil : ∀ w : World, (binOp BinOp.eql 23 (.func (.func f) #[] cap) .nilFunc).run Try.prog w = .ok (.bool false) w := fun _ => by
    first | rfl | kernel_rfl | simp [binOp, go_sem]
  have HC := Lib.hid hc
  clear hc
  go_enter_defers Try.func40, Try.ntmps40
  go_wp2
  refine HC.out.mono ?_
  rintro e w1 ⟨rfl, hr⟩
  go_wp2
  refine leaves_cons (f := 43) (args := #[]) (by simp) (by simp [go_sem]) ?_
  refine (catch_idle w1).mono ?_
  rintro e u' w2 ⟨rfl, rfl, rfl⟩
  exact ⟨_, results_tmp rfl _ _ _, rfl, hr⟩
theorem paid_any (g q : Nat) (s : NV) (w : World) (h : NvS w g q s) :
    Calls Try.prog 40 #[.pointer (some ⟨q, 0, none⟩)] w fun e w' => e = .returned (.bool s.mt.pays) ∧ NvS w' g q { s with mt := s.mt.spent } ∧ Chg w w' s.mt.blk := by
  have hc := h.rc.2.2.2.1
  have hm := h.mt
  obtain ⟨B, off, left, mt, wr⟩ := s
  cases mt with
  | no =>
    refine (paid_none q w hc).mono ?_
    rintro e w' ⟨rfl, rfl⟩
    exact ⟨rfl, h, Chg.refl _ _⟩
  | down b n =>
    refine (paid_some q 42 #[.pointer (some ⟨b, 0, none⟩)] (Mt.down b n).pays (fun w' => w' = w.setCell ⟨b, 0, none⟩ (.int .i64 (wrap64 (n - 1)))) w hc (down_any b n w hm) (fun args w => by go_simp)).mono ?_
    rintro e w' ⟨rfl, rfl⟩
    have hg : Chg w (w.setCell ⟨b, 0, none⟩ (.int .i64 (wrap64 (n - 1)))) (Mt.down b n).blk := Chg.set w ⟨b, 0, none⟩ _
    exact ⟨rfl, h.spend (heap_setCell_same hm 0 _) hg, hg⟩
  | up b kb c k =>
    refine (paid_some q 23 #[.pointer (some ⟨b, 0, none⟩), .pointer (some ⟨kb, 0, none⟩)] (Mt.up b kb c k).pays (fun w' => w' = w.setCell ⟨b, 0, none⟩ (.int .i64 (wrap64 (c + 1)))) w hc (up_any b kb c k w hm.1 hm.2.1 hm.2.2) (fun args w => by go_simp)).mono ?_
    rintro e w' ⟨rfl, rfl⟩
    have hg : Chg w (w.setCell ⟨b, 0, none⟩ (.int .i64 (wrap64 (c + 1)))) (Mt.up b kb c k).blk := Chg.set w ⟨b, 0, none⟩ _
    exact ⟨rfl, h.spend ⟨heap_setCell_same hm.1 0 _, (heap_setCell_other w _ kb _ (Ne.symm hm.2.2)).trans hm.2.1, hm.2.2⟩ hg, hg⟩
end Go.Proofs.Ytmfahmbebpojpaa
