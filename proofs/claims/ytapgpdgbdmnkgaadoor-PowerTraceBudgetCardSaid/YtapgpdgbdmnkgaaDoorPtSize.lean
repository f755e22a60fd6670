/-
  LAYER 13 (powertrace): how long a slice of periods that comes in can be.
-/
import Derived.Test.YtapgpdgbdmnkgaaDoorPtEnv
import Derived.SizedLaws
namespace Go.Proofs.YtapgpdgbdmnkgaaDoor
open Go.ChangeShapes Go.WideShapes Go.ChangeAt Go.RowKit

theorem len_bd {H : Type} {enc : TypeId × Value → H} {P : Program} {W : World} {ts : List TypeId} {ds : List (DataW H)} {j : Nat} {t e : TypeId} {a0 : Option Addr} {len cap : Nat} {d0 : DataW H} {p : List MemPlace} (hsz : (DataW.weightsEach P ts ds).all (· ≤ reachBytes) = true) (ht : ts[j]? = some t) (hd : ds[j]? = some d0)
    (hu : P.underlying t = some (.slice e)) (hby : P.bytesOf e = 16) (h : DataW.Trod enc P W 0 (fun _ => true) true t (.slice a0 len cap) d0 p) : len ≤ 8796093022207 := by
  obtain ⟨fuel, hf⟩ := h
  rcases Go.Deep.open_slice hu hf with ⟨hcs, _⟩ | ⟨a, len', cap', m, n, D, Pl, hcs, _, hl, hm', hmm, hx, _⟩
  · simp [Value.cells] at hcs
    obtain ⟨rfl, rfl, rfl⟩ := hcs
    omega
  · simp [Value.cells] at hcs
    obtain ⟨rfl, rfl, rfl⟩ := hcs
    have hx1 := (Prod.mk.inj hx).1
    rw [hx1] at hd
    have h1 := sized_slice hsz ht hd hu
    rw [hby] at h1
    simp only [List.length_map, List.length_range] at h1
    have h2 := reachBytes_lt
    omega
theorem len_per {H : Type} {enc : TypeId × Value → H} {W : World} {ts : List TypeId} {ds : List (DataW H)} {a0 : Option Addr} {len cap : Nat} {d0 : DataW H} {p : List MemPlace} (hsz : (DataW.weightsEach Tryd.prog ts ds).all (· ≤ reachBytes) = true) {j : Nat} (ht : ts[j]? = some 22) (hd : ds[j]? = some d0)
    (h : DataW.Trod enc Tryd.prog W 0 (fun _ => true) true 22 (.slice a0 len cap) d0 p) : len ≤ 8796093022207 :=
  len_bd hsz ht hd Tryd.underlying22 (by kernel_rfl) h
end Go.Proofs.YtapgpdgbdmnkgaaDoor
