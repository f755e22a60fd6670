/-
  Short names of the library's rules on lists (a claim holds 1,500,000 bytes at the most).
-/
import Derived.Below
import Derived.Lib.Hide
import Derived.Test.YtcknpcbkofgdoaaGreatDoorProg
namespace Go.Proofs.YtcknpcbkofgdoaaGreatDoor
theorem zz1 {α:Type _}{xs:List α}{i:Nat}(h:i < xs.toArray.size):xs.toArray[i]=xs[i]'h:=rfl
theorem zz2 {α:Type _}(a:α) (l:List α) (h:0 < (a :: l).length):(a :: l)[0]'h=a:=rfl
theorem zz3 {α:Type _}(a:α) (l:List α) (i:Nat) (h:i+1 < (a :: l).length):(a :: l)[i+1]'h=l[i]'(Nat.lt_of_succ_lt_succ h):=rfl
theorem zz4 {α:Type _}(l:List α) (i:Nat) (a:α):l.toArray.setIfInBounds i a=(l.set i a).toArray:=List.setIfInBounds_toArray l i a
theorem zz5 {α:Type _}{x:α}{xs:List α}{a:α}:(x :: xs).set 0 a=a :: xs:=rfl
theorem zz6 {α:Type _}{x:α}{xs:List α}{i:Nat}{a:α}:(x :: xs).set (i+1) a=x :: xs.set i a:=rfl
theorem zz7 {α:Type _}{a:α}{l:List α}:(a :: l)[0]?=some a:=rfl
theorem zz8 {α:Type _}{a:α}{i:Nat}{l:List α}:(a :: l)[i+1]?=l[i]?:=rfl
theorem zz9 {α:Sort _}(a b:α):(bif true then a else b)=a:=rfl
theorem zz0 {α:Sort _}(a b:α):(bif false then a else b)=b:=rfl
open Go
set_option linter.unusedVariables false
abbrev Zf : Bool := false
abbrev Zt : Bool := true
theorem zh {p : Prop} (h : p) : RowKit.Hid p := h
theorem Zh {v : Value} {b t : Bool} (h : v = .bool b) (hg : v = .bool t) : b = t := Value.bool.inj (h.symm.trans hg)
abbrev Zg (c : Prop) (x v : Value) : Prop := (c → v = x) ∧ (¬ c → v = undef)
abbrev Zfa (l : List Bool) : List Bool := false :: l
abbrev Zfb (l : List Bool) : List Bool := false :: false :: l
abbrev Zfc (l : List Bool) : List Bool := false :: false :: false :: false :: l
abbrev Zfd (l : List Bool) : List Bool := false :: false :: false :: false :: false :: false :: false :: false :: l
abbrev Zfe (l : List Bool) : List Bool := false :: false :: false :: false :: false :: false :: false :: false :: false :: false :: false :: false :: false :: false :: false :: false :: l
abbrev Zfg (l : List Bool) : List Bool := false :: false :: false :: false :: false :: false :: false :: false :: false :: false :: false :: false :: false :: false :: false :: false :: false :: false :: false :: false :: false :: false :: false :: false :: false :: false :: false :: false :: false :: false :: false :: false :: l
abbrev Zta (l : List Bool) : List Bool := true :: l
abbrev Ztb (l : List Bool) : List Bool := true :: true :: l
abbrev Ztc (l : List Bool) : List Bool := true :: true :: true :: true :: l
abbrev Ztd (l : List Bool) : List Bool := true :: true :: true :: true :: true :: true :: true :: true :: l
abbrev Zte (l : List Bool) : List Bool := true :: true :: true :: true :: true :: true :: true :: true :: true :: true :: true :: true :: true :: true :: true :: true :: l
abbrev Ztg (l : List Bool) : List Bool := true :: true :: true :: true :: true :: true :: true :: true :: true :: true :: true :: true :: true :: true :: true :: true :: true :: true :: true :: true :: true :: true :: true :: true :: true :: true :: true :: true :: true :: true :: true :: true :: l
theorem Zi {A B C : Type} {D : B → C → Prop} {E : A → Prop} (v : A) (w : B) (w1 : C) (_ : D w w1) (h : E v) : E v := h
theorem Zs {w : World} {G : Prop} {A : Sort _} {v u : A} (h : G) : Go.RowKit.Below w.heap.size w w ∧ (G → v = v) ∧ (¬G → v = u) := ⟨Go.RowKit.Below.refl _ w, fun _ => rfl, fun hn => absurd h hn⟩
theorem Zn {x : Value} {b t : Bool} {p : Prop} {A : Sort _} {q : A} (h : x = .bool b) (hn : ¬x = .bool t) : (b = t → p) ∧ (¬b = t → q = q) := ⟨fun hG => absurd (h.trans (congrArg Value.bool hG)) hn, fun _ => rfl⟩
theorem Zr {w : World} {A : Sort _} {v : A} : Go.RowKit.Below w.heap.size w w ∧ v = v := ⟨Go.RowKit.Below.refl _ w, rfl⟩
abbrev zD0:List Bool:=[Zf,Zf,Zf,Zf,Zt,Zt,Zt,Zt,Zt,Zt,Zt,Zt,Zt,Zt,Zt,Zt,Zt,Zt,Zt,Zt,Zt,Zt,Zt,Zt,Zt,Zt,Zt,Zt,Zt,Zt,Zt,Zt,Zt,Zt,Zt,Zt,Zt,Zt,Zt,Zt,Zt,Zt,Zt,Zt,Zt]
end Go.Proofs.YtcknpcbkofgdoaaGreatDoor
