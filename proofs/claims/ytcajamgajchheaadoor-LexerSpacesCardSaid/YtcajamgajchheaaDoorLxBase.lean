/-
  LAYER 15 (lexer): the sets of bytes, the two tables, the library's functions, beginsWith, longest, isKeyword, mark.
-/
import Derived.Test.YtcajamgajchheaaDoorLxPlain
import Derived.Test.YtcajamgajchheaaDoorRow
import Derived.Test.YtcajamgajchheaaDoorOps
import Derived.Test.YtcajamgajchheaaDoorStr
import Derived.Test.YtcajamgajchheaaDoorShelf
import Derived.Shelf.Strings.SlTrimAscii
import Derived.Deep.LoopGhost
import Derived.Deep.CutBlock
import Derived.Deep.MidRow
import Derived.Lib.IndexLaws
namespace Go.Proofs.YtcajamgajchheaaDoor
open Go Go.RowKit Go.IntWalk
set_option linter.unusedSimpArgs false
set_option linter.unusedVariables false
set_option maxRecDepth 8000

abbrev setL : ByteArray := ⟨#[65, 66, 67, 68, 69, 70, 71, 72, 73, 74, 75, 76, 77, 78, 79, 80, 81, 82, 83, 84, 85, 86, 87, 88, 89, 90, 95, 97, 98, 99, 100, 101, 102, 103, 104, 105, 106, 107, 108, 109, 110, 111, 112, 113, 114, 115, 116, 117, 118, 119, 120, 121, 122]⟩
abbrev setLD : ByteArray := ⟨#[65, 66, 67, 68, 69, 70, 71, 72, 73, 74, 75, 76, 77, 78, 79, 80, 81, 82, 83, 84, 85, 86, 87, 88, 89, 90, 95, 97, 98, 99, 100, 101, 102, 103, 104, 105, 106, 107, 108, 109, 110, 111, 112, 113, 114, 115, 116, 117, 118, 119, 120, 121, 122, 48, 49, 50, 51, 52, 53, 54, 55, 56, 57]⟩
abbrev setD : ByteArray := ⟨#[48, 49, 50, 51, 52, 53, 54, 55, 56, 57]⟩
abbrev setW : ByteArray := ⟨#[32, 9, 10, 13]⟩
/-- The keywords and the punctuation marks. -/
def kwl : List (List UInt8) := [[99, 104, 97, 110, 110, 101, 108], [99, 104, 101, 99, 107, 112, 111, 105, 110, 116], [99, 111, 110, 115, 116], [100, 101, 97, 100, 108, 105, 110, 101], [101, 108, 115, 101], [101, 109, 105, 116], [101, 118, 101, 114, 121], [102, 114, 101, 115, 104], [105, 102], [108, 101, 116], [111, 110], [111, 117, 116, 112, 117, 116], [114, 101, 97, 100], [114, 101, 112, 101, 97, 116], [114, 101, 116, 117, 114, 110], [115, 101, 110, 100], [115, 101, 110, 115, 111, 114], [116, 97, 115, 107], [116, 111, 103, 101, 116, 104, 101, 114], [118, 97, 114], [119, 104, 105, 108, 101], [119, 105, 116, 104, 105, 110]]
def mks : List (List UInt8) := [[33], [33, 61], [37], [38, 38], [40], [41], [42], [43], [44], [45], [47], [59], [60], [60, 61], [61], [61, 61], [62], [62, 61], [91], [93], [123], [124, 124], [125]]
theorem all_bytes {p : UInt8 → Bool} (h : (List.range 256).all (fun n => p (UInt8.ofNat n)) = true) (c : UInt8) : p c = true := by
  have h1 := List.all_eq_true.1 h c.toNat (List.mem_range.2 c.toNat_lt)
  simpa using h1
theorem same_bytes {p q : UInt8 → Bool} (h : (List.range 256).all (fun n => p (UInt8.ofNat n) == q (UInt8.ofNat n)) = true) : ∀ c, p c = q c := fun c => eq_of_beq (all_bytes (p := fun c => p c == q c) h c)
theorem setL_has : ∀ c, setL.data.toList.contains c = ltr c := same_bytes (by kernel_rfl)
theorem setLD_has : ∀ c, setLD.data.toList.contains c = wd c := same_bytes (by kernel_rfl)
theorem setD_has : ∀ c, setD.data.toList.contains c = dig c := same_bytes (by kernel_rfl)
theorem setW_has : ∀ c, setW.data.toList.contains c = ws c := fun c => rfl
theorem var?_keep {P : Program} {w w' : World} {n : String} {cs : Array Value} (hb : Below w.heap.size w w') (h : w.var? P n = some cs) : w'.var? P n = some cs := by
  unfold World.var? at h ⊢
  cases hg : P.globalNamed n with
  | none => simp [hg] at h
  | some g =>
    simp only [hg, Option.bind_some] at h ⊢
    have hlt : g < w.heap.size := by
      rcases Nat.lt_or_ge g w.heap.size with h' | h'
      · exact h'
      · simp [Array.getElem?_eq_none h'] at h
    rw [hb.block g hlt]
    exact h
theorem dw_le (p : UInt8 → Bool) (l : List UInt8) : (l.dropWhile p).length ≤ l.length := by
  induction l with
  | nil => exact Nat.le_refl _
  | cons a r ih =>
    rw [List.dropWhile_cons]
    split
    · exact Nat.le_trans ih (Nat.le_succ _)
    · exact Nat.le_refl _
/-- What the package-level variables hold. -/
structure Env (w : World) : Prop where
  kws : w.var? Tryd.prog "trickle/lexer.keywords" = some (kwl.map (fun l => Value.string ⟨l.toArray⟩)).toArray
  mks : w.var? Tryd.prog "trickle/lexer.marks" = some (mks.map (fun l => Value.string ⟨l.toArray⟩)).toArray
  pow : Lib.TabIs Tryd.prog w "internal/strconv.uint64pow10" .u64 Lib.pow10Tab
  ran : ∃ tp p, w.var? Tryd.prog "strconv.ErrRange" = some #[.iface tp p]
theorem Env.grew {w w' : World} (h : Env w) (hb : Grew w w') : Env w' := by
  obtain ⟨h1, h2, h3, ⟨c, d, h4⟩⟩ := h
  exact ⟨var?_keep hb h1, var?_keep hb h2, var?_keep hb h3, ⟨c, d, var?_keep hb h4⟩⟩
theorem Env.rangeK {w : World} (h : Env w) : w.rangeAt 0 0 (kwl.map (fun l => Value.string ⟨l.toArray⟩)) := fun j v hv => by
  rw [Nat.zero_add, World.var?_cell (show Tryd.prog.globalNamed "trickle/lexer.keywords" = some 0 by kernel_rfl) h.kws j]
  simpa using hv
theorem Env.rangeM {w : World} (h : Env w) : w.rangeAt 1 0 (Go.Proofs.YtcajamgajchheaaDoor.mks.map (fun l => Value.string ⟨l.toArray⟩)) := fun j v hv => by
  rw [Nat.zero_add, World.var?_cell (show Tryd.prog.globalNamed "trickle/lexer.marks" = some 1 by kernel_rfl) h.mks j]
  simpa using hv
set_option maxRecDepth 20000 in
theorem index_kw : ∀ (k : Nat) (_ : k < 22) (W : World), Sem.run Tryd.prog (Instr.index 63 (.agg (kwl.map (fun l => Value.string ⟨l.toArray⟩)).toArray) (.int .i64 (k : Int))) W = .ok (.string ⟨(kwl.getD k []).toArray⟩) W
  | 0, _, W => by kernel_rfl
  | 1, _, W => by kernel_rfl
  | 2, _, W => by kernel_rfl
  | 3, _, W => by kernel_rfl
  | 4, _, W => by kernel_rfl
  | 5, _, W => by kernel_rfl
  | 6, _, W => by kernel_rfl
  | 7, _, W => by kernel_rfl
  | 8, _, W => by kernel_rfl
  | 9, _, W => by kernel_rfl
  | 10, _, W => by kernel_rfl
  | 11, _, W => by kernel_rfl
  | 12, _, W => by kernel_rfl
  | 13, _, W => by kernel_rfl
  | 14, _, W => by kernel_rfl
  | 15, _, W => by kernel_rfl
  | 16, _, W => by kernel_rfl
  | 17, _, W => by kernel_rfl
  | 18, _, W => by kernel_rfl
  | 19, _, W => by kernel_rfl
  | 20, _, W => by kernel_rfl
  | 21, _, W => by kernel_rfl
  | k + 22, h, _ => absurd h (by omega)
set_option maxRecDepth 20000 in
theorem index_mk : ∀ (k : Nat) (_ : k < 23) (W : World), Sem.run Tryd.prog (Instr.index 64 (.agg (mks.map (fun l => Value.string ⟨l.toArray⟩)).toArray) (.int .i64 (k : Int))) W = .ok (.string ⟨(mks.getD k []).toArray⟩) W
  | 0, _, W => by kernel_rfl
  | 1, _, W => by kernel_rfl
  | 2, _, W => by kernel_rfl
  | 3, _, W => by kernel_rfl
  | 4, _, W => by kernel_rfl
  | 5, _, W => by kernel_rfl
  | 6, _, W => by kernel_rfl
  | 7, _, W => by kernel_rfl
  | 8, _, W => by kernel_rfl
  | 9, _, W => by kernel_rfl
  | 10, _, W => by kernel_rfl
  | 11, _, W => by kernel_rfl
  | 12, _, W => by kernel_rfl
  | 13, _, W => by kernel_rfl
  | 14, _, W => by kernel_rfl
  | 15, _, W => by kernel_rfl
  | 16, _, W => by kernel_rfl
  | 17, _, W => by kernel_rfl
  | 18, _, W => by kernel_rfl
  | 19, _, W => by kernel_rfl
  | 20, _, W => by kernel_rfl
  | 21, _, W => by kernel_rfl
  | 22, _, W => by kernel_rfl
  | k + 23, h, _ => absurd h (by omega)
theorem beq_list {a : List UInt8} {s : ByteArray} : (a == s.toList) = (a == s.data.toList) := by rw [ByteArray.toList_eq]
theorem grew_ok {w w' : World} {T : TypeId} (h : w' = w ∨ ∃ t, w' = Lib.bytesWorld w T t) : Grew w w' := by
  rcases h with rfl | ⟨t, rfl⟩
  · exact Grew.refl _
  · exact Lib.bytesWorld_below _ _ _
theorem ascii {cs : ByteArray} (h : cs.data.toList.all (fun b => decide (b.toNat < 128)) = true) : ∀ (j : Nat) b, cs.data.toList[j]? = some b → b.toNat < 128 := fun j b hb => by
  have := List.all_eq_true.1 h b (List.mem_of_getElem? hb)
  simpa using this
/-- A set of the program's, and what it means. -/
structure IsSet (cs : ByteArray) (p : UInt8 → Bool) : Prop where
  has : ∀ c, cs.data.toList.contains c = p c
  asc : ∀ (j : Nat) b, cs.data.toList[j]? = some b → b.toNat < 128
  sz : cs.size < 4294967281
theorem isL : IsSet setL ltr := ⟨setL_has, ascii (by kernel_rfl), by decide⟩
theorem isLD : IsSet setLD wd := ⟨setLD_has, ascii (by kernel_rfl), by decide⟩
theorem isD : IsSet setD dig := ⟨setD_has, ascii (by kernel_rfl), by decide⟩
theorem isW : IsSet setW ws := ⟨setW_has, ascii (by kernel_rfl), by decide⟩
theorem trim_any {cs : ByteArray} {p : UInt8 → Bool} (hp : IsSet cs p) (s : ByteArray) (w : World) : Calls Tryd.prog 37 #[.string s, .string cs] w fun e w' => e = .returned (.string ⟨(s.data.toList.dropWhile p).toArray⟩) ∧ Grew w w' := by
  refine (Any.strings_TrimLeft_laid Tryd.lays161 (by kernel_rfl) s cs w hp.sz hp.asc).mono ?_
  rintro e w' ⟨rfl, h⟩
  have : (fun x => cs.data.toList.contains x) = p := funext hp.has
  refine ⟨?_, h⟩
  unfold Lib.trimLeftS
  rw [this]
theorem index_has (l : List UInt8) (c : UInt8) : (0 ≤ Lib.indexByte l c) ↔ l.contains c = true := by
  have h0 := Lib.indexByte_ge l c
  constructor
  · intro h
    obtain ⟨o, ho⟩ : ∃ o : Nat, Lib.indexByte l c = o := ⟨(Lib.indexByte l c).toNat, by omega⟩
    simpa using List.mem_of_getElem? (Lib.indexByte_some ho).1
  · intro h
    obtain ⟨k, hk, e⟩ := List.getElem_of_mem (by simpa using h : c ∈ l)
    rcases Int.lt_or_le (Lib.indexByte l c) 0 with h1 | h1
    · exact absurd (by rw [List.getElem?_eq_getElem hk, e]) (Lib.indexByte_none (by omega : Lib.indexByte l c = -1) k)
    · exact h1
theorem index_le : ∀ (l : List UInt8) (c : UInt8), Lib.indexByte l c ≤ l.length := fun l c => by
  have h0 := Lib.indexByte_ge l c
  rcases Int.lt_or_le (Lib.indexByte l c) 0 with h1 | h1
  · omega
  · obtain ⟨o, ho⟩ : ∃ o : Nat, Lib.indexByte l c = o := ⟨(Lib.indexByte l c).toNat, by omega⟩
    have := (List.getElem?_eq_some_iff.1 (Lib.indexByte_some ho).1).1
    omega
/-- Whether the first byte is one of a set. -/
def hd (p : UInt8 → Bool) : List UInt8 → Bool
  | [] => false
  | c :: _ => p c
theorem u8_toNat (c : UInt8) : (c.toNat : Int).toNat.toUInt8 = c := by
  rw [Int.toNat_natCast]
  exact UInt8.ofNat_toNat
theorem begins_any {cs : ByteArray} {p : UInt8 → Bool} (hp : IsSet cs p) (s : ByteArray) (w : World) : Calls Tryd.prog 40 #[.string s, .string cs] w fun e w' => e = .returned (.bool (hd p s.data.toList)) ∧ w = w' := by
  by_cases hz : s.size = 0
  · have hnl : s.toList = [] := by rw [ByteArray.toList_eq]; exact List.eq_nil_of_length_eq_zero hz
    have h0 : hd p s.data.toList = false := by rw [← ByteArray.toList_eq, hnl]; rfl
    have H0 := Lib.hid h0
    clear h0 hp hz
    generalize hd p s.data.toList = b at H0 ⊢
    go_enter Tryd.func40, Tryd.ntmps40
    go_wp2
    go_ret
    exact ⟨ret_bool H0.out.symm, rfl⟩
  · have hpos : 0 < s.size := Nat.pos_of_ne_zero hz
    have hne : ¬ s.toList = [] := fun h => hz (by
      rw [ByteArray.toList_eq] at h
      exact congrArg List.length h)
    have hie : s.toList.isEmpty = false := by rw [List.isEmpty_eq_false_iff]; exact hne
    have hc := fun W => Tryd.strings_IndexByte cs (s[0].toNat : Int) W
    rw [u8_toNat] at hc
    have h0 : hd p s.data.toList = p s[0] := by
      have h1 : s.data.toList[0]'hpos = s[0] := rfl
      cases hx : s.data.toList with
      | nil => exact absurd (congrArg List.length hx) hz
      | cons a r =>
        simp only [hx, List.getElem_cons_zero] at h1
        rw [hd, h1]
    have h2 : decide (0 ≤ Lib.indexByte cs.data.toList s[0]) = hd p s.data.toList := by
      rw [h0, ← hp.has, Bool.eq_iff_iff, decide_eq_true_iff]
      exact index_has _ _
    have h3 := Lib.indexByte_ge cs.data.toList s[0]
    have h4 := index_le cs.data.toList s[0]
    have h5 := hp.sz
    have h6 : cs.data.toList.length = cs.size := rfl
    rw [h6] at h4
    have HC := Lib.hid hc
    have H2 := Lib.hid h2
    clear hc h0 h2 hp h6
    generalize hd p s.data.toList = b at H2 ⊢
    generalize Lib.indexByte cs.data.toList s[0] = z at HC H2 h3 h4
    have h7 : -1 ≤ z ∧ z ≤ 4294967281 := by omega
    obtain ⟨h7, h8⟩ := h7
    go_enter Tryd.func40, Tryd.ntmps40
    go_wp2_with (go_at_call 39; (with_reducible refine (HC.out _).mono ?_); rintro e w1 ⟨rfl, hw1⟩; subst w1)
    go_ret
    exact ⟨ret_bool (by have := H2.out; simpa using this), rfl⟩
theorem tw_take (p : UInt8 → Bool) (l : List UInt8) : l.take (l.length - (l.dropWhile p).length) = l.takeWhile p := by
  induction l with
  | nil => rfl
  | cons a r ih =>
    rw [List.dropWhile_cons, List.takeWhile_cons]
    split
    · have h1 : (r.dropWhile p).length ≤ r.length := dw_le p r
      rw [List.length_cons, show r.length + 1 - (r.dropWhile p).length = (r.length - (r.dropWhile p).length) + 1 by omega, List.take_succ_cons, ih]
    · rw [Nat.sub_self, List.take_zero]
theorem extract_list (s : ByteArray) (k : Nat) : s.extract 0 k = ⟨(s.data.toList.take k).toArray⟩ := by
  apply ByteArray.ext
  apply Array.ext'
  rw [Lib.extract_eq]
  simp
theorem longest_any {cs : ByteArray} {p : UInt8 → Bool} (hp : IsSet cs p) (s : ByteArray) (hs : s.size ≤ 100000) (w : World) : Calls Tryd.prog 42 #[.string s, .string cs] w fun e w' => e = .returned (.string ⟨(s.data.toList.takeWhile p).toArray⟩) ∧ Grew w w' := by
  have HC := Lib.hid (fun W => trim_any hp s W)
  have hle : (s.data.toList.dropWhile p).length ≤ s.size := dw_le p s.data.toList
  have hv : s.extract 0 (s.size - (s.data.toList.dropWhile p).length) = ⟨(s.data.toList.takeWhile p).toArray⟩ := by
    rw [extract_list, ← tw_take]
    rfl
  have HV := Lib.hid hv
  clear hv hp
  generalize s.data.toList.takeWhile p = r at HV ⊢
  obtain ⟨y, hy⟩ : ∃ y : List UInt8, s.data.toList.dropWhile p = y := ⟨_, rfl⟩
  rw [hy] at HC HV hle
  clear hy
  go_enter Tryd.func42, Tryd.ntmps42
  go_wp2_with (go_at_call 37; (with_reducible refine (HC.out _).mono ?_); rintro e w1 ⟨rfl, g1⟩; have HG := Lib.hid g1; clear g1)
  go_ret
  exact ⟨ret_string HV.out, HG.out⟩
end Go.Proofs.YtcajamgajchheaaDoor
