/-
  THE PLAIN LEXER OF LAYER 15, continued: kinds and values of tokens, numerals, the tokens of a text with their positions.
-/
import Derived.Test.YtcajamgajchheaaDoorLxMark
import Derived.Test.YtcajamgajchheaaDoorLxBlank
namespace Go.Proofs.YtcajamgajchheaaDoor
open Go Go.RowKit Go.IntWalk
open Go.Lib (itoa decDigits)
set_option linter.unusedSimpArgs false
set_option linter.unusedVariables false
set_option maxRecDepth 8000

/-- Whether the digits t are the numeral of a word that isn't negative. -/
def okn (t : List UInt8) : Bool := decide (dval 0 t ≤ 32767) && !(decide (1 < t.length) && hd (· == 48) t)
/-- The kind and the value of a token, by its text. -/
def kd (t : List UInt8) : Int := if hd ltr t = true then (if kwl.contains t = true then 3 else if t.length ≤ 32 then 1 else 5) else if hd dig t = true then (if okn t = true then 2 else 5) else if mkl t = 0 then 5 else 4
def vl (t : List UInt8) : Int := if kd t = 2 then (dval 0 t : Nat) else 0
structure Tk where
  kind : Int
  text : ByteArray
  val : Int
  pos : Int
abbrev tkc (t : Tk) : List Value := [.int .i64 t.kind, .string t.text, .int .i16 t.val, .int .i64 t.pos]
abbrev tkv (t : Tk) : Value := .agg #[.int .i64 t.kind, .string t.text, .int .i16 t.val, .int .i64 t.pos]
theorem encT : Enc 4 tkc := ⟨fun _ => rfl, fun x u hu => by simp at hu; rcases hu with rfl | rfl | rfl | rfl <;> rfl, by decide⟩
def tok (t : List UInt8) (p : Nat) : Tk := ⟨kd t, ⟨t.toArray⟩, vl t, p⟩
def eof (p : Nat) : Tk := ⟨0, ⟨#[]⟩, 0, p⟩
def scF : Nat → Nat → List UInt8 → List Tk
  | 0, _, _ => []
  | n + 1, p, xs => if sk false xs = [] then [] else tok (ft (sk false xs)) (p + bl xs) :: scF n (p + bl xs + fl (sk false xs)) ((sk false xs).drop (fl (sk false xs)))
/-- The tokens of a text that begins at p, but the last one. -/
def scn (p : Nat) (xs : List UInt8) : List Tk := scF (xs.length + 1) p xs
/-- All tokens of a text. -/
def scan (xs : List UInt8) : List Tk := scn 0 xs ++ [eof xs.length]
theorem scF_fuel : ∀ n m p xs, xs.length < n → xs.length < m → scF n p xs = scF m p xs
  | 0, _, _, _, h, _ => absurd h (Nat.not_lt_zero _)
  | _ + 1, 0, _, _, _, h => absurd h (Nat.not_lt_zero _)
  | n + 1, m + 1, p, xs, h1, h2 => by
    simp only [scF]
    split
    · rfl
    · rename_i h
      have := rest_lt h
      rw [scF_fuel n m _ _ (by omega) (by omega)]
theorem scn_eq (p : Nat) (xs : List UInt8) : scn p xs = if sk false xs = [] then [] else tok (ft (sk false xs)) (p + bl xs) :: scn (p + bl xs + fl (sk false xs)) ((sk false xs).drop (fl (sk false xs))) := by
  rw [scn, scF]
  split
  · rfl
  · rename_i h
    have := rest_lt h
    rw [scn, scF_fuel xs.length (((sk false xs).drop (fl (sk false xs))).length + 1) _ _ this (Nat.lt_succ_self _)]
theorem bl_zero {xs : List UInt8} (h : sk false xs = xs) : bl xs = 0 := by rw [bl, h, Nat.sub_self]
theorem bl_le (xs : List UInt8) : bl xs ≤ xs.length := Nat.sub_le _ _
theorem sk_bl (xs : List UInt8) : sk false xs = xs.drop (bl xs) := sk_drop xs false
theorem scn_skip (p : Nat) (xs : List UInt8) : scn p xs = scn (p + bl xs) (xs.drop (bl xs)) := by
  have h1 : sk false (xs.drop (bl xs)) = sk false xs := by rw [← sk_bl, sk_idem]
  have h2 : bl (xs.drop (bl xs)) = 0 := bl_zero (by rw [h1, sk_bl])
  rw [scn_eq, scn_eq (p + bl xs), h1, h2, Nat.add_zero]
theorem scn_nil (p : Nat) : scn p [] = [] := rfl
/-- One token of a text that begins with one. -/
theorem scn_one {p : Nat} {xs : List UInt8} (hn : xs ≠ []) (h : sk false xs = xs) : scn p xs = tok (ft xs) p :: scn (p + fl xs) (xs.drop (fl xs)) := by
  rw [scn_eq, h, if_neg hn, bl_zero h, Nat.add_zero]
def sig (t : Tk) : Int × ByteArray × Int := (t.kind, t.text, t.val)
def sigT (t : List UInt8) : Int × ByteArray × Int := (kd t, ⟨t.toArray⟩, vl t)
theorem scn_sig : ∀ n p xs, xs.length < n → (scn p xs).map sig = (txs xs).map sigT
  | 0, _, _, h => absurd h (Nat.not_lt_zero _)
  | n + 1, p, xs, h => by
    rw [scn_eq, txs_eq]
    split
    · rfl
    · rename_i hne
      have := rest_lt hne
      rw [List.map_cons, List.map_cons, scn_sig n _ _ (by omega)]
      rfl
theorem scn_txs (p : Nat) (xs : List UInt8) : (scn p xs).map sig = (txs xs).map sigT := scn_sig _ p xs (Nat.lt_succ_self _)
theorem scn_text (p : Nat) (xs : List UInt8) : (scn p xs).map (fun t => t.text.data.toList) = txs xs := by
  have h := congrArg (List.map (fun s : Int × ByteArray × Int => s.2.1.data.toList)) (scn_txs p xs)
  rw [List.map_map, List.map_map] at h
  have e : ((fun s : Int × ByteArray × Int => s.2.1.data.toList) ∘ sigT) = id := funext fun t => rfl
  rw [e, List.map_id] at h
  exact h
theorem scn_len (p : Nat) (xs : List UInt8) : (scn p xs).length = (txs xs).length := by
  have := congrArg List.length (scn_txs p xs)
  simpa using this
/-! ## numerals -/
theorem dec_snoc (u d : Nat) (hu : 0 < u) (hd : d < 10) : decDigits (10 * u + d) = decDigits u ++ [UInt8.ofNat (48 + d)] := by
  rw [decDigits]
  rw [dif_neg (by omega), show (10 * u + d) / 10 = u by omega, show (10 * u + d) % 10 = d by omega]
theorem dec_one (d : Nat) (hd : d < 10) : decDigits d = [UInt8.ofNat (48 + d)] := by
  rw [decDigits, dif_pos hd]
theorem dig_byte {c : UInt8} (h : dig c = true) : 48 ≤ c.toNat ∧ c.toNat ≤ 57 := by simpa [dig] using h
theorem dec_canon : ∀ n (t : List UInt8), t.length = n → t ≠ [] → (∀ c ∈ t, 48 ≤ c.toNat ∧ c.toNat ≤ 57) → (1 < t.length → hd (· == 48) t = false) → decDigits (dval 0 t) = t ∧ (hd (· == 48) t = false → 0 < dval 0 t)
  | 0, t, hl, hne, _, _ => absurd (List.eq_nil_of_length_eq_zero hl) hne
  | n + 1, t, hl, hne, hd', hc => by
    obtain ⟨l, c, rfl⟩ : ∃ l c, t = l ++ [c] := ⟨t.dropLast, t.getLast hne, (List.dropLast_concat_getLast hne).symm⟩
    have hcb := hd' c (by simp)
    have hcd : UInt8.ofNat (48 + (c.toNat - 48)) = c := by rw [show 48 + (c.toNat - 48) = c.toNat by omega]; exact UInt8.ofNat_toNat
    rw [dval_snoc]
    by_cases hn : l = []
    · subst hn
      refine ⟨?_, fun h => ?_⟩
      · rw [show dval 0 [] = 0 from rfl, Nat.mul_zero, Nat.zero_add, dec_one _ (by omega), hcd]; rfl
      · have : c.toNat ≠ 48 := fun e => by
          have e2 : c = 48 := UInt8.toNat_inj.1 e
          subst e2
          exact absurd h (by decide)
        omega
    · have hl1 : 0 < l.length := List.length_pos_iff.2 hn
      have hh : hd (· == 48) (l ++ [c]) = hd (· == 48) l := by cases l with
        | nil => exact absurd rfl hn
        | cons a r => rfl
      have h0 := hc (by rw [List.length_append, List.length_singleton]; omega)
      rw [hh] at h0
      obtain ⟨h1, h2⟩ := dec_canon n l (by rw [List.length_append, List.length_singleton] at hl; omega) hn (fun x hx => hd' x (List.mem_append_left _ hx)) (fun _ => h0)
      have h3 := h2 h0
      exact ⟨by rw [dec_snoc _ _ h3 (by omega), h1, hcd], fun _ => by omega⟩
theorem dec_zero {t : List UInt8} (hd' : ∀ c ∈ t, 48 ≤ c.toNat ∧ c.toNat ≤ 57) (hl : 1 < t.length) (h0 : hd (· == 48) t = true) : decDigits (dval 0 t) ≠ t := by
  intro e
  cases t with
  | nil => simp at hl
  | cons a r =>
    have ha : a = 48 := by simpa [hd] using h0
    subst ha
    have h1 : dval 0 (48 :: r) = dval 0 r := rfl
    have h2 := dval_bd r (fun c hc => hd' c (List.mem_cons_of_mem _ hc)) 0
    rw [Nat.zero_add, Nat.one_mul] at h2
    obtain ⟨k, hk⟩ : ∃ k, r.length = k + 1 := ⟨r.length - 1, by rw [List.length_cons] at hl; omega⟩
    rw [hk] at h2
    have h3 := decDigits_pow (dval 0 r) k h2
    have h4 := congrArg List.length e
    rw [h1, List.length_cons, hk] at h4
    omega
end Go.Proofs.YtcajamgajchheaaDoor
