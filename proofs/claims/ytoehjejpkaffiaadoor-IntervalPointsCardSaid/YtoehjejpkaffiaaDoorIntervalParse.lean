/-
  CONTRACTS OF LAYER 5 (interval): Parse, at every string.
-/
import Derived.Test.YtoehjejpkaffiaaDoorIntervalRead2
namespace Go.Proofs.YtoehjejpkaffiaaDoor
open Go.RowKit Go.IntWalk

theorem drawnN_grew (w : World) (n : Nat) : Grew w (w.drewN n) := (Grew.refl w).drwN n
theorem cut_any (s : ByteArray) (hs : s.size ≤ 1000) (w : World) (he : Env w) :
    Calls Tryd.prog 36 #[.string s, .string ⟨#[46, 46]⟩] w fun e w' => e = .returned (.tuple #[.string ⟨(Lib.cut s.data.toList [46, 46]).1.toArray⟩, .string ⟨(Lib.cut s.data.toList [46, 46]).2.1.toArray⟩, .bool (Lib.cut s.data.toList [46, 46]).2.2]) ∧ Grew w w' := by
  obtain ⟨m, hm⟩ := he.most
  refine (Tryd.strings_Cut s ⟨#[46, 46]⟩ m w (by omega) hm).mono ?_
  rintro e w' ⟨rfl, n, rfl⟩
  exact ⟨rfl, drawnN_grew _ _⟩
/-- strconv.ParseInt(s, 10, 64) where s is no 64-bit number: an error that is not nil. -/
def Failed (x : Int) (w : World) (e : Ending) (w' : World) : Prop := ∃ N : Nat, e = .returned (.tuple #[.int .i64 x, .iface 65 (.pointer (some ⟨N, 0, none⟩))]) ∧ Grew w w'
theorem pint_no (p : List UInt8) (hp : p.length ≤ 1000) (h : ∀ v, Lib.parseIntB 64 p ≠ .ok v) : ∃ x, ∀ w, Env w → Calls Tryd.prog 37 #[.string ⟨p.toArray⟩, .int .i64 10, .int .i64 64] w (Failed x w) := by
  have hsz : (⟨p.toArray⟩ : ByteArray).size ≤ 281474976710656 := by show p.length ≤ _; omega
  cases hc : Lib.parseIntB 64 p
  · exact absurd hc (h _)
  · exact ⟨_, fun w he => by
      obtain ⟨tp, q, hv⟩ := he.syn
      exact Calls.mono (Any.strconv_ParseInt_10_at64_syntax_var Tryd.laysC174 ⟨p.toArray⟩ hsz hc tp q w hv) fun e w' ⟨N, h1, _, _, h4⟩ => ⟨N, h1, h4⟩⟩
  · exact ⟨_, fun w he => by
      obtain ⟨tp, q, hv⟩ := he.ran
      exact Calls.mono (Tryd.strconv_ParseInt_10_at64_range_var ⟨p.toArray⟩ hsz hc tp q w hv) fun e w' ⟨N, h1, _, _, h4⟩ => ⟨N, h1, h4⟩⟩
theorem grew_ok {w w' : World} {T : TypeId} (h : w' = w ∨ ∃ t, w' = Lib.bytesWorld w T t) : Grew w w' := by
  rcases h with rfl | ⟨t, rfl⟩
  · exact Grew.refl _
  · exact Lib.bytesWorld_below _ _ _
theorem pint_ok (p : List UInt8) (hp : p.length ≤ 1000) (v : Int) (h : Lib.parseIntB 64 p = .ok v) (w : World) :
    Calls Tryd.prog 37 #[.string ⟨p.toArray⟩, .int .i64 10, .int .i64 64] w fun e w' => e = .returned (.tuple #[.int .i64 v, .nilIface]) ∧ Grew w w' := by
  refine (Tryd.strconv_ParseInt_10_at64_ok ⟨p.toArray⟩ (by show p.length ≤ _; omega) v h w).mono ?_
  rintro e w' ⟨rfl, hw⟩
  exact ⟨rfl, grew_ok hw⟩

theorem cut_len (l : List UInt8) : (Lib.cut l [46, 46]).1.length ≤ l.length ∧ (Lib.cut l [46, 46]).2.1.length ≤ l.length := by
  unfold Lib.cut
  split
  · simp [List.length_take, List.length_drop]
    omega
  · simp
/-- What the cut gives, by name. -/
theorem cut_named (l : List UInt8) : ∃ c1 c2 b, Lib.cut l [46, 46] = (c1, c2, b) ∧ c1.length ≤ l.length ∧ c2.length ≤ l.length ∧ piece1 l = c1 ∧ piece2 l = if b = true then c2 else c1 := by
  have h := cut_len l
  refine ⟨(Lib.cut l [46, 46]).1, (Lib.cut l [46, 46]).2.1, (Lib.cut l [46, 46]).2.2, rfl, h.1, h.2, rfl, ?_⟩
  unfold piece2
  split <;> simp_all
set_option maxHeartbeats 1000000 in
theorem parse_cut_yy (s : ByteArray) (hs : s.size ≤ 1000) (c1 c2 : List UInt8) (hc : Lib.cut s.data.toList [46, 46] = (c1, c2, true)) (l1 : c1.length ≤ s.size) (l2 : c2.length ≤ s.size) (e1 : piece1 s.data.toList = c1) (e2 : piece2 s.data.toList = c2) (x : Int) (h1 : Lib.parseIntB 64 c1 = .ok x) (y : Int) (h2 : Lib.parseIntB 64 c2 = .ok y) (w : World) (he : Env w) :
    Calls Tryd.prog 30 #[.string s] w (Parsed s.data.toList w) := by
  have hcut := fun w he => cut_any s hs w he
  simp only [hc] at hcut
  replace hcut := Lib.hid hcut
  have P1 := Lib.hid (fun w => pint_ok c1 (by omega) x h1 w)
  have P2 := Lib.hid (fun w => pint_ok c2 (by omega) y h2 w)
  have HN := Lib.hid (fun (hne : txt x y ≠ s.data.toList) => not_spelt3 (by rw [e1]; exact h1) (by rw [e2]; exact h2) hne)
  have HY := Lib.hid (fun (he : txt x y = s.data.toList) => txt_spelt (y := y) (by rw [e1]; exact h1) he)
  have HE := Lib.hid he
  have hS : Hid (w.heap.size ≤ w.heap.size) := Nat.le_refl _
  clear he hc e1 e2 h1 h2
  go_enter Tryd.func30, Tryd.ntmps30
  go_wp2_with (first
    | (go_at_call 36; generalize hW : World.alloc _ _ = V; have hr : Res w.heap.size V := (by subst hW; exact ⟨⟨by go_simp, by go_simp⟩, by intro k; go_simp⟩); have hg : Grew w V := (by subst hW; exact (Grew.refl _).alloc _); clear hW; (with_reducible refine (hcut.out _ (HE.out.grew hg)).mono ?_); rintro e w1 ⟨rfl, hg1⟩; replace hr := Lib.hid (hr.grew hg1); replace hg := Lib.hid (hg.trans hg1); clear hg1)
    | (go_at_call 37; (with_reducible refine (P1.out _).mono ?_); rintro e w2 ⟨rfl, hg1⟩; replace hr := Lib.hid (hr.out.grew hg1); replace hg := Lib.hid (hg.out.trans hg1); clear hg1; clear P1)
    | (go_at_call 37; (with_reducible refine (P2.out _).mono ?_); rintro e w3 ⟨rfl, hg1⟩; replace hr := Lib.hid (hr.out.grew hg1); replace hg := Lib.hid (hg.out.trans hg1); clear hg1; have hr0 := hr.out.box.c0; have hr1 := hr.out.box.c1; have hf0 := hr.out.free 0; have hf1 := hr.out.free 1)
    | (go_at_call 28; generalize hW : World.alloc _ _ = V; have hx : Box w3.heap.size x y V := (by subst hW; exact ⟨by go_simp, by go_simp⟩); have hv : Grew w3 V := (by subst hW; exact (Grew.refl _).alloc _); clear hW hr0 hr1 hf0 hf1; replace hr := Lib.hid (hr.out.grew hv); replace hg := Lib.hid (hg.out.trans hv); clear hv; (with_reducible refine (format_any _ _ _ (HE.out.grew hg.out)).mono ?_); rintro e w4 ⟨rfl, hg1⟩; replace hx := hx.grew hg1; replace hr := Lib.hid (hr.out.grew hg1); replace hg := Lib.hid (hg.out.trans hg1); clear hg1; have hx0 := hx.c0; have hx1 := hx.c1; have hr0 := hr.out.box.c0; have hr1 := hr.out.box.c1; have hf0 := hr.out.free 0; have hf1 := hr.out.free 1))
  · have ht : txt x y ≠ s.data.toList := by rename_i hz; rw [ByteArray.toList_eq] at hz; simpa using hz
    exact ret_iv2 Tryd.results30 rfl rfl (hr.out.box.put2 0 0) ⟨0, 0, 2, rfl, .inr ⟨rfl, rfl, rfl, HN.out ht⟩, hg.out.put2 hS.out 0 0⟩
  · have ht : txt x y = s.data.toList := by rename_i hz; rw [ByteArray.toList_eq] at hz; simpa using hz
    exact ret_iv2 Tryd.results30 rfl rfl (hr.out.box.put2 x y) ⟨x, y, 0, rfl, .inl ⟨rfl, HY.out ht⟩, hg.out.put2 hS.out x y⟩
set_option maxHeartbeats 1000000 in
theorem parse_cut_yn (s : ByteArray) (hs : s.size ≤ 1000) (c1 c2 : List UInt8) (hc : Lib.cut s.data.toList [46, 46] = (c1, c2, true)) (l1 : c1.length ≤ s.size) (l2 : c2.length ≤ s.size) (_ : piece1 s.data.toList = c1) (e2 : piece2 s.data.toList = c2) (x : Int) (h1 : Lib.parseIntB 64 c1 = .ok x) (h2 : ∀ v, Lib.parseIntB 64 c2 ≠ .ok v) (w : World) (he : Env w) :
    Calls Tryd.prog 30 #[.string s] w (Parsed s.data.toList w) := by
  have hcut := fun w he => cut_any s hs w he
  simp only [hc] at hcut
  replace hcut := Lib.hid hcut
  have P1 := Lib.hid (fun w => pint_ok c1 (by omega) x h1 w)
  obtain ⟨z2, P2⟩ := pint_no c2 (by omega) h2
  replace P2 := Lib.hid P2
  have HN := Lib.hid (not_spelt2 (l := s.data.toList) (by rw [e2]; exact h2))
  have HE := Lib.hid he
  have hS : Hid (w.heap.size ≤ w.heap.size) := Nat.le_refl _
  clear he hc e2 h1 h2
  go_enter Tryd.func30, Tryd.ntmps30
  go_wp2_with (first
    | (go_at_call 36; generalize hW : World.alloc _ _ = V; have hr : Res w.heap.size V := (by subst hW; exact ⟨⟨by go_simp, by go_simp⟩, by intro k; go_simp⟩); have hg : Grew w V := (by subst hW; exact (Grew.refl _).alloc _); clear hW; (with_reducible refine (hcut.out _ (HE.out.grew hg)).mono ?_); rintro e w1 ⟨rfl, hg1⟩; replace hr := Lib.hid (hr.grew hg1); replace hg := Lib.hid (hg.trans hg1); clear hg1)
    | (go_at_call 37; (with_reducible refine (P1.out _).mono ?_); rintro e w2 ⟨rfl, hg1⟩; replace hr := Lib.hid (hr.out.grew hg1); replace hg := Lib.hid (hg.out.trans hg1); clear hg1; clear P1)
    | (go_at_call 37; (with_reducible refine (P2.out _ (HE.out.grew hg.out)).mono ?_); rintro e w3 ⟨N3, rfl, hg1⟩; replace hr := Lib.hid (hr.out.grew hg1); replace hg := Lib.hid (hg.out.trans hg1); clear hg1; have hr0 := hr.out.box.c0; have hr1 := hr.out.box.c1; have hf0 := hr.out.free 0; have hf1 := hr.out.free 1))
  exact ret_iv2 Tryd.results30 rfl rfl (hr.out.box.put2 0 0) ⟨0, 0, 2, rfl, .inr ⟨rfl, rfl, rfl, HN.out⟩, hg.out.put2 hS.out 0 0⟩
set_option maxHeartbeats 1000000 in
theorem parse_cut_ny (s : ByteArray) (hs : s.size ≤ 1000) (c1 c2 : List UInt8) (hc : Lib.cut s.data.toList [46, 46] = (c1, c2, true)) (l1 : c1.length ≤ s.size) (l2 : c2.length ≤ s.size) (e1 : piece1 s.data.toList = c1) (_ : piece2 s.data.toList = c2) (h1 : ∀ v, Lib.parseIntB 64 c1 ≠ .ok v) (y : Int) (h2 : Lib.parseIntB 64 c2 = .ok y) (w : World) (he : Env w) :
    Calls Tryd.prog 30 #[.string s] w (Parsed s.data.toList w) := by
  have hcut := fun w he => cut_any s hs w he
  simp only [hc] at hcut
  replace hcut := Lib.hid hcut
  obtain ⟨z1, P1⟩ := pint_no c1 (by omega) h1
  replace P1 := Lib.hid P1
  have P2 := Lib.hid (fun w => pint_ok c2 (by omega) y h2 w)
  have HN := Lib.hid (not_spelt1 (l := s.data.toList) (by rw [e1]; exact h1))
  have HE := Lib.hid he
  have hS : Hid (w.heap.size ≤ w.heap.size) := Nat.le_refl _
  clear he hc e1 h1 h2
  go_enter Tryd.func30, Tryd.ntmps30
  go_wp2_with (first
    | (go_at_call 36; generalize hW : World.alloc _ _ = V; have hr : Res w.heap.size V := (by subst hW; exact ⟨⟨by go_simp, by go_simp⟩, by intro k; go_simp⟩); have hg : Grew w V := (by subst hW; exact (Grew.refl _).alloc _); clear hW; (with_reducible refine (hcut.out _ (HE.out.grew hg)).mono ?_); rintro e w1 ⟨rfl, hg1⟩; replace hr := Lib.hid (hr.grew hg1); replace hg := Lib.hid (hg.trans hg1); clear hg1)
    | (go_at_call 37; (with_reducible refine (P1.out _ (HE.out.grew hg.out)).mono ?_); rintro e w2 ⟨N2, rfl, hg1⟩; replace hr := Lib.hid (hr.out.grew hg1); replace hg := Lib.hid (hg.out.trans hg1); clear hg1; clear P1)
    | (go_at_call 37; (with_reducible refine (P2.out _).mono ?_); rintro e w3 ⟨rfl, hg1⟩; replace hr := Lib.hid (hr.out.grew hg1); replace hg := Lib.hid (hg.out.trans hg1); clear hg1; have hr0 := hr.out.box.c0; have hr1 := hr.out.box.c1; have hf0 := hr.out.free 0; have hf1 := hr.out.free 1))
  exact ret_iv2 Tryd.results30 rfl rfl (hr.out.box.put2 0 0) ⟨0, 0, 2, rfl, .inr ⟨rfl, rfl, rfl, HN.out⟩, hg.out.put2 hS.out 0 0⟩
set_option maxHeartbeats 1000000 in
theorem parse_cut_nn (s : ByteArray) (hs : s.size ≤ 1000) (c1 c2 : List UInt8) (hc : Lib.cut s.data.toList [46, 46] = (c1, c2, true)) (l1 : c1.length ≤ s.size) (l2 : c2.length ≤ s.size) (e1 : piece1 s.data.toList = c1) (_ : piece2 s.data.toList = c2) (h1 : ∀ v, Lib.parseIntB 64 c1 ≠ .ok v) (h2 : ∀ v, Lib.parseIntB 64 c2 ≠ .ok v) (w : World) (he : Env w) :
    Calls Tryd.prog 30 #[.string s] w (Parsed s.data.toList w) := by
  have hcut := fun w he => cut_any s hs w he
  simp only [hc] at hcut
  replace hcut := Lib.hid hcut
  obtain ⟨z1, P1⟩ := pint_no c1 (by omega) h1
  replace P1 := Lib.hid P1
  obtain ⟨z2, P2⟩ := pint_no c2 (by omega) h2
  replace P2 := Lib.hid P2
  have HN := Lib.hid (not_spelt1 (l := s.data.toList) (by rw [e1]; exact h1))
  have HE := Lib.hid he
  have hS : Hid (w.heap.size ≤ w.heap.size) := Nat.le_refl _
  clear he hc e1 h1 h2
  go_enter Tryd.func30, Tryd.ntmps30
  go_wp2_with (first
    | (go_at_call 36; generalize hW : World.alloc _ _ = V; have hr : Res w.heap.size V := (by subst hW; exact ⟨⟨by go_simp, by go_simp⟩, by intro k; go_simp⟩); have hg : Grew w V := (by subst hW; exact (Grew.refl _).alloc _); clear hW; (with_reducible refine (hcut.out _ (HE.out.grew hg)).mono ?_); rintro e w1 ⟨rfl, hg1⟩; replace hr := Lib.hid (hr.grew hg1); replace hg := Lib.hid (hg.trans hg1); clear hg1)
    | (go_at_call 37; (with_reducible refine (P1.out _ (HE.out.grew hg.out)).mono ?_); rintro e w2 ⟨N2, rfl, hg1⟩; replace hr := Lib.hid (hr.out.grew hg1); replace hg := Lib.hid (hg.out.trans hg1); clear hg1; clear P1)
    | (go_at_call 37; (with_reducible refine (P2.out _ (HE.out.grew hg.out)).mono ?_); rintro e w3 ⟨N3, rfl, hg1⟩; replace hr := Lib.hid (hr.out.grew hg1); replace hg := Lib.hid (hg.out.trans hg1); clear hg1; have hr0 := hr.out.box.c0; have hr1 := hr.out.box.c1; have hf0 := hr.out.free 0; have hf1 := hr.out.free 1))
  exact ret_iv2 Tryd.results30 rfl rfl (hr.out.box.put2 0 0) ⟨0, 0, 2, rfl, .inr ⟨rfl, rfl, rfl, HN.out⟩, hg.out.put2 hS.out 0 0⟩
set_option maxHeartbeats 1000000 in
theorem parse_one_yy (s : ByteArray) (hs : s.size ≤ 1000) (c1 c2 : List UInt8) (hc : Lib.cut s.data.toList [46, 46] = (c1, c2, false)) (l1 : c1.length ≤ s.size) (_ : c2.length ≤ s.size) (e1 : piece1 s.data.toList = c1) (e2 : piece2 s.data.toList = c1) (x : Int) (h1 : Lib.parseIntB 64 c1 = .ok x) (w : World) (he : Env w) :
    Calls Tryd.prog 30 #[.string s] w (Parsed s.data.toList w) := by
  have hcut := fun w he => cut_any s hs w he
  simp only [hc] at hcut
  replace hcut := Lib.hid hcut
  have P1 := Lib.hid (fun w => pint_ok c1 (by omega) x h1 w)
  have P2 := Lib.hid (fun w => pint_ok c1 (by omega) x h1 w)
  have HN := Lib.hid (fun (hne : txt x x ≠ s.data.toList) => not_spelt3 (by rw [e1]; exact h1) (by rw [e2]; exact h1) hne)
  have HY := Lib.hid (fun (he : txt x x = s.data.toList) => txt_spelt (y := x) (by rw [e1]; exact h1) he)
  have HE := Lib.hid he
  have hS : Hid (w.heap.size ≤ w.heap.size) := Nat.le_refl _
  clear he hc e1 e2 h1
  go_enter Tryd.func30, Tryd.ntmps30
  go_wp2_with (first
    | (go_at_call 36; generalize hW : World.alloc _ _ = V; have hr : Res w.heap.size V := (by subst hW; exact ⟨⟨by go_simp, by go_simp⟩, by intro k; go_simp⟩); have hg : Grew w V := (by subst hW; exact (Grew.refl _).alloc _); clear hW; (with_reducible refine (hcut.out _ (HE.out.grew hg)).mono ?_); rintro e w1 ⟨rfl, hg1⟩; replace hr := Lib.hid (hr.grew hg1); replace hg := Lib.hid (hg.trans hg1); clear hg1)
    | (go_at_call 37; (with_reducible refine (P1.out _).mono ?_); rintro e w2 ⟨rfl, hg1⟩; replace hr := Lib.hid (hr.out.grew hg1); replace hg := Lib.hid (hg.out.trans hg1); clear hg1; clear P1)
    | (go_at_call 37; (with_reducible refine (P2.out _).mono ?_); rintro e w3 ⟨rfl, hg1⟩; replace hr := Lib.hid (hr.out.grew hg1); replace hg := Lib.hid (hg.out.trans hg1); clear hg1; have hr0 := hr.out.box.c0; have hr1 := hr.out.box.c1; have hf0 := hr.out.free 0; have hf1 := hr.out.free 1)
    | (go_at_call 28; generalize hW : World.alloc _ _ = V; have hx : Box w3.heap.size x x V := (by subst hW; exact ⟨by go_simp, by go_simp⟩); have hv : Grew w3 V := (by subst hW; exact (Grew.refl _).alloc _); clear hW hr0 hr1 hf0 hf1; replace hr := Lib.hid (hr.out.grew hv); replace hg := Lib.hid (hg.out.trans hv); clear hv; (with_reducible refine (format_any _ _ _ (HE.out.grew hg.out)).mono ?_); rintro e w4 ⟨rfl, hg1⟩; replace hx := hx.grew hg1; replace hr := Lib.hid (hr.out.grew hg1); replace hg := Lib.hid (hg.out.trans hg1); clear hg1; have hx0 := hx.c0; have hx1 := hx.c1; have hr0 := hr.out.box.c0; have hr1 := hr.out.box.c1; have hf0 := hr.out.free 0; have hf1 := hr.out.free 1))
  · have ht : txt x x ≠ s.data.toList := by rename_i hz; rw [ByteArray.toList_eq] at hz; simpa using hz
    exact ret_iv2 Tryd.results30 rfl rfl (hr.out.box.put2 0 0) ⟨0, 0, 2, rfl, .inr ⟨rfl, rfl, rfl, HN.out ht⟩, hg.out.put2 hS.out 0 0⟩
  · have ht : txt x x = s.data.toList := by rename_i hz; rw [ByteArray.toList_eq] at hz; simpa using hz
    exact ret_iv2 Tryd.results30 rfl rfl (hr.out.box.put2 x x) ⟨x, x, 0, rfl, .inl ⟨rfl, HY.out ht⟩, hg.out.put2 hS.out x x⟩
set_option maxHeartbeats 1000000 in
theorem parse_one_nn (s : ByteArray) (hs : s.size ≤ 1000) (c1 c2 : List UInt8) (hc : Lib.cut s.data.toList [46, 46] = (c1, c2, false)) (l1 : c1.length ≤ s.size) (_ : c2.length ≤ s.size) (e1 : piece1 s.data.toList = c1) (_ : piece2 s.data.toList = c1) (h1 : ∀ v, Lib.parseIntB 64 c1 ≠ .ok v) (w : World) (he : Env w) :
    Calls Tryd.prog 30 #[.string s] w (Parsed s.data.toList w) := by
  have hcut := fun w he => cut_any s hs w he
  simp only [hc] at hcut
  replace hcut := Lib.hid hcut
  obtain ⟨z1, P1⟩ := pint_no c1 (by omega) h1
  replace P1 := Lib.hid P1
  obtain ⟨z2, P2⟩ := pint_no c1 (by omega) h1
  replace P2 := Lib.hid P2
  have HN := Lib.hid (not_spelt1 (l := s.data.toList) (by rw [e1]; exact h1))
  have HE := Lib.hid he
  have hS : Hid (w.heap.size ≤ w.heap.size) := Nat.le_refl _
  clear he hc e1 h1
  go_enter Tryd.func30, Tryd.ntmps30
  go_wp2_with (first
    | (go_at_call 36; generalize hW : World.alloc _ _ = V; have hr : Res w.heap.size V := (by subst hW; exact ⟨⟨by go_simp, by go_simp⟩, by intro k; go_simp⟩); have hg : Grew w V := (by subst hW; exact (Grew.refl _).alloc _); clear hW; (with_reducible refine (hcut.out _ (HE.out.grew hg)).mono ?_); rintro e w1 ⟨rfl, hg1⟩; replace hr := Lib.hid (hr.grew hg1); replace hg := Lib.hid (hg.trans hg1); clear hg1)
    | (go_at_call 37; (with_reducible refine (P1.out _ (HE.out.grew hg.out)).mono ?_); rintro e w2 ⟨N2, rfl, hg1⟩; replace hr := Lib.hid (hr.out.grew hg1); replace hg := Lib.hid (hg.out.trans hg1); clear hg1; clear P1)
    | (go_at_call 37; (with_reducible refine (P2.out _ (HE.out.grew hg.out)).mono ?_); rintro e w3 ⟨N3, rfl, hg1⟩; replace hr := Lib.hid (hr.out.grew hg1); replace hg := Lib.hid (hg.out.trans hg1); clear hg1; have hr0 := hr.out.box.c0; have hr1 := hr.out.box.c1; have hf0 := hr.out.free 0; have hf1 := hr.out.free 1))
  exact ret_iv2 Tryd.results30 rfl rfl (hr.out.box.put2 0 0) ⟨0, 0, 2, rfl, .inr ⟨rfl, rfl, rfl, HN.out⟩, hg.out.put2 hS.out 0 0⟩
/-- Parse, at every string. -/
theorem parse_any (s : ByteArray) (hs : s.size ≤ 1000) (w : World) (he : Env w) : Calls Tryd.prog 30 #[.string s] w (Parsed s.data.toList w) := by
  obtain ⟨c1, c2, b, hc, l1, l2, e1, e2⟩ := cut_named s.data.toList
  have hd : ∀ l, (∃ v, Lib.parseIntB 64 l = .ok v) ∨ ∀ v, Lib.parseIntB 64 l ≠ .ok v := fun l => by
    by_cases h : ∃ v, Lib.parseIntB 64 l = .ok v
    · exact .inl h
    · exact .inr fun v hv => h ⟨v, hv⟩
  cases b
  · rcases hd c1 with ⟨x, h1⟩ | h1
    · exact parse_one_yy s hs c1 c2 hc l1 l2 e1 (by simpa using e2) x h1 w he
    · exact parse_one_nn s hs c1 c2 hc l1 l2 e1 (by simpa using e2) h1 w he
  · rcases hd c1 with ⟨x, h1⟩ | h1 <;> rcases hd c2 with ⟨y, h2⟩ | h2
    · exact parse_cut_yy s hs c1 c2 hc l1 l2 e1 (by simpa using e2) x h1 y h2 w he
    · exact parse_cut_yn s hs c1 c2 hc l1 l2 e1 (by simpa using e2) x h1 h2 w he
    · exact parse_cut_ny s hs c1 c2 hc l1 l2 e1 (by simpa using e2) h1 y h2 w he
    · exact parse_cut_nn s hs c1 c2 hc l1 l2 e1 (by simpa using e2) h1 h2 w he
end Go.Proofs.YtoehjejpkaffiaaDoor
