/-
  LAYER 16 (ast), THE PROGRAM: slices.Clone.
  LAYER 16 (ast), THE PROGRAM: copyExprs.
  LAYER 16 (ast), THE PROGRAM: copyStmts.
  LAYER 16 (ast), THE PROGRAM: stripExprs.
  LAYER 16 (ast), THE PROGRAM: stripStmts.
  LAYER 16 (ast), THE PROGRAM: copyProgram.
  LAYER 16 (ast), THE PROGRAM: Strip.
-/
import Derived.Test.YtcknpcbkofgdoaaGreatDoorZdShort
import Derived.Test.YtcknpcbkofgdoaaGreatDoorZd00
import Derived.Test.YtcknpcbkofgdoaaGreatDoorZd03
import Derived.Test.YtcknpcbkofgdoaaGreatDoorZd01
import Derived.Deep.LoopGhost
import Derived.Deep.Cut
import Derived.Shelf.Abstract
import Derived.Lib.SliceRun
import Derived.Test.YtcknpcbkofgdoaaGreatDoorZd02
import Derived.Test.YtcknpcbkofgdoaaGreatDoorZd08
namespace Go.Proofs.YtcknpcbkofgdoaaGreatDoor
open Go Go.RowKit Go.IntWalk
set_option linter.unusedSimpArgs false
set_option linter.unusedVariables false
set_option maxRecDepth 8000
set_option maxHeartbeats 4000000 in
theorem clnX_any (L:List Xd) (w:World) (p:Option Addr) (c:Nat) (h:Rw 6 xdc w p c L) (hn:L.length≤1048576) :
 Calls Tryz.prog 153 #[.slice p L.length c] w fun e w'=>∃p' c',e=.returned (.slice p' L.length c')∧Frs 6 xdc 35 w.heap.size p' c' L w'∧Grew w w':=by
 have hcap:=h.cap
 have hmax:=h.max
 have HX:=zh h
 have HN:=zh hn
 have q22:∀(w:World) (a:Option Addr) (n c n' c':Nat),(binOp .eql 33 (.slice a n c) (.slice none n' c')).run Tryz.prog w=.ok (.bool a.isNone) w:=fun w a n c n' c'=>Lib.run_eql_slice_nil w _ _ a n c n' c' Tryz.underlying33
 cases p with
 | none =>
   have hc:=h.bare rfl
   subst hc
   obtain rfl:L=[]:=List.eq_nil_of_length_eq_zero (by omega)
   clear h
   go_enter Tryz.func153,Tryz.ntmps153
   go_wp2
   go_ret
   exact⟨none,0,rfl,⟨HX.out,fun hn=>absurd hn (by simp)⟩,Grew.refl _⟩
 | some a =>
   obtain ⟨n,hL⟩:∃n,L.length=n:=⟨_,rfl⟩
   have HL:=zh hL
   rw [hL] at hcap hn ⊢
   clear h hL
   go_enter Tryz.func153,Tryz.ntmps153
   go_wp2_with (at_builtin;refine wpList_append_litF encXd rfl _ _ 33 rfl 35 zX 72 Tryz.underlying33 infoX rfl w.heap.size rfl (some a) n c L rfl HL.out (HX.out.kept ((Grew.refl w).alloc _)) (by have:=HN.out;have:=HL.out;omega) (by have:=HN.out;have:=HL.out;omega) ?_;intro p3 c3 w3 h3 g3;have H3:=zh h3;have G3:=zh g3;clear h3 g3)
   have hcp:n≤c3:=by have h1:=H3.out.1.cap;have:=HL.out;omega
   have hcm:=H3.out.1.max
   go_ret
   exact⟨p3,c3,rfl,⟨H3.out.1,fun hn=>(H3.out.2 hn).down (by rw [alloc_sz];omega)⟩,((Grew.refl w).alloc _).trans G3.out⟩
set_option maxHeartbeats 4000000 in
theorem clnS_any (L:List Sd) (w:World) (p:Option Addr) (c:Nat) (h:Rw 7 sdc w p c L) (hn:L.length≤1048576) :
 Calls Tryz.prog 119 #[.slice p L.length c] w fun e w'=>∃p' c',e=.returned (.slice p' L.length c')∧Frs 7 sdc 49 w.heap.size p' c' L w'∧Grew w w':=by
 have hcap:=h.cap
 have hmax:=h.max
 have HX:=zh h
 have HN:=zh hn
 have q22:∀(w:World) (a:Option Addr) (n c n' c':Nat),(binOp .eql 40 (.slice a n c) (.slice none n' c')).run Tryz.prog w=.ok (.bool a.isNone) w:=fun w a n c n' c'=>Lib.run_eql_slice_nil w _ _ a n c n' c' Tryz.underlying40
 cases p with
 | none =>
   have hc:=h.bare rfl
   subst hc
   obtain rfl:L=[]:=List.eq_nil_of_length_eq_zero (by omega)
   clear h
   go_enter Tryz.func119,Tryz.ntmps119
   go_wp2
   go_ret
   exact⟨none,0,rfl,⟨HX.out,fun hn=>absurd hn (by simp)⟩,Grew.refl _⟩
 | some a =>
   obtain ⟨n,hL⟩:∃n,L.length=n:=⟨_,rfl⟩
   have HL:=zh hL
   rw [hL] at hcap hn ⊢
   clear h hL
   go_enter Tryz.func119,Tryz.ntmps119
   go_wp2_with (at_builtin;refine wpList_append_litF encSd rfl _ _ 40 rfl 49 zS 112 Tryz.underlying40 infoS rfl w.heap.size rfl (some a) n c L rfl HL.out (HX.out.kept ((Grew.refl w).alloc _)) (by have:=HN.out;have:=HL.out;omega) (by have:=HN.out;have:=HL.out;omega) ?_;intro p3 c3 w3 h3 g3;have H3:=zh h3;have G3:=zh g3;clear h3 g3)
   have hcp:n≤c3:=by have h1:=H3.out.1.cap;have:=HL.out;omega
   have hcm:=H3.out.1.max
   go_ret
   exact⟨p3,c3,rfl,⟨H3.out.1,fun hn=>(H3.out.2 hn).down (by rw [alloc_sz];omega)⟩,((Grew.refl w).alloc _).trans G3.out⟩
set_option maxHeartbeats 4000000 in
theorem clnT_any (L:List Td) (w:World) (p:Option Addr) (c:Nat) (h:Rw 8 tdc w p c L) (hn:L.length≤1048576) :
 Calls Tryz.prog 126 #[.slice p L.length c] w fun e w'=>∃p' c',e=.returned (.slice p' L.length c')∧Frs 8 tdc 42 w.heap.size p' c' L w'∧Grew w w':=by
 have hcap:=h.cap
 have hmax:=h.max
 have HX:=zh h
 have HN:=zh hn
 have q22:∀(w:World) (a:Option Addr) (n c n' c':Nat),(binOp .eql 26 (.slice a n c) (.slice none n' c')).run Tryz.prog w=.ok (.bool a.isNone) w:=fun w a n c n' c'=>Lib.run_eql_slice_nil w _ _ a n c n' c' Tryz.underlying26
 cases p with
 | none =>
   have hc:=h.bare rfl
   subst hc
   obtain rfl:L=[]:=List.eq_nil_of_length_eq_zero (by omega)
   clear h
   go_enter Tryz.func126,Tryz.ntmps126
   go_wp2
   go_ret
   exact⟨none,0,rfl,⟨HX.out,fun hn=>absurd hn (by simp)⟩,Grew.refl _⟩
 | some a =>
   obtain ⟨n,hL⟩:∃n,L.length=n:=⟨_,rfl⟩
   have HL:=zh hL
   rw [hL] at hcap hn ⊢
   clear h hL
   go_enter Tryz.func126,Tryz.ntmps126
   go_wp2_with (at_builtin;refine wpList_append_litF encTd rfl _ _ 26 rfl 42 (.agg #[.string ⟨#[]⟩,.int .i64 0,.int .i64 0,.string ⟨#[]⟩,.string ⟨#[]⟩,.int .i64 0,.slice none 0 0,.int .i64 0]) 104 Tryz.underlying26 infoTaS rfl w.heap.size rfl (some a) n c L rfl HL.out (HX.out.kept ((Grew.refl w).alloc _)) (by have:=HN.out;have:=HL.out;omega) (by have:=HN.out;have:=HL.out;omega) ?_;intro p3 c3 w3 h3 g3;have H3:=zh h3;have G3:=zh g3;clear h3 g3)
   have hcp:n≤c3:=by have h1:=H3.out.1.cap;have:=HL.out;omega
   have hcm:=H3.out.1.max
   go_ret
   exact⟨p3,c3,rfl,⟨H3.out.1,fun hn=>(H3.out.2 hn).down (by rw [alloc_sz];omega)⟩,((Grew.refl w).alloc _).trans G3.out⟩
set_option maxHeartbeats 4000000 in
theorem clnC_any (L:List Cn) (w:World) (p:Option Addr) (c:Nat) (h:Rw 3 cnc w p c L) (hn:L.length≤1048576) :
 Calls Tryz.prog 127 #[.slice p L.length c] w fun e w'=>∃p' c',e=.returned (.slice p' L.length c')∧Frs 3 cnc 60 w.heap.size p' c' L w'∧Grew w w':=by
 have hcap:=h.cap
 have hmax:=h.max
 have HX:=zh h
 have HN:=zh hn
 have q22:∀(w:World) (a:Option Addr) (n c n' c':Nat),(binOp .eql 22 (.slice a n c) (.slice none n' c')).run Tryz.prog w=.ok (.bool a.isNone) w:=fun w a n c n' c'=>Lib.run_eql_slice_nil w _ _ a n c n' c' Tryz.underlying22
 cases p with
 | none =>
   have hc:=h.bare rfl
   subst hc
   obtain rfl:L=[]:=List.eq_nil_of_length_eq_zero (by omega)
   clear h
   go_enter Tryz.func127,Tryz.ntmps127
   go_wp2
   go_ret
   exact⟨none,0,rfl,⟨HX.out,fun hn=>absurd hn (by simp)⟩,Grew.refl _⟩
 | some a =>
   obtain ⟨n,hL⟩:∃n,L.length=n:=⟨_,rfl⟩
   have HL:=zh hL
   rw [hL] at hcap hn ⊢
   clear h hL
   go_enter Tryz.func127,Tryz.ntmps127
   go_wp2_with (at_builtin;refine wpList_append_litF encCn rfl _ _ 22 rfl 60 (.agg #[.string ⟨#[]⟩,.int .i16 0,.int .i64 0]) 32 Tryz.underlying22 infoCnS rfl w.heap.size rfl (some a) n c L rfl HL.out (HX.out.kept ((Grew.refl w).alloc _)) (by have:=HN.out;have:=HL.out;omega) (by have:=HN.out;have:=HL.out;omega) ?_;intro p3 c3 w3 h3 g3;have H3:=zh h3;have G3:=zh g3;clear h3 g3)
   have hcp:n≤c3:=by have h1:=H3.out.1.cap;have:=HL.out;omega
   have hcm:=H3.out.1.max
   go_ret
   exact⟨p3,c3,rfl,⟨H3.out.1,fun hn=>(H3.out.2 hn).down (by rw [alloc_sz];omega)⟩,((Grew.refl w).alloc _).trans G3.out⟩
set_option maxHeartbeats 4000000 in
theorem clnG_any (L:List Gl) (w:World) (p:Option Addr) (c:Nat) (h:Rw 4 glc w p c L) (hn:L.length≤1048576) :
 Calls Tryz.prog 128 #[.slice p L.length c] w fun e w'=>∃p' c',e=.returned (.slice p' L.length c')∧Frs 4 glc 62 w.heap.size p' c' L w'∧Grew w w':=by
 have hcap:=h.cap
 have hmax:=h.max
 have HX:=zh h
 have HN:=zh hn
 have q22:∀(w:World) (a:Option Addr) (n c n' c':Nat),(binOp .eql 23 (.slice a n c) (.slice none n' c')).run Tryz.prog w=.ok (.bool a.isNone) w:=fun w a n c n' c'=>Lib.run_eql_slice_nil w _ _ a n c n' c' Tryz.underlying23
 cases p with
 | none =>
   have hc:=h.bare rfl
   subst hc
   obtain rfl:L=[]:=List.eq_nil_of_length_eq_zero (by omega)
   clear h
   go_enter Tryz.func128,Tryz.ntmps128
   go_wp2
   go_ret
   exact⟨none,0,rfl,⟨HX.out,fun hn=>absurd hn (by simp)⟩,Grew.refl _⟩
 | some a =>
   obtain ⟨n,hL⟩:∃n,L.length=n:=⟨_,rfl⟩
   have HL:=zh hL
   rw [hL] at hcap hn ⊢
   clear h hL
   go_enter Tryz.func128,Tryz.ntmps128
   go_wp2_with (at_builtin;refine wpList_append_litF encGl rfl _ _ 23 rfl 62 (.agg #[.string ⟨#[]⟩,.int .i64 0,.int .i16 0,.int .i64 0]) 40 Tryz.underlying23 infoGlS rfl w.heap.size rfl (some a) n c L rfl HL.out (HX.out.kept ((Grew.refl w).alloc _)) (by have:=HN.out;have:=HL.out;omega) (by have:=HN.out;have:=HL.out;omega) ?_;intro p3 c3 w3 h3 g3;have H3:=zh h3;have G3:=zh g3;clear h3 g3)
   have hcp:n≤c3:=by have h1:=H3.out.1.cap;have:=HL.out;omega
   have hcm:=H3.out.1.max
   go_ret
   exact⟨p3,c3,rfl,⟨H3.out.1,fun hn=>(H3.out.2 hn).down (by rw [alloc_sz];omega)⟩,((Grew.refl w).alloc _).trans G3.out⟩
set_option maxHeartbeats 4000000 in
theorem clnH_any (L:List Cn) (w:World) (p:Option Addr) (c:Nat) (h:Rw 3 chc w p c L) (hn:L.length≤1048576) :
 Calls Tryz.prog 130 #[.slice p L.length c] w fun e w'=>∃p' c',e=.returned (.slice p' L.length c')∧Frs 3 chc 64 w.heap.size p' c' L w'∧Grew w w':=by
 have hcap:=h.cap
 have hmax:=h.max
 have HX:=zh h
 have HN:=zh hn
 have q22:∀(w:World) (a:Option Addr) (n c n' c':Nat),(binOp .eql 25 (.slice a n c) (.slice none n' c')).run Tryz.prog w=.ok (.bool a.isNone) w:=fun w a n c n' c'=>Lib.run_eql_slice_nil w _ _ a n c n' c' Tryz.underlying25
 cases p with
 | none =>
   have hc:=h.bare rfl
   subst hc
   obtain rfl:L=[]:=List.eq_nil_of_length_eq_zero (by omega)
   clear h
   go_enter Tryz.func130,Tryz.ntmps130
   go_wp2
   go_ret
   exact⟨none,0,rfl,⟨HX.out,fun hn=>absurd hn (by simp)⟩,Grew.refl _⟩
 | some a =>
   obtain ⟨n,hL⟩:∃n,L.length=n:=⟨_,rfl⟩
   have HL:=zh hL
   rw [hL] at hcap hn ⊢
   clear h hL
   go_enter Tryz.func130,Tryz.ntmps130
   go_wp2_with (at_builtin;refine wpList_append_litF encCh rfl _ _ 25 rfl 64 (.agg #[.string ⟨#[]⟩,.int .i64 0,.int .i64 0]) 32 Tryz.underlying25 infoChS rfl w.heap.size rfl (some a) n c L rfl HL.out (HX.out.kept ((Grew.refl w).alloc _)) (by have:=HN.out;have:=HL.out;omega) (by have:=HN.out;have:=HL.out;omega) ?_;intro p3 c3 w3 h3 g3;have H3:=zh h3;have G3:=zh g3;clear h3 g3)
   have hcp:n≤c3:=by have h1:=H3.out.1.cap;have:=HL.out;omega
   have hcm:=H3.out.1.max
   go_ret
   exact⟨p3,c3,rfl,⟨H3.out.1,fun hn=>(H3.out.2 hn).down (by rw [alloc_sz];omega)⟩,((Grew.refl w).alloc _).trans G3.out⟩
set_option maxHeartbeats 4000000 in
theorem clnN_any (L:List ByteArray) (w:World) (p:Option Addr) (c:Nat) (h:Rw 1 strc w p c L) (hn:L.length≤1048576) :
 Calls Tryz.prog 129 #[.slice p L.length c] w fun e w'=>∃p' c',e=.returned (.slice p' L.length c')∧Frs 1 strc 9 w.heap.size p' c' L w'∧Grew w w':=by
 have hcap:=h.cap
 have hmax:=h.max
 have HX:=zh h
 have HN:=zh hn
 have q22:∀(w:World) (a:Option Addr) (n c n' c':Nat),(binOp .eql 24 (.slice a n c) (.slice none n' c')).run Tryz.prog w=.ok (.bool a.isNone) w:=fun w a n c n' c'=>Lib.run_eql_slice_nil w _ _ a n c n' c' Tryz.underlying24
 cases p with
 | none =>
   have hc:=h.bare rfl
   subst hc
   obtain rfl:L=[]:=List.eq_nil_of_length_eq_zero (by omega)
   clear h
   go_enter Tryz.func129,Tryz.ntmps129
   go_wp2
   go_ret
   exact⟨none,0,rfl,⟨HX.out,fun hn=>absurd hn (by simp)⟩,Grew.refl _⟩
 | some a =>
   obtain ⟨n,hL⟩:∃n,L.length=n:=⟨_,rfl⟩
   have HL:=zh hL
   rw [hL] at hcap hn ⊢
   clear h hL
   go_enter Tryz.func129,Tryz.ntmps129
   go_wp2_with (at_builtin;refine wpList_append_litF encStr rfl _ _ 24 rfl 9 (.string ⟨#[]⟩) 16 Tryz.underlying24 infoStr rfl w.heap.size rfl (some a) n c L rfl HL.out (HX.out.kept ((Grew.refl w).alloc _)) (by have:=HN.out;have:=HL.out;omega) (by have:=HN.out;have:=HL.out;omega) ?_;intro p3 c3 w3 h3 g3;have H3:=zh h3;have G3:=zh g3;clear h3 g3)
   have hcp:n≤c3:=by have h1:=H3.out.1.cap;have:=HL.out;omega
   have hcm:=H3.out.1.max
   go_ret
   exact⟨p3,c3,rfl,⟨H3.out.1,fun hn=>(H3.out.2 hn).down (by rw [alloc_sz];omega)⟩,((Grew.refl w).alloc _).trans G3.out⟩
theorem dropget {α:Type}{D L:List α}{j:Nat}{d:α}(hD:D.length=j) (hd:L[j]?=some d):(D++L.drop j)[j]?=some d:=by
 rw [List.getElem?_append_right (by omega),hD,Nat.sub_self,List.getElem?_drop]
 exact hd
theorem dropset {α:Type}{D L:List α}{j:Nat}{d d':α}(hD:D.length=j) (hd:L[j]?=some d):(D++L.drop j).set j d'=(D++[d'])++L.drop (j+1):=by
 obtain ⟨hj,rfl⟩:=List.getElem?_eq_some_iff.1 hd
 rw [List.drop_eq_getElem_cons hj,List.set_append_right _ _ (by omega),hD,Nat.sub_self,zz5,List.append_assoc]
 rfl
set_option maxHeartbeats 8000000 in
theorem cpX_any:∀(n:Nat) (l:List Xp),nXs l < n→∀(B:Nat→Prop) (w:World) (p:Option Addr) (c:Nat),XL B w p c l→nXs l≤1048576 →
 Calls Tryz.prog 120 #[.slice p l.length c] w fun e w'=>∃p' c',e=.returned (.slice p' l.length c')∧OX w' w.heap.size w'.heap.size p' c' l∧Grew w w':=by
 intro n
 induction n with
 | zero=>intro _ h;exact absurd h (Nat.not_lt_zero _)
 | succ n ih =>
 intro l hln B w p c hx hnX
 have hcap:l.length≤c:=hx.cap.1
 have hmax:=hx.cap.2.1
 have hnl:=nXs_len l
 obtain ⟨_,L,hr,hat⟩:=hx
 have hLl:=XsAt_len hat
 have HAT:=zh hat
 have HLl:=zh hLl
 have HCL:Hid (∀W,Grew w W→Calls Tryz.prog 153 #[.slice p l.length c] W fun e w'=>∃p' c',e=.returned (.slice p' l.length c')∧Frs 6 xdc 35 W.heap.size p' c' L w'∧Grew W w'):=zh (fun W hW=>by
  have h_:=clnX_any L W p c (hr.kept hW) (by omega)
  rw [hLl] at h_
  exact h_)
 clear hr hat hLl
 go_enter Tryz.func120,Tryz.ntmps120
 go_wp2_with (go_at_call 153;(with_reducible refine(HCL.out _ (Grew.refl _)).mono ?_);rintro e_ W1 ⟨p1,c1,rfl,hf1,hg1⟩;have HF1:=zh hf1;have HG1:=zh hg1;clear hf1 hg1)
 have hc1:l.length≤c1:=by have h1:=HF1.out.1.cap;have:=HLl.out;omega
 have hm1:=HF1.out.1.max
 obtain ⟨g,hgS,hg⟩:∃g,w.heap.size≤g∧(0 < l.length→p1=some ⟨g,0,none⟩∧g < W1.heap.size):=by
  by_cases hn:0 < l.length
  ·have hL0:0 < L.length:=by have:=HLl.out;omega
   obtain ⟨g,h1,h2,h3⟩:=(HF1.out.2 hL0).at hL0
   exact⟨g,h2,fun _=>⟨h1,h3⟩⟩
  ·exact⟨w.heap.size,Nat.le_refl _,fun h=>absurd h hn⟩
 have HGS:=zh hgS
 have HGP:=zh hg
 clear hgS hg
 go_loopg [3,8] l.length (fun gg v3_ iv wr=>∃(j:Nat) (D:List Xd),iv=.int .i64 (j:Int)∧j≤l.length∧gg=l.length - j∧Hid (D.length=j)∧Hid (0 < l.length→OwR wr w.heap.size 35 6 xdc (.slice p1 l.length c1) (D++L.drop j))∧Hid (OXs wr (l.take j) (g+1) wr.heap.size D)∧Hid (Chg W1 wr (fun k=>k=g)))
 case atStart=>exact⟨0,[],rfl,Nat.zero_le _,rfl,zh rfl,zh (fun hn=>by have h1:=HF1.out.2 (by have:=HLl.out;omega);rw [HLl.out] at h1;exact h1),zh (by rw [List.take_zero,OXs]),zh (Chg.refl _ _)⟩
 case round =>
  obtain ⟨j,D,rfl,hj,rfl,HD,HOW,HXS,HC⟩:=hrel
  have HGw:Hid (Grew w wr):=zh (grew_lift HG1.out HC.out (fun k hk=>by have h1:k=g:=hk;rw [h1];exact HGS.out))
  by_cases hlt:j < l.length
  ·have hn0:0 < l.length:=by omega
   obtain ⟨hp1,hgW⟩:=HGP.out hn0
   subst hp1
   have how:=HOW.out hn0
   obtain ⟨d,hd,hxd⟩:=XsAt_get HAT.out j hlt
   rw [XAt_iff] at hxd
   obtain ⟨pj,cj,rfl,hz,hXj⟩:=hxd
   have hnx:=nXs_mem (List.getElem_mem hlt)
   have htk:=List.take_succ_eq_append_getElem hlt
   have HLT:=zh (Nat.succ_le_of_lt hlt)
   have hget:=dropget HD.out hd
   generalize l[j]=x at hd hz hXj hnx htk hget
   obtain ⟨k,s,v,o,ar,q⟩:=x
   replace hXj:XL B w pj cj ar:=hXj
   replace hz:s.size≤1048576∧v≤32767:=hz
   have hnx2:nXs ar+1≤nXs l:=hnx
   have hcapj:ar.length≤cj:=hXj.cap.1
   have hmaxj:=hXj.cap.2.1
   have c4:wr.cell? ⟨g,j * 6+4,none⟩=some (.slice pj ar.length cj):=by
    have h1:=(how.rd encXd).2.cell hget (j:=4) (v:=.slice pj ar.length cj) rfl
    rw [Nat.zero_add] at h1
    exact h1
   have HIH:=zh (fun W (hW:Grew w W)=>ih ar (by omega) B W pj cj (hXj.kept hW) (by omega))
   have HHOW:=zh how
   have HHD:=zh hd
   have HTK:=zh htk
   have HZ:=zh hz
   have HGET:=zh hget
   have HGWL:=zh hgW
   clear hd hz hXj hnx hnx2 htk hget how hgW
   go_wp2_with (go_at_call 120;(with_reducible refine(HIH.out _ HGw.out).mono ?_);rintro e_ W2 ⟨p2,c2,rfl,hx2,hg2⟩;have HX2:=zh hx2;have HG2:=zh hg2;have z4:W2.cell? ⟨g,j * 6+4,none⟩=some (.slice pj ar.length cj):=Atv.kept (R:=Grew) c4 hg2;have zf:=((HHOW.out.kept hg2).free encXd (j * 6+4)).2;clear hx2 hg2)
   have HST:=zh (Chg.set W2 ⟨g,j * 6+4,none⟩ (.slice p2 ar.length c2))
   have HSZ:Hid ((W2.setCell ⟨g,j * 6+4,none⟩ (.slice p2 ar.length c2)).heap.size=W2.heap.size):=zh (World.size_setCell _ _ _)
   have HWL:Hid (g < wr.heap.size):=zh (Nat.lt_of_lt_of_le HGWL.out HC.out.size)
   have HOX:Hid (OXs (W2.setCell ⟨g,j * 6+4,none⟩ (.slice p2 ar.length c2)) (l.take (j+1)) (g+1) (W2.setCell ⟨g,j * 6+4,none⟩ (.slice p2 ar.length c2)).heap.size (D++[⟨k,s,v,o,p2,ar.length,c2,q⟩])):=zh (by
    rw [HTK.out,HSZ.out]
    have h1:=OXs_chg (Chg.of_grew HG2.out (fun _=>False)) HXS.out (fun _ _ _ h=>h)
    have h2:=OXs_chg HST.out h1 (fun i h3 _ h4=>by have h5:i=g:=h4;omega)
    have h3:=HX2.out.chg HST.out (fun i h3 _ h4=>by have h5:i=g:=h4;have:=HWL.out;omega)
    exact OXs_snoc h2 HWL.out HG2.out.sz (OXp_iff.2 ⟨p2,c2,rfl,HZ.out,h3⟩))
   have HOW2:Hid (OwR (W2.setCell ⟨g,j * 6+4,none⟩ (.slice p2 ar.length c2)) w.heap.size 35 6 xdc (.slice (some ⟨g,0,none⟩) l.length c1) ((D++[⟨k,s,v,o,p2,ar.length,c2,q⟩])++L.drop (j+1))):=zh (by
    obtain ⟨hi,he⟩:=List.getElem?_eq_some_iff.1 HGET.out
    have h1:=(HHOW.out.kept HG2.out).set1 encXd j 4 (⟨k,s,v,o,p2,ar.length,c2,q⟩:Xd) (.slice p2 ar.length c2) hi (by decide) (by rw [he];rfl)
    rw [dropset HD.out HHD.out] at h1
    exact h1)
   have HC2:Hid (Chg W1 (W2.setCell ⟨g,j * 6+4,none⟩ (.slice p2 ar.length c2)) (fun k=>k=g)):=zh ((HC.out.trans (Chg.of_grew HG2.out _)).trans HST.out)
   go_roundg (l.length - (j+1))
   case measure=>have:=HLT.out;omega
   case rel=>exact⟨j+1,D++[⟨k,s,v,o,p2,ar.length,c2,q⟩],by go_num,HLT.out,rfl,zh (by rw [List.length_append,HD.out];rfl),zh (fun _=>HOW2.out),HOX,HC2⟩
  ·obtain rfl:j=l.length:=by omega
   have HFIN:Hid (OX wr w.heap.size wr.heap.size p1 c1 l):=zh (by
    have hdl:L.drop l.length=[]:=List.drop_eq_nil_of_le (by rw [HLl.out];exact Nat.le_refl _)
    have hxs:=HXS.out
    rw [List.take_length] at hxs
    refine⟨g,D,HD.out,⟨?_,fun hn=>?_⟩,hxs⟩
    ·by_cases hn:0 < l.length
     ·have h1:=HOW.out hn
      rw [hdl,List.append_nil] at h1
      exact(h1.rd encXd).2
     ·obtain rfl:D=[]:=List.eq_nil_of_length_eq_zero (by rw [HD.out];omega)
      have h1:=HF1.out.1
      exact⟨RdL.nil _ _ _ _ _ h1.max,h1.bare⟩
    ·have hn2:0 < l.length:=by rw [HD.out] at hn;exact hn
     have h1:=HOW.out hn2
     rw [hdl,List.append_nil] at h1
     obtain ⟨hp1,hgW⟩:=HGP.out hn2
     exact⟨HGS.out,Nat.lt_of_lt_of_le hgW HC.out.size,hp1,by rw [HD.out];exact h1⟩)
   go_wp2
   go_ret
   exact⟨p1,c1,rfl,HFIN.out,HGw.out⟩
set_option maxHeartbeats 16000000 in
theorem cpS_any:∀(n:Nat) (l:List Sm),nSs l < n→∀(B:Nat→Prop) (w:World) (p:Option Addr) (c:Nat),SL B w p c l→nSs l≤1048576→mSs l≤1048576 →
 Calls Tryz.prog 76 #[.slice p l.length c] w fun e w'=>∃p' c',e=.returned (.slice p' l.length c')∧OS w' w.heap.size w'.heap.size p' c' l∧Grew w w':=by
 intro n
 induction n with
 | zero=>intro _ h;exact absurd h (Nat.not_lt_zero _)
 | succ n ih =>
 intro l hln B w p c hx hnS hmS
 have hcap:l.length≤c:=hx.cap.1
 have hmax:=hx.cap.2.1
 have hnl:=nSs_len l
 obtain ⟨_,L,hr,hat⟩:=hx
 have hLl:=SsAt_len hat
 have HAT:=zh hat
 have HLl:=zh hLl
 have HCL:Hid (∀W,Grew w W→Calls Tryz.prog 119 #[.slice p l.length c] W fun e w'=>∃p' c',e=.returned (.slice p' l.length c')∧Frs 7 sdc 49 W.heap.size p' c' L w'∧Grew W w'):=zh (fun W hW=>by
  have h_:=clnS_any L W p c (hr.kept hW) (by omega)
  rw [hLl] at h_
  exact h_)
 clear hr hat hLl
 go_enter Tryz.func76,Tryz.ntmps76
 go_wp2_with (go_at_call 119;(with_reducible refine(HCL.out _ (Grew.refl _)).mono ?_);rintro e_ W1 ⟨p1,c1,rfl,hf1,hg1⟩;have HF1:=zh hf1;have HG1:=zh hg1;clear hf1 hg1)
 have hc1:l.length≤c1:=by have h1:=HF1.out.1.cap;have:=HLl.out;omega
 have hm1:=HF1.out.1.max
 obtain ⟨g,hgS,hg⟩:∃g,w.heap.size≤g∧(0 < l.length→p1=some ⟨g,0,none⟩∧g < W1.heap.size):=by
  by_cases hn:0 < l.length
  ·have hL0:0 < L.length:=by have:=HLl.out;omega
   obtain ⟨g,h1,h2,h3⟩:=(HF1.out.2 hL0).at hL0
   exact⟨g,h2,fun _=>⟨h1,h3⟩⟩
  ·exact⟨w.heap.size,Nat.le_refl _,fun h=>absurd h hn⟩
 have HGS:=zh hgS
 have HGP:=zh hg
 clear hgS hg
 go_loopg [3,8] l.length (fun gg v3_ iv wr=>∃(j:Nat) (D:List Sd),iv=.int .i64 (j:Int)∧j≤l.length∧gg=l.length - j∧Hid (D.length=j)∧Hid (0 < l.length→OwR wr w.heap.size 49 7 sdc (.slice p1 l.length c1) (D++L.drop j))∧Hid (OSs wr (l.take j) (g+1) wr.heap.size D)∧Hid (Chg W1 wr (fun k=>k=g)))
 case atStart=>exact⟨0,[],rfl,Nat.zero_le _,rfl,zh rfl,zh (fun hn=>by have h1:=HF1.out.2 (by have:=HLl.out;omega);rw [HLl.out] at h1;exact h1),zh (by rw [List.take_zero,OSs]),zh (Chg.refl _ _)⟩
 case round =>
  obtain ⟨j,D,rfl,hj,rfl,HD,HOW,HXS,HC⟩:=hrel
  have HGw:Hid (Grew w wr):=zh (grew_lift HG1.out HC.out (fun k hk=>by have h1:k=g:=hk;rw [h1];exact HGS.out))
  by_cases hlt:j < l.length
  ·have hn0:0 < l.length:=by omega
   obtain ⟨hp1,hgW⟩:=HGP.out hn0
   subst hp1
   have how:=HOW.out hn0
   obtain ⟨d,hd,hxd⟩:=SsAt_get HAT.out j hlt
   rw [SAt_iff] at hxd
   obtain ⟨ap,ac,yp,yc,ep,ec,rfl,hz,hXj,hYj,hEj⟩:=hxd
   have hns:=nSs_mem (List.getElem_mem hlt)
   have hms:=mSs_mem (List.getElem_mem hlt)
   have htk:=List.take_succ_eq_append_getElem hlt
   have HLT:=zh (Nat.succ_le_of_lt hlt)
   have hget:=dropget HD.out hd
   generalize l[j]=x at hd hz hXj hYj hEj hns hms htk hget
   obtain ⟨k,s,nn,ar,yl,el,q⟩:=x
   replace hXj:XL B w ap ac ar:=hXj
   replace hYj:SL B w yp yc yl:=hYj
   replace hEj:SL B w ep ec el:=hEj
   replace hz:s.size≤1048576:=hz
   have hns2:nSs yl+nSs el+1≤nSs l:=hns
   have hms2:nXs ar+mSs yl+mSs el≤mSs l:=hms
   have hcapj:ar.length≤ac∧yl.length≤yc∧el.length≤ec:=⟨hXj.cap.1,hYj.cap.1,hEj.cap.1⟩
   have hmaxj:=And.intro hXj.cap.2.1 (And.intro hYj.cap.2.1 hEj.cap.2.1)
   have c3:wr.cell? ⟨g,j * 7+3,none⟩=some (.slice ap ar.length ac):=by
    have h1:=(how.rd encSd).2.cell (hget) (j:=3) (v:=.slice ap ar.length ac) rfl
    rw [Nat.zero_add] at h1
    exact h1
   have HIA:=zh (fun W (hW:Grew w W)=>cpX_any _ ar (Nat.lt_succ_self _) B W ap ac (hXj.kept hW) (by omega))
   have HIY:=zh (fun W (hW:Grew w W)=>ih yl (by omega) B W yp yc (hYj.kept hW) (by omega) (by omega))
   have HIE:=zh (fun W (hW:Grew w W)=>ih el (by omega) B W ep ec (hEj.kept hW) (by omega) (by omega))
   have HW1:=zh how
   have HHD:=zh hd
   have HTK:=zh htk
   have HZ:=zh hz
   have HGET:=zh hget
   have HGWL:=zh hgW
   have HWL:Hid (g < wr.heap.size):=zh (Nat.lt_of_lt_of_le hgW HC.out.size)
   clear hd hz hXj hYj hEj hns hns2 hms hms2 htk hget how hgW
   go_upto_region 6 with (go_at_call 120;(with_reducible refine(HIA.out _ HGw.out).mono ?_);rintro e_ X1 ⟨ap2,ac2,rfl,hx_,hg_⟩;have HX1:=zh hx_;have HQ1:=zh hg_;have z3:X1.cell? ⟨g,j * 7+3,none⟩=some (.slice ap ar.length ac):=Atv.kept (R:=Grew) c3 hg_;have zf1:=((HW1.out.kept hg_).free encSd (j * 7+3)).2;clear hx_ hg_)
   have hst:Chg X1 (X1.setCell ⟨g,j * 7+3,none⟩ (.slice ap2 ar.length ac2)) (fun k=>k=g):=Chg.set X1 ⟨g,j * 7+3,none⟩ (.slice ap2 ar.length ac2)
   have hsz:(X1.setCell ⟨g,j * 7+3,none⟩ (.slice ap2 ar.length ac2)).heap.size=X1.heap.size:=World.size_setCell _ _ _
   have how1:OwR (X1.setCell ⟨g,j * 7+3,none⟩ (.slice ap2 ar.length ac2)) w.heap.size 49 7 sdc (.slice (some ⟨g,0,none⟩) l.length c1) ((D++L.drop j).set j (⟨k,s,nn,ap2,ar.length,ac2,yp,yl.length,yc,ep,el.length,ec,q⟩:Sd)):=by
    have hl_:((D++L.drop j))[j]?=some (⟨k,s,nn,ap,ar.length,ac,yp,yl.length,yc,ep,el.length,ec,q⟩:Sd):=HGET.out
    obtain ⟨hi,he⟩:=List.getElem?_eq_some_iff.1 hl_
    have h1:=(HW1.out.kept HQ1.out).set1 encSd j 3 (⟨k,s,nn,ap2,ar.length,ac2,yp,yl.length,yc,ep,el.length,ec,q⟩:Sd) (.slice ap2 ar.length ac2) hi (by decide) (by rw [he];rfl)
    skip
    exact h1
   generalize hV:(X1.setCell ⟨g,j * 7+3,none⟩ (.slice ap2 ar.length ac2))=V1 at hst hsz how1 ⊢
   clear hV
   have HC1:Hid (Chg W1 V1 (fun k=>k=g)):=zh ((HC.out.trans (Chg.of_grew HQ1.out _)).trans hst)
   have HST1:=zh hst
   have HSZ1:=zh hsz
   have HGw1:Hid (Grew w V1):=zh (grew_lift HG1.out HC1.out (fun k hk=>by have h1:k=g:=hk;rw [h1];exact HGS.out))
   have HW2:=zh how1
   have c4:V1.cell? ⟨g,j * 7+4,none⟩=some (.slice yp yl.length yc):=by
    have h1:=(how1.rd encSd).2.cell (show ((D++L.drop j).set j (⟨k,s,nn,ap2,ar.length,ac2,yp,yl.length,yc,ep,el.length,ec,q⟩:Sd))[j]?=some (⟨k,s,nn,ap2,ar.length,ac2,yp,yl.length,yc,ep,el.length,ec,q⟩:Sd) from by rw [List.getElem?_set_self (by have h9:=(List.getElem?_eq_some_iff.1 HGET.out).1;exact h9)]) (j:=4) (v:=.slice yp yl.length yc) rfl
    rw [Nat.zero_add] at h1
    exact h1
   have hcp2:=HX1.out.xl.cap
   clear hst hsz how1
   go_upto_region 7 with (go_at_call 76;(with_reducible refine(HIY.out _ HGw1.out).mono ?_);rintro e_ X2 ⟨yp2,yc2,rfl,hx_,hg_⟩;have HX2:=zh hx_;have HQ2:=zh hg_;have z4:X2.cell? ⟨g,j * 7+4,none⟩=some (.slice yp yl.length yc):=Atv.kept (R:=Grew) c4 hg_;have zf2:=((HW2.out.kept hg_).free encSd (j * 7+4)).2;clear hx_ hg_)
   have hst:Chg X2 (X2.setCell ⟨g,j * 7+4,none⟩ (.slice yp2 yl.length yc2)) (fun k=>k=g):=Chg.set X2 ⟨g,j * 7+4,none⟩ (.slice yp2 yl.length yc2)
   have hsz:(X2.setCell ⟨g,j * 7+4,none⟩ (.slice yp2 yl.length yc2)).heap.size=X2.heap.size:=World.size_setCell _ _ _
   have how2:OwR (X2.setCell ⟨g,j * 7+4,none⟩ (.slice yp2 yl.length yc2)) w.heap.size 49 7 sdc (.slice (some ⟨g,0,none⟩) l.length c1) ((D++L.drop j).set j (⟨k,s,nn,ap2,ar.length,ac2,yp2,yl.length,yc2,ep,el.length,ec,q⟩:Sd)):=by
    have hl_:((D++L.drop j).set j (⟨k,s,nn,ap2,ar.length,ac2,yp,yl.length,yc,ep,el.length,ec,q⟩:Sd))[j]?=some (⟨k,s,nn,ap2,ar.length,ac2,yp,yl.length,yc,ep,el.length,ec,q⟩:Sd):=(by rw [List.getElem?_set_self (by have h9:=(List.getElem?_eq_some_iff.1 HGET.out).1;exact h9)])
    obtain ⟨hi,he⟩:=List.getElem?_eq_some_iff.1 hl_
    have h1:=(HW2.out.kept HQ2.out).set1 encSd j 4 (⟨k,s,nn,ap2,ar.length,ac2,yp2,yl.length,yc2,ep,el.length,ec,q⟩:Sd) (.slice yp2 yl.length yc2) hi (by decide) (by rw [he];rfl)
    rw [List.set_set] at h1
    exact h1
   generalize hV:(X2.setCell ⟨g,j * 7+4,none⟩ (.slice yp2 yl.length yc2))=V2 at hst hsz how2 ⊢
   clear hV
   have HC2:Hid (Chg W1 V2 (fun k=>k=g)):=zh ((HC1.out.trans (Chg.of_grew HQ2.out _)).trans hst)
   have HST2:=zh hst
   have HSZ2:=zh hsz
   have HGw2:Hid (Grew w V2):=zh (grew_lift HG1.out HC2.out (fun k hk=>by have h1:k=g:=hk;rw [h1];exact HGS.out))
   have HW3:=zh how2
   have c5:V2.cell? ⟨g,j * 7+5,none⟩=some (.slice ep el.length ec):=by
    have h1:=(how2.rd encSd).2.cell (show ((D++L.drop j).set j (⟨k,s,nn,ap2,ar.length,ac2,yp2,yl.length,yc2,ep,el.length,ec,q⟩:Sd))[j]?=some (⟨k,s,nn,ap2,ar.length,ac2,yp2,yl.length,yc2,ep,el.length,ec,q⟩:Sd) from by rw [List.getElem?_set_self (by have h9:=(List.getElem?_eq_some_iff.1 HGET.out).1;exact h9)]) (j:=5) (v:=.slice ep el.length ec) rfl
    rw [Nat.zero_add] at h1
    exact h1
   clear hst hsz how2
   go_upto_region 8 with (go_at_call 76;(with_reducible refine(HIE.out _ HGw2.out).mono ?_);rintro e_ X3 ⟨ep2,ec2,rfl,hx_,hg_⟩;have HX3:=zh hx_;have HQ3:=zh hg_;have z5:X3.cell? ⟨g,j * 7+5,none⟩=some (.slice ep el.length ec):=Atv.kept (R:=Grew) c5 hg_;have zf3:=((HW3.out.kept hg_).free encSd (j * 7+5)).2;clear hx_ hg_)
   have hst:Chg X3 (X3.setCell ⟨g,j * 7+5,none⟩ (.slice ep2 el.length ec2)) (fun k=>k=g):=Chg.set X3 ⟨g,j * 7+5,none⟩ (.slice ep2 el.length ec2)
   have hsz:(X3.setCell ⟨g,j * 7+5,none⟩ (.slice ep2 el.length ec2)).heap.size=X3.heap.size:=World.size_setCell _ _ _
   have how3:OwR (X3.setCell ⟨g,j * 7+5,none⟩ (.slice ep2 el.length ec2)) w.heap.size 49 7 sdc (.slice (some ⟨g,0,none⟩) l.length c1) ((D++L.drop j).set j (⟨k,s,nn,ap2,ar.length,ac2,yp2,yl.length,yc2,ep2,el.length,ec2,q⟩:Sd)):=by
    have hl_:((D++L.drop j).set j (⟨k,s,nn,ap2,ar.length,ac2,yp2,yl.length,yc2,ep,el.length,ec,q⟩:Sd))[j]?=some (⟨k,s,nn,ap2,ar.length,ac2,yp2,yl.length,yc2,ep,el.length,ec,q⟩:Sd):=(by rw [List.getElem?_set_self (by have h9:=(List.getElem?_eq_some_iff.1 HGET.out).1;exact h9)])
    obtain ⟨hi,he⟩:=List.getElem?_eq_some_iff.1 hl_
    have h1:=(HW3.out.kept HQ3.out).set1 encSd j 5 (⟨k,s,nn,ap2,ar.length,ac2,yp2,yl.length,yc2,ep2,el.length,ec2,q⟩:Sd) (.slice ep2 el.length ec2) hi (by decide) (by rw [he];rfl)
    rw [List.set_set] at h1
    exact h1
   generalize hV:(X3.setCell ⟨g,j * 7+5,none⟩ (.slice ep2 el.length ec2))=V3 at hst hsz how3 ⊢
   clear hV
   have HC3:Hid (Chg W1 V3 (fun k=>k=g)):=zh ((HC2.out.trans (Chg.of_grew HQ3.out _)).trans hst)
   have HOW3:Hid (OwR V3 w.heap.size 49 7 sdc (.slice (some ⟨g,0,none⟩) l.length c1) ((D++[(⟨k,s,nn,ap2,ar.length,ac2,yp2,yl.length,yc2,ep2,el.length,ec2,q⟩:Sd)])++L.drop (j+1))):=zh (by
    rw [← dropset HD.out HHD.out]
    exact how3)
   have HOS3:Hid (OSs V3 (l.take (j+1)) (g+1) V3.heap.size (D++[(⟨k,s,nn,ap2,ar.length,ac2,yp2,yl.length,yc2,ep2,el.length,ec2,q⟩:Sd)])):=zh (by
    have hs1:=HQ1.out.sz
    have hs2:=HQ2.out.sz
    have hs3:=HQ3.out.sz
    have e1:=HSZ1.out
    have e2:=HSZ2.out
    have hwl:=HWL.out
    rw [HTK.out,hsz]
    have ne:∀(a b:Nat),g < a→∀i,a≤i→i < b→¬ (i=g):=fun a b h i h1 _ h2=>by omega
    have nf:∀(a b:Nat) i,a≤i→i < b→¬ False:=fun _ _ _ _ _ h=>h
    have t1:=OSs_chg hst (OSs_chg (Chg.of_grew HQ3.out (fun _=>False)) (OSs_chg HST2.out (OSs_chg (Chg.of_grew HQ2.out (fun _=>False)) (OSs_chg HST1.out (OSs_chg (Chg.of_grew HQ1.out (fun _=>False)) HXS.out (fun _ _ _ h=>h)) (ne _ _ (by omega))) (fun _ _ _ h=>h)) (ne _ _ (by omega))) (fun _ _ _ h=>h)) (ne _ _ (by omega))
    have t2:=((((HX1.out.chg HST1.out (ne _ _ hwl)).kept HQ2.out).chg HST2.out (ne _ _ hwl)).kept HQ3.out).chg hst (ne _ _ hwl)
    have t3:=((HX2.out.chg HST2.out (ne _ _ (by omega))).kept HQ3.out).chg hst (ne _ _ (by omega))
    have t4:=HX3.out.chg hst (ne _ _ (by omega))
    rw [e1] at t3
    rw [e2] at t4
    exact OSs_snoc t1 hwl (by omega) (OSp_iff.2 ⟨ap2,ac2,yp2,yc2,ep2,ec2,X1.heap.size,X2.heap.size,rfl,HZ.out,by omega,by omega,by omega,t2,t3,t4⟩))
   clear hst hsz how3
   go_wp2
   go_roundg (l.length - (j+1))
   case measure=>have:=HLT.out;omega
   case rel=>exact⟨j+1,D++[(⟨k,s,nn,ap2,ar.length,ac2,yp2,yl.length,yc2,ep2,el.length,ec2,q⟩:Sd)],by go_num,HLT.out,rfl,zh (by rw [List.length_append,HD.out];rfl),zh (fun _=>HOW3.out),HOS3,HC3⟩
  ·obtain rfl:j=l.length:=by omega
   have HFIN:Hid (OS wr w.heap.size wr.heap.size p1 c1 l):=zh (by
    have hdl:L.drop l.length=[]:=List.drop_eq_nil_of_le (by rw [HLl.out];exact Nat.le_refl _)
    have hxs:=HXS.out
    rw [List.take_length] at hxs
    refine⟨g,D,HD.out,⟨?_,fun hn=>?_⟩,hxs⟩
    ·by_cases hn:0 < l.length
     ·have h1:=HOW.out hn
      rw [hdl,List.append_nil] at h1
      exact(h1.rd encSd).2
     ·obtain rfl:D=[]:=List.eq_nil_of_length_eq_zero (by rw [HD.out];omega)
      have h1:=HF1.out.1
      exact⟨RdL.nil _ _ _ _ _ h1.max,h1.bare⟩
    ·have hn2:0 < l.length:=by rw [HD.out] at hn;exact hn
     have h1:=HOW.out hn2
     rw [hdl,List.append_nil] at h1
     obtain ⟨hp1,hgW⟩:=HGP.out hn2
     exact⟨HGS.out,Nat.lt_of_lt_of_le hgW HC.out.size,hp1,by rw [HD.out];exact h1⟩)
   go_wp2
   go_ret
   exact⟨p1,c1,rfl,HFIN.out,HGw.out⟩
theorem OXs_cons {w:World}{x:Xp}{xs:List Xp}{a b:Nat}{L:List Xd}(h:OXs w (x :: xs) a b L):∃d L' m,L=d :: L'∧a≤m∧m≤b∧OXp w x a m d∧OXs w xs m b L':=by
 rw [OXs] at h
 exact h
set_option maxHeartbeats 8000000 in
theorem sX_any:∀(n:Nat) (l:List Xp),nXs l < n→∀(a b:Nat) (w:World) (p:Option Addr) (c:Nat),OX w a b p c l →
 Calls Tryz.prog 131 #[.slice p l.length c] w fun e w'=>e=.returned (.tuple #[])∧OX w' a b p c (stXs l)∧Chg w w' (fun k=>a≤k∧k < b):=by
 intro n
 induction n with
 | zero=>intro _ h;exact absurd h (Nat.not_lt_zero _)
 | succ n ih =>
 intro l hln a b w p c hx
 have hcap:l.length≤c:=hx.xl.cap.1
 have hmax:=hx.xl.cap.2.1
 obtain ⟨g,L,hL,hrow,hxs⟩:=hx
 have HLl:=zh hL
 have HROW:=zh hrow
 have HXS0:=zh hxs
 clear hL hrow hxs
 go_enter Tryz.func131,Tryz.ntmps131
 go_wp2
 go_loopg [2,5] l.length (fun gg v2_ iv wr=>∃(j m:Nat) (D:List Xd),iv=.int .i64 (j:Int)∧j≤l.length∧gg=l.length - j∧Hid (D.length=j∧g+1≤m∧(0 < l.length→m≤b))∧Hid (0 < l.length→OwR wr a 35 6 xdc (.slice p l.length c) (D++L.drop j))∧Hid (OXs wr (stXs (l.take j)) (g+1) m D)∧Hid (OXs wr (l.drop j) m b (L.drop j))∧Hid (Chg w wr (fun k=>a≤k∧k < b)))
 case atStart=>exact⟨0,g+1,[],rfl,Nat.zero_le _,rfl,zh ⟨rfl,Nat.le_refl _,fun hn=>by have h1:=(HROW.out.2 (by have:=HLl.out;omega)).2.1;omega⟩,zh (fun hn=>by have h1:=(HROW.out.2 (by have:=HLl.out;omega)).2.2.2;rw [HLl.out] at h1;exact h1),zh (by rw [List.take_zero,stXs,OXs]),zh HXS0.out,zh (Chg.refl _ _)⟩
 case round =>
  obtain ⟨j,m,D,rfl,hj,rfl,HD,HOW,HXS,HXR,HC⟩:=hrel
  by_cases hlt:j < l.length
  ·have hn0:0 < l.length:=by omega
   have hrow:=HROW.out.2 (by have:=HLl.out;omega)
   obtain ⟨hag,hgb,hp1,_⟩:=hrow
   subst hp1
   have how:=HOW.out hn0
   have hjL:j < L.length:=by have:=HLl.out;omega
   have hxr:=HXR.out
   rw [List.drop_eq_getElem_cons hlt,List.drop_eq_getElem_cons hjL] at hxr
   obtain ⟨d,L',m',hdl,hm1,hm2,hxd,hxr2⟩:=OXs_cons hxr
   obtain ⟨he1,he2⟩:=List.cons.inj hdl
   rw [← he2] at hxr2
   have hd:L[j]?=some d:=by rw [List.getElem?_eq_getElem hjL,he1]
   rw [OXp_iff] at hxd
   obtain ⟨pj,cj,rfl,hz,hXj⟩:=hxd
   have hnx:=nXs_mem (List.getElem_mem hlt)
   have htk:=List.take_succ_eq_append_getElem hlt
   have HLT:=zh (Nat.succ_le_of_lt hlt)
   have hget:=dropget HD.out.1 hd
   clear hxr hdl he1 he2
   generalize l[j]=x at hd hz hXj hnx htk hget
   obtain ⟨k,s,v,o,ar,q⟩:=x
   replace hXj:OX wr m m' pj cj ar:=hXj
   replace hz:s.size≤1048576∧v≤32767:=hz
   have hnx2:nXs ar+1≤nXs l:=hnx
   have hcapj:ar.length≤cj:=hXj.xl.cap.1
   have hmaxj:=hXj.xl.cap.2.1
   have c5:wr.cell? ⟨g,j * 6+5,none⟩=some (.int .i64 q):=by
    have h1:=(how.rd encXd).2.cell hget (j:=5) (v:=.int .i64 q) rfl
    rw [Nat.zero_add] at h1
    exact h1
   have f5:=(how.free encXd (j * 6+5)).2
   have hst:Chg wr (wr.setCell ⟨g,j * 6+5,none⟩ (.int .i64 0)) (fun k=>k=g):=Chg.set wr ⟨g,j * 6+5,none⟩ (.int .i64 0)
   have how1:OwR (wr.setCell ⟨g,j * 6+5,none⟩ (.int .i64 0)) a 35 6 xdc (.slice (some ⟨g,0,none⟩) l.length c) ((D++[⟨k,s,v,o,pj,ar.length,cj,0⟩])++L.drop (j+1)):=by
    obtain ⟨hi,he⟩:=List.getElem?_eq_some_iff.1 hget
    have h1:=how.set1 encXd j 5 (⟨k,s,v,o,pj,ar.length,cj,0⟩:Xd) (.int .i64 0) hi (by decide) (by rw [he];rfl)
    rw [dropset HD.out.1 hd] at h1
    exact h1
   have hXj1:=hXj.chg hst (fun i h1 _ h2=>by have h3:i=g:=h2;have:=HD.out.2.1;omega)
   have c4:(wr.setCell ⟨g,j * 6+5,none⟩ (.int .i64 0)).cell? ⟨g,j * 6+4,none⟩=some (.slice pj ar.length cj):=by
    have hg1:((D++[⟨k,s,v,o,pj,ar.length,cj,0⟩])++L.drop (j+1))[j]?=some (⟨k,s,v,o,pj,ar.length,cj,0⟩:Xd):=by
     rw [List.append_assoc,List.getElem?_append_right (by have:=HD.out.1;omega),HD.out.1,Nat.sub_self]
     rfl
    have h1:=(how1.rd encXd).2.cell hg1 (j:=4) (v:=.slice pj ar.length cj) rfl
    rw [Nat.zero_add] at h1
    exact h1
   have HIH:=zh (ih ar (by omega) m m' (wr.setCell ⟨g,j * 6+5,none⟩ (.int .i64 0)) pj cj hXj1)
   have HST:=zh hst
   have HW1:=zh how1
   have HXR2:=zh hxr2
   have HTK:=zh htk
   have HZ:=zh hz
   have HMM:=zh (And.intro hm1 (And.intro hm2 (And.intro hag hgb)))
   clear hd hz hXj hXj1 hnx hnx2 htk hget how how1 hst hxr2 hm1 hm2 hag hgb
   go_wp2_with (go_at_call 131;(with_reducible refine HIH.out.mono ?_);rintro e_ W2 ⟨rfl,hx2,hc2⟩;have HX2:=zh hx2;have HC2:=zh hc2;clear hx2 hc2)
   have HFIN:Hid (OwR W2 a 35 6 xdc (.slice (some ⟨g,0,none⟩) l.length c) ((D++[⟨k,s,v,o,pj,ar.length,cj,0⟩])++L.drop (j+1))∧OXs W2 (stXs (l.take (j+1))) (g+1) m' (D++[⟨k,s,v,o,pj,ar.length,cj,0⟩])∧OXs W2 (l.drop (j+1)) m' b (L.drop (j+1))∧Chg w W2 (fun k=>a≤k∧k < b)):=zh (by
    obtain ⟨h1,h2,h3,h4⟩:=HMM.out
    have h5:=HD.out.2.1
    refine⟨HW1.out.chg HC2.out (fun ad ha hk=>by obtain rfl:=Option.some.inj ha;have hk2:m≤g∧g < m':=hk;omega),?_,?_,?_⟩
    ·rw [stXs_snoc HTK.out]
     have t1:=OXs_chg HC2.out (OXs_chg HST.out HXS.out (fun i a1 _ a2=>by have a3:i=g:=a2;omega)) (fun i a1 a2 a3=>by have a4:m≤i∧i < m':=a3;omega)
     refine OXs_snoc t1 h5 h1 (OXp_iff.2 ⟨pj,cj,?_,?_,?_⟩)
     ·rw [stX]
      show _=(⟨k,s,v,o,pj,(stXs ar).length,cj,0⟩:Xd)
      rw [stXs_len]
     ·rw [stX]
      exact HZ.out
     ·rw [stX]
      exact HX2.out
    ·exact OXs_chg HC2.out (OXs_chg HST.out HXR2.out (fun i a1 _ a2=>by have a3:i=g:=a2;omega)) (fun i a1 a2 a3=>by have a4:m≤i∧i < m':=a3;omega)
    ·exact(HC.out.trans (HST.out.mono (fun i hi=>by have a3:i=g:=hi;omega))).trans (HC2.out.mono (fun i hi=>by omega)))
   go_roundg (l.length - (j+1))
   case measure=>have:=HLT.out;omega
   case rel=>exact⟨j+1,m',D++[⟨k,s,v,o,pj,ar.length,cj,0⟩],by go_num,HLT.out,rfl,zh ⟨by rw [List.length_append,HD.out.1];rfl,by have:=HMM.out.1;have:=HD.out.2.1;omega,fun _=>HMM.out.2.1⟩,zh (fun _=>HFIN.out.1),zh HFIN.out.2.1,zh HFIN.out.2.2.1,zh HFIN.out.2.2.2⟩
  ·obtain rfl:j=l.length:=by omega
   have HFIN:Hid (OX wr a b p c (stXs l)):=zh (by
    have hdl:L.drop l.length=[]:=List.drop_eq_nil_of_le (by rw [HLl.out];exact Nat.le_refl _)
    have hxs:=HXS.out
    rw [List.take_length] at hxs
    have hr:=HROW.out
    by_cases hn:0 < l.length
    ·have h1:=HOW.out hn
     rw [hdl,List.append_nil] at h1
     obtain ⟨a1,a2,a3,_⟩:=hr.2 (by have:=HLl.out;omega)
     refine⟨g,D,by rw [HD.out.1,stXs_len],⟨(h1.rd encXd).2,fun _=>⟨a1,a2,a3,by rw [HD.out.1];exact h1⟩⟩,?_⟩
     exact OXs_wide hxs (HD.out.2.2 hn)
    ·obtain rfl:l=[]:=List.eq_nil_of_length_eq_zero (by omega)
     obtain rfl:D=[]:=List.eq_nil_of_length_eq_zero (by rw [HD.out.1];rfl)
     exact⟨g,[],by rw [stXs];rfl,⟨⟨RdL.nil _ _ _ _ _ hr.1.max,hr.1.bare⟩,fun h=>absurd h (by simp)⟩,by rw [stXs,OXs]⟩)
   go_wp2
   go_end0
   exact⟨rfl,HFIN.out,HC.out⟩
theorem OSs_cons {w:World}{x:Sm}{xs:List Sm}{a b:Nat}{L:List Sd}(h:OSs w (x :: xs) a b L):∃d L' m,L=d :: L'∧a≤m∧m≤b∧OSp w x a m d∧OSs w xs m b L':=by
 rw [OSs] at h
 exact h
theorem OSs_wide {w:World}:∀{xs:List Sm}{a b b':Nat}{L:List Sd},OSs w xs a b L→b≤b'→OSs w xs a b' L
 | [],_,_,_,_,h,_=>by rw [OSs] at h ⊢;exact h
 | x :: xs,a,b,b',_,h,hb=>by
   rw [OSs] at h ⊢
   obtain ⟨d,L',m,h1,h2,h3,h4,h5⟩:=h
   exact⟨d,L',m,h1,h2,by omega,h4,OSs_wide h5 hb⟩
set_option maxHeartbeats 16000000 in
theorem sS_any:∀(n:Nat) (l:List Sm),nSs l < n→∀(a b:Nat) (w:World) (p:Option Addr) (c:Nat),OS w a b p c l →
 Calls Tryz.prog 91 #[.slice p l.length c] w fun e w'=>e=.returned (.tuple #[])∧OS w' a b p c (stSs l)∧Chg w w' (fun k=>a≤k∧k < b):=by
 intro n
 induction n with
 | zero=>intro _ h;exact absurd h (Nat.not_lt_zero _)
 | succ n ih =>
 intro l hln a b w p c hx
 have hcap:l.length≤c:=hx.sl.cap.1
 have hmax:=hx.sl.cap.2.1
 obtain ⟨g,L,hL,hrow,hxs⟩:=hx
 have HLl:=zh hL
 have HROW:=zh hrow
 have HXS0:=zh hxs
 clear hL hrow hxs
 go_enter Tryz.func91,Tryz.ntmps91
 go_wp2
 go_loopg [2,5] l.length (fun gg v2_ iv wr=>∃(j m:Nat) (D:List Sd),iv=.int .i64 (j:Int)∧j≤l.length∧gg=l.length - j∧Hid (D.length=j∧g+1≤m∧(0 < l.length→m≤b))∧Hid (0 < l.length→OwR wr a 49 7 sdc (.slice p l.length c) (D++L.drop j))∧Hid (OSs wr (stSs (l.take j)) (g+1) m D)∧Hid (OSs wr (l.drop j) m b (L.drop j))∧Hid (Chg w wr (fun k=>a≤k∧k < b)))
 case atStart=>exact⟨0,g+1,[],rfl,Nat.zero_le _,rfl,zh ⟨rfl,Nat.le_refl _,fun hn=>by have h1:=(HROW.out.2 (by have:=HLl.out;omega)).2.1;omega⟩,zh (fun hn=>by have h1:=(HROW.out.2 (by have:=HLl.out;omega)).2.2.2;rw [HLl.out] at h1;exact h1),zh (by rw [List.take_zero,stSs,OSs]),zh HXS0.out,zh (Chg.refl _ _)⟩
 case round =>
  obtain ⟨j,m,D,rfl,hj,rfl,HD,HOW,HXS,HXR,HC⟩:=hrel
  by_cases hlt:j < l.length
  ·have hn0:0 < l.length:=by omega
   have hrow:=HROW.out.2 (by have:=HLl.out;omega)
   obtain ⟨hag,hgb,hp1,_⟩:=hrow
   subst hp1
   have how:=HOW.out hn0
   have hjL:j < L.length:=by have:=HLl.out;omega
   have hxr:=HXR.out
   rw [List.drop_eq_getElem_cons hlt,List.drop_eq_getElem_cons hjL] at hxr
   obtain ⟨d,L',m',hdl,hm1,hm2,hxd,hxr2⟩:=OSs_cons hxr
   obtain ⟨he1,he2⟩:=List.cons.inj hdl
   rw [← he2] at hxr2
   have hd:L[j]?=some d:=by rw [List.getElem?_eq_getElem hjL,he1]
   rw [OSp_iff] at hxd
   obtain ⟨ap,ac,yp,yc,ep,ec,n1,n2,rfl,hz,hq1,hq2,hq3,hXj,hYj,hEj⟩:=hxd
   have hns:=nSs_mem (List.getElem_mem hlt)
   have htk:=List.take_succ_eq_append_getElem hlt
   have HLT:=zh (Nat.succ_le_of_lt hlt)
   have hget:=dropget HD.out.1 hd
   clear hxr hdl he1 he2
   generalize l[j]=x at hd hz hXj hYj hEj hns htk hget
   obtain ⟨k,s,nn,ar,yl,el,q⟩:=x
   replace hXj:OX wr m n1 ap ac ar:=hXj
   replace hYj:OS wr n1 n2 yp yc yl:=hYj
   replace hEj:OS wr n2 m' ep ec el:=hEj
   replace hz:s.size≤1048576:=hz
   have hns2:nSs yl+nSs el+1≤nSs l:=hns
   have hcapj:ar.length≤ac∧yl.length≤yc∧el.length≤ec:=⟨hXj.xl.cap.1,hYj.sl.cap.1,hEj.sl.cap.1⟩
   have hmaxj:=And.intro hXj.xl.cap.2.1 (And.intro hYj.sl.cap.2.1 hEj.sl.cap.2.1)
   have c6:wr.cell? ⟨g,j * 7+6,none⟩=some (.int .i64 q):=by
    have h1:=(how.rd encSd).2.cell hget (j:=6) (v:=.int .i64 q) rfl
    rw [Nat.zero_add] at h1
    exact h1
   have f6:=(how.free encSd (j * 7+6)).2
   have HMM:=zh (And.intro hm1 (And.intro hm2 (And.intro hag (And.intro hgb (And.intro hq1 (And.intro hq2 hq3))))))
   have HGM:Hid (g+1≤m):=zh HD.out.2.1
   have HXR2:=zh hxr2
   have HTK:=zh htk
   have HZ:=zh hz
   have HNN:=zh (And.intro hns2 hln)
   have HSLT:Hid ((D++L.drop j).set j (⟨k,s,nn,ap,ar.length,ac,yp,yl.length,yc,ep,el.length,ec,0⟩:Sd)=(D++[(⟨k,s,nn,ap,ar.length,ac,yp,yl.length,yc,ep,el.length,ec,0⟩:Sd)])++L.drop (j+1)):=zh (dropset HD.out.1 hd)
   have HGT:Hid (((D++[(⟨k,s,nn,ap,ar.length,ac,yp,yl.length,yc,ep,el.length,ec,0⟩:Sd)])++L.drop (j+1))[j]?=some (⟨k,s,nn,ap,ar.length,ac,yp,yl.length,yc,ep,el.length,ec,0⟩:Sd)):=zh (by
    rw [List.append_assoc,List.getElem?_append_right (by have:=HD.out.1;omega),HD.out.1,Nat.sub_self]
    rfl)
   go_upto_region 4 with fail
   have hst:Chg wr (wr.setCell ⟨g,j * 7+6,none⟩ (.int .i64 0)) (fun k=>k=g):=Chg.set wr ⟨g,j * 7+6,none⟩ (.int .i64 0)
   have how1:OwR (wr.setCell ⟨g,j * 7+6,none⟩ (.int .i64 0)) a 49 7 sdc (.slice (some ⟨g,0,none⟩) l.length c) ((D++[(⟨k,s,nn,ap,ar.length,ac,yp,yl.length,yc,ep,el.length,ec,0⟩:Sd)])++L.drop (j+1)):=by
    obtain ⟨hi,he⟩:=List.getElem?_eq_some_iff.1 hget
    have h1:=how.set1 encSd j 6 (⟨k,s,nn,ap,ar.length,ac,yp,yl.length,yc,ep,el.length,ec,0⟩:Sd) (.int .i64 0) hi (by decide) (by rw [he];rfl)
    rw [HSLT.out] at h1
    exact h1
   generalize (wr.setCell ⟨g,j * 7+6,none⟩ (.int .i64 0))=V1 at hst how1 ⊢
   have ng:∀(lo hi:Nat),g+1≤lo→∀i,lo≤i→i < hi→¬ (i=g):=fun lo hi h i h1 _ h2=>by omega
   have HXj:=zh (hXj.chg hst (ng _ _ (by have h1_:=HGM.out;have h2_:=HMM.out;omega)))
   have HYj:=zh (hYj.chg hst (ng _ _ (by have h1_:=HGM.out;have h2_:=HMM.out;omega)))
   have HEj:=zh (hEj.chg hst (ng _ _ (by have h1_:=HGM.out;have h2_:=HMM.out;omega)))
   have HST:=zh hst
   have HW1:=zh how1
   clear hd hz hXj hYj hEj hns hns2 htk hget how how1 hst hxr2 hm1 hm2 hag hgb hq1 hq2 hq3 c6 f6 ng
   have c3:V1.cell? ⟨g,j * 7+3,none⟩=some (.slice ap ar.length ac):=by
    have h1:=((HW1.out).rd encSd).2.cell HGT.out (j:=3) (v:=.slice ap ar.length ac) rfl
    rw [Nat.zero_add] at h1
    exact h1
   have HIA:=zh (sX_any _ ar (Nat.lt_succ_self _) m n1 V1 ap ac HXj.out)
   go_upto_region 5 with (go_at_call 131;(with_reducible refine HIA.out.mono ?_);rintro e_ W2 ⟨rfl,hx_,hc_⟩;have HX2:=zh hx_;have HC2:=zh hc_;clear hx_ hc_)
   have HW2:Hid (OwR W2 a 49 7 sdc (.slice (some ⟨g,0,none⟩) l.length c) ((D++[(⟨k,s,nn,ap,ar.length,ac,yp,yl.length,yc,ep,el.length,ec,0⟩:Sd)])++L.drop (j+1))):=zh (HW1.out.chg HC2.out (fun ad ha hk=>by obtain rfl:=Option.some.inj ha;have hk2:m≤g∧g < n1:=hk;have:=HGM.out;omega))
   have HY2:=zh (HYj.out.chg HC2.out (fun i a1 a2 a3=>by have a4:m≤i∧i < n1:=a3;omega))
   have HE2:=zh (HEj.out.chg HC2.out (fun i a1 a2 a3=>by have a4:m≤i∧i < n1:=a3;have:=HMM.out;omega))
   have c4:W2.cell? ⟨g,j * 7+4,none⟩=some (.slice yp yl.length yc):=by
    have h1:=((HW2.out).rd encSd).2.cell HGT.out (j:=4) (v:=.slice yp yl.length yc) rfl
    rw [Nat.zero_add] at h1
    exact h1
   have HIY:=zh (ih yl (by have:=HNN.out;omega) n1 n2 W2 yp yc HY2.out)
   go_upto_region 6 with (go_at_call 91;(with_reducible refine HIY.out.mono ?_);rintro e_ W3 ⟨rfl,hx_,hc_⟩;have HX3:=zh hx_;have HC3:=zh hc_;clear hx_ hc_)
   have HW3:Hid (OwR W3 a 49 7 sdc (.slice (some ⟨g,0,none⟩) l.length c) ((D++[(⟨k,s,nn,ap,ar.length,ac,yp,yl.length,yc,ep,el.length,ec,0⟩:Sd)])++L.drop (j+1))):=zh (HW2.out.chg HC3.out (fun ad ha hk=>by obtain rfl:=Option.some.inj ha;have hk2:n1≤g∧g < n2:=hk;have:=HGM.out;have:=HMM.out;omega))
   have HE3:=zh (HE2.out.chg HC3.out (fun i a1 a2 a3=>by have a4:n1≤i∧i < n2:=a3;omega))
   have c5:W3.cell? ⟨g,j * 7+5,none⟩=some (.slice ep el.length ec):=by
    have h1:=((HW3.out).rd encSd).2.cell HGT.out (j:=5) (v:=.slice ep el.length ec) rfl
    rw [Nat.zero_add] at h1
    exact h1
   have HIE:=zh (ih el (by have:=HNN.out;omega) n2 m' W3 ep ec HE3.out)
   go_upto_region 7 with (go_at_call 91;(with_reducible refine HIE.out.mono ?_);rintro e_ W4 ⟨rfl,hx_,hc_⟩;have HX4:=zh hx_;have HC4:=zh hc_;clear hx_ hc_)
   have HALL:Hid (Chg V1 W4 (fun k=>m≤k∧k < m')):=zh (((HC2.out.mono (fun i hi=>by have h1:m≤i∧i < n1:=hi;have:=HMM.out;exact⟨h1.1,by omega⟩)).trans (HC3.out.mono (fun i hi=>by have h1:n1≤i∧i < n2:=hi;have:=HMM.out;exact⟨by omega,by omega⟩))).trans (HC4.out.mono (fun i hi=>by have h1:n2≤i∧i < m':=hi;have:=HMM.out;exact⟨by omega,h1.2⟩)))
   have HFIN:Hid (OwR W4 a 49 7 sdc (.slice (some ⟨g,0,none⟩) l.length c) ((D++[(⟨k,s,nn,ap,ar.length,ac,yp,yl.length,yc,ep,el.length,ec,0⟩:Sd)])++L.drop (j+1))∧OSs W4 (stSs (l.take (j+1))) (g+1) m' (D++[(⟨k,s,nn,ap,ar.length,ac,yp,yl.length,yc,ep,el.length,ec,0⟩:Sd)])∧OSs W4 (l.drop (j+1)) m' b (L.drop (j+1))∧Chg w W4 (fun k=>a≤k∧k < b)):=zh (by
    obtain ⟨h1,h2,h3,h4,h6,h7,h8⟩:=HMM.out
    have h5:=HGM.out
    refine⟨HW1.out.chg HALL.out (fun ad ha hk=>by obtain rfl:=Option.some.inj ha;have hk2:m≤g∧g < m':=hk;omega),?_,?_,?_⟩
    ·rw [stSs_snoc HTK.out]
     have t1:=OSs_chg HALL.out (OSs_chg HST.out HXS.out (fun i a1 _ a2=>by have a3:i=g:=a2;omega)) (fun i a1 a2 a3=>by have a4:m≤i∧i < m':=a3;omega)
     have t2:=(HX2.out.chg HC3.out (fun i a1 a2 a3=>by have a4:n1≤i∧i < n2:=a3;omega)).chg HC4.out (fun i a1 a2 a3=>by have a4:n2≤i∧i < m':=a3;omega)
     have t3:=HX3.out.chg HC4.out (fun i a1 a2 a3=>by have a4:n2≤i∧i < m':=a3;omega)
     refine OSs_snoc t1 h5 h1 (OSp_iff.2 ⟨ap,ac,yp,yc,ep,ec,n1,n2,?_,?_,h6,h7,h8,?_,?_,?_⟩)
     ·rw [stS]
      show _=(⟨k,s,nn,ap,(stXs ar).length,ac,yp,(stSs yl).length,yc,ep,(stSs el).length,ec,0⟩:Sd)
      rw [stXs_len,stSs_len,stSs_len]
     ·rw [stS]
      exact HZ.out
     ·rw [stS]
      exact t2
     ·rw [stS]
      exact t3
     ·rw [stS]
      exact HX4.out
    ·exact OSs_chg HALL.out (OSs_chg HST.out HXR2.out (fun i a1 _ a2=>by have a3:i=g:=a2;omega)) (fun i a1 a2 a3=>by have a4:m≤i∧i < m':=a3;omega)
    ·exact(HC.out.trans (HST.out.mono (fun i hi=>by have a3:i=g:=hi;omega))).trans (HALL.out.mono (fun i hi=>by have a4:m≤i∧i < m':=hi;omega)))
   go_wp2
   go_roundg (l.length - (j+1))
   case measure=>have:=HLT.out;omega
   case rel=>exact⟨j+1,m',D++[(⟨k,s,nn,ap,ar.length,ac,yp,yl.length,yc,ep,el.length,ec,0⟩:Sd)],by go_num,HLT.out,rfl,zh ⟨by rw [List.length_append,HD.out.1];rfl,by have:=HMM.out.1;have:=HGM.out;omega,fun _=>HMM.out.2.1⟩,zh (fun _=>HFIN.out.1),zh HFIN.out.2.1,zh HFIN.out.2.2.1,zh HFIN.out.2.2.2⟩
  ·obtain rfl:j=l.length:=by omega
   have HFIN:Hid (OS wr a b p c (stSs l)):=zh (by
    have hdl:L.drop l.length=[]:=List.drop_eq_nil_of_le (by rw [HLl.out];exact Nat.le_refl _)
    have hxs:=HXS.out
    rw [List.take_length] at hxs
    have hr:=HROW.out
    by_cases hn:0 < l.length
    ·have h1:=HOW.out hn
     rw [hdl,List.append_nil] at h1
     obtain ⟨a1,a2,a3,_⟩:=hr.2 (by have:=HLl.out;omega)
     refine⟨g,D,by rw [HD.out.1,stSs_len],⟨(h1.rd encSd).2,fun _=>⟨a1,a2,a3,by rw [HD.out.1];exact h1⟩⟩,?_⟩
     exact OSs_wide hxs (HD.out.2.2 hn)
    ·obtain rfl:l=[]:=List.eq_nil_of_length_eq_zero (by omega)
     obtain rfl:D=[]:=List.eq_nil_of_length_eq_zero (by rw [HD.out.1];rfl)
     exact⟨g,[],by rw [stSs];rfl,⟨⟨RdL.nil _ _ _ _ _ hr.1.max,hr.1.bare⟩,fun h=>absurd h (by simp)⟩,by rw [stSs,OSs]⟩)
   go_wp2
   go_end0
   exact⟨rfl,HFIN.out,HC.out⟩
section
variable {dst:Option Tmp}{ty:TypeId}{pos:String}{after:Array Edge}{g:Option (Nat × Bool)}{a:Act}{w:World}{T:Value→World→Prop}
theorem rc_bld_28_012345 {x0 x1 x2 x3 x4 x5:Nat}{v0_0p:Option Addr}{v0_0n v0_0c:Nat}{v1_0p:Option Addr}{v1_0n v1_0c:Nat}{v2_0p:Option Addr}{v2_0n v2_0c:Nat}{v3_0p:Option Addr}{v3_0n v3_0c:Nat}{v4_0p:Option Addr}{v4_0n v4_0c:Nat}{v5_0p:Option Addr}{v5_0n v5_0c:Nat}(hx0:a.eval (.tmp x0)=.slice v0_0p v0_0n v0_0c) (hx1:a.eval (.tmp x1)=.slice v1_0p v1_0n v1_0c) (hx2:a.eval (.tmp x2)=.slice v2_0p v2_0n v2_0c) (hx3:a.eval (.tmp x3)=.slice v3_0p v3_0n v3_0c) (hx4:a.eval (.tmp x4)=.slice v4_0p v4_0n v4_0c) (hx5:a.eval (.tmp x5)=.slice v5_0p v5_0n v5_0c) (h:T (.agg #[.slice v0_0p v0_0n v0_0c,.slice v1_0p v1_0n v1_0c,.slice v2_0p v2_0n v2_0c,.slice v3_0p v3_0n v3_0c,.slice v4_0p v4_0n v4_0c,.slice v5_0p v5_0n v5_0c]) w):Runs Tryz.prog ⟨dst,.build 28 #[(0,.tmp x0),(1,.tmp x1),(2,.tmp x2),(3,.tmp x3),(4,.tmp x4),(5,.tmp x5)],ty,pos,after,g⟩ a w T:=by
 rw [slot_eval,← slot_get] at hx0 hx1 hx2 hx3 hx4 hx5
 refine Runs.value (v:=.agg #[.slice v0_0p v0_0n v0_0c,.slice v1_0p v1_0n v1_0c,.slice v2_0p v2_0n v2_0c,.slice v3_0p v3_0n v3_0c,.slice v4_0p v4_0n v4_0c,.slice v5_0p v5_0n v5_0c]) (w':=w) ?_ h
 simp only [execOp]
 go_simp
end
def CpW (w:World) (a:Nat) (P:Pg) (cp gp sp op hp tp:Option Addr) (cc gc sc oc hc tc:Nat):Prop:=∃b,a≤b∧b≤w.heap.size∧OT w a b tp tc P.ts∧Frs 3 cnc 60 b cp cc P.cs w∧Frs 4 glc 62 b gp gc P.gs w∧Frs 1 strc 9 b sp sc P.ss w∧Frs 1 strc 9 b op oc P.os w∧Frs 3 chc 64 b hp hc P.hs w
theorem Frs.down {α:Type}{k:Nat}{enc:α→List Value}{e:TypeId}{N N':Nat}{p:Option Addr}{c:Nat}{L:List α}{w:World}(h:Frs k enc e N p c L w) (hN:N'≤N):Frs k enc e N' p c L w:=⟨h.1,fun hn=>(h.2 hn).down hN⟩
theorem Frs.chg {α:Type}{k:Nat}{enc:α→List Value}(E:Enc k enc){e:TypeId}{N:Nat}{p:Option Addr}{c:Nat}{L:List α}{w w':World}{S:Nat→Prop}(h:Frs k enc e N p c L w) (hc:Chg w w' S) (hS:∀i,N≤i→¬ S i):Frs k enc e N p c L w':=by
 by_cases hn:0 < L.length
 ·have h1:=h.2 hn
  have hp:∀a,p=some a→¬ S a.block:=fun a ha=>hS _ (h1.place E a ha).1
  exact⟨h.1.chg hc hp,fun _=>h1.chg hc hp⟩
 ·obtain rfl:=List.eq_nil_of_length_eq_zero (by omega:L.length=0)
  exact⟨⟨RdL.nil _ _ _ _ _ h.1.max,h.1.bare⟩,fun h=>absurd h hn⟩
theorem flat_rw {α:Type}{k:Nat}{enc:α→List Value}{B:Nat→Prop}{w:World}{p:Option Addr}{n c:Nat}{l:List α}(h:InN FlatAt k enc B w p n c l):Rw k enc w p c l:=by
 obtain ⟨_,L,h1,h2⟩:=h
 rw [FlatAt] at h2
 subst h2
 exact h1
theorem OT.low {w:World}{a a' b:Nat}{p:Option Addr}{c:Nat}{l:List Ta}(ha:a'≤a) (h:OT w a b p c l):OT w a' b p c l:=by
 obtain ⟨g,L,h3,h4,h5⟩:=h
 exact⟨g,L,h3,⟨h4.1,fun hn=>by obtain ⟨h6,h7,h8,h9⟩:=h4.2 hn;exact⟨by omega,h7,h8,h9.down ha⟩⟩,h5⟩
theorem en_clc:Enters Tryz.prog 127:=fun args w=>by go_simp
theorem en_clg:Enters Tryz.prog 128:=fun args w=>by go_simp
theorem en_cls:Enters Tryz.prog 129:=fun args w=>by go_simp
theorem en_clo:Enters Tryz.prog 129:=fun args w=>by go_simp
theorem en_clh:Enters Tryz.prog 130:=fun args w=>by go_simp
set_option maxHeartbeats 16000000 in
theorem cpP_any (P:Pg) (B:Nat→Prop) (w:World) (cp gp sp op hp tp:Option Addr) (cc gc sc oc hc tc:Nat) (hpg:PgIn B w P cp gp sp op hp tp cc gc sc oc hc tc) (hnb:P.cs.length≤1048576∧P.gs.length≤1048576∧P.ss.length≤1048576∧P.os.length≤1048576∧P.hs.length≤1048576∧P.ts.length≤1048576∧zT P.ts≤1048576) :
 Calls Tryz.prog 90 #[pgv P cp gp sp op hp tp cc gc sc oc hc tc] w fun e w'=>∃cp' gp' sp' op' hp' tp' cc' gc' sc' oc' hc' tc',e=.returned (pgv P cp' gp' sp' op' hp' tp' cc' gc' sc' oc' hc' tc')∧CpW w' w.heap.size P cp' gp' sp' op' hp' tp' cc' gc' sc' oc' hc' tc'∧Grew w w':=by
 obtain ⟨hcaps,hmaxs⟩:=hpg.caps
 obtain ⟨cs,gs,ss,os,hs,ts⟩:=P
 have HLc:Hid (Rw 3 cnc w cp cc cs):=zh (flat_rw hpg.cs.2)
 have HLg:Hid (Rw 4 glc w gp gc gs):=zh (flat_rw hpg.gs.2)
 have HLs:Hid (Rw 1 strc w sp sc ss):=zh (flat_rw hpg.ss.2)
 have HLo:Hid (Rw 1 strc w op oc os):=zh (flat_rw hpg.os.2)
 have HLh:Hid (Rw 3 chc w hp hc hs):=zh (flat_rw hpg.hs.2)
 have hts:TL B w tp tc ts:=hpg.ts
 obtain ⟨_,L,hr,hat⟩:=hts
 have hLl:=TsAt_len hat
 have HAT:=zh hat
 have HLl:=zh hLl
 have HNB:Hid (cs.length≤1048576∧gs.length≤1048576∧ss.length≤1048576∧os.length≤1048576∧hs.length≤1048576∧ts.length≤1048576∧zT ts≤1048576):=zh hnb
 have HCL:Hid (∀W,Grew w W→Calls Tryz.prog 126 #[.slice tp ts.length tc] W fun e w'=>∃p' c',e=.returned (.slice p' ts.length c')∧Frs 8 tdc 42 W.heap.size p' c' L w'∧Grew W w'):=zh (fun W hW=>by
  have h_:=clnT_any L W tp tc (hr.kept hW) (by have:=HNB.out;omega)
  rw [hLl] at h_
  exact h_)
 dsimp only at hcaps
 clear hpg hr hat hLl hnb
 show Calls Tryz.prog 90 #[.agg #[.slice cp cs.length cc,.slice gp gs.length gc,.slice sp ss.length sc,.slice op os.length oc,.slice hp hs.length hc,.slice tp ts.length tc]] w fun e w'=>∃cp' gp' sp' op' hp' tp' cc' gc' sc' oc' hc' tc',e=.returned (pgv ⟨cs,gs,ss,os,hs,ts⟩ cp' gp' sp' op' hp' tp' cc' gc' sc' oc' hc' tc')∧CpW w' w.heap.size ⟨cs,gs,ss,os,hs,ts⟩ cp' gp' sp' op' hp' tp' cc' gc' sc' oc' hc' tc'∧Grew w w'
 go_enter Tryz.func90,Tryz.ntmps90
 go_upto_region 1 with fail
 have hb1:Blk w.heap.size [.slice cp cs.length cc,.slice gp gs.length gc,.slice sp ss.length sc,.slice op os.length oc,.slice hp hs.length hc,.slice tp ts.length tc] 28 ((w.alloc (Obj.cells #[.slice cp cs.length cc,.slice gp gs.length gc,.slice sp ss.length sc,.slice op os.length oc,.slice hp hs.length hc,.slice tp ts.length tc] 28)).alloc (Obj.cells #[.slice none 0 0,.slice none 0 0,.slice none 0 0,.slice none 0 0,.slice none 0 0,.slice none 0 0] 28)):=(Blk.new w _ _).grew ((Grew.refl _).alloc _)
 have hb2:Blk (w.heap.size+1) [.slice none 0 0,.slice none 0 0,.slice none 0 0,.slice none 0 0,.slice none 0 0,.slice none 0 0] 28 ((w.alloc (Obj.cells #[.slice cp cs.length cc,.slice gp gs.length gc,.slice sp ss.length sc,.slice op os.length oc,.slice hp hs.length hc,.slice tp ts.length tc] 28)).alloc (Obj.cells #[.slice none 0 0,.slice none 0 0,.slice none 0 0,.slice none 0 0,.slice none 0 0,.slice none 0 0] 28)):=by
  have h:=Blk.new (w.alloc (Obj.cells #[.slice cp cs.length cc,.slice gp gs.length gc,.slice sp ss.length sc,.slice op os.length oc,.slice hp hs.length hc,.slice tp ts.length tc] 28)) [.slice none 0 0,.slice none 0 0,.slice none 0 0,.slice none 0 0,.slice none 0 0,.slice none 0 0] 28
  rw [alloc_sz] at h
  exact h
 have hg1:Grew w ((w.alloc (Obj.cells #[.slice cp cs.length cc,.slice gp gs.length gc,.slice sp ss.length sc,.slice op os.length oc,.slice hp hs.length hc,.slice tp ts.length tc] 28)).alloc (Obj.cells #[.slice none 0 0,.slice none 0 0,.slice none 0 0,.slice none 0 0,.slice none 0 0,.slice none 0 0] 28)):=((Grew.refl w).alloc _).alloc _
 have hs1:((w.alloc (Obj.cells #[.slice cp cs.length cc,.slice gp gs.length gc,.slice sp ss.length sc,.slice op os.length oc,.slice hp hs.length hc,.slice tp ts.length tc] 28)).alloc (Obj.cells #[.slice none 0 0,.slice none 0 0,.slice none 0 0,.slice none 0 0,.slice none 0 0,.slice none 0 0] 28)).heap.size=w.heap.size+2:=by rw [alloc_sz,alloc_sz]
 generalize ((w.alloc (Obj.cells #[.slice cp cs.length cc,.slice gp gs.length gc,.slice sp ss.length sc,.slice op os.length oc,.slice hp hs.length hc,.slice tp ts.length tc] 28)).alloc (Obj.cells #[.slice none 0 0,.slice none 0 0,.slice none 0 0,.slice none 0 0,.slice none 0 0,.slice none 0 0] 28))=V at hb1 hb2 hg1 hs1 ⊢
 obtain ⟨T,hT⟩:∃T,w.heap.size=T:=⟨_,rfl⟩
 obtain ⟨U,hU⟩:∃U,w.heap.size+1=U:=⟨_,rfl⟩
 rw [hU] at hb2 ⊢
 rw [hT] at hb1 ⊢
 have HUS:Hid (w.heap.size≤U∧U < V.heap.size∧T < V.heap.size):=zh (by omega)
 have HBA:=zh hb1
 have HBZ0:=zh hb2
 have HGV:=zh hg1
 have q5:V.cell? ⟨T,5,none⟩=some (.slice tp ts.length tc):=hb1.cell 5
 clear hT hU hb1 hb2 hg1 hs1
 go_wp2_with (go_at_call 126;(with_reducible refine(HCL.out _ HGV.out).mono ?_);rintro e_ W1 ⟨p1,c1,rfl,hf1,hg1⟩;have HF1:=zh hf1;have HG1:=zh hg1;clear hf1 hg1)
 have hc1:ts.length≤c1:=by have h1:=HF1.out.1.cap;have:=HLl.out;omega
 have hm1:=HF1.out.1.max
 obtain ⟨g,hgS,hg⟩:∃g,V.heap.size≤g∧(0 < ts.length→p1=some ⟨g,0,none⟩∧g < W1.heap.size):=by
  by_cases hn:0 < ts.length
  ·have hL0:0 < L.length:=by have:=HLl.out;omega
   obtain ⟨g,h1,h2,h3⟩:=(HF1.out.2 hL0).at hL0
   exact⟨g,h2,fun _=>⟨h1,h3⟩⟩
  ·exact⟨V.heap.size,Nat.le_refl _,fun h=>absurd h hn⟩
 have HGS:=zh hgS
 have HGP:=zh hg
 clear hgS hg q5
 go_loopg [4,10] ts.length (fun gg v4_ iv wr=>∃(j:Nat) (D:List Td),iv=.int .i64 (j:Int)∧j≤ts.length∧gg=ts.length - j∧Hid (D.length=j)∧Hid (0 < ts.length→OwR wr V.heap.size 42 8 tdc (.slice p1 ts.length c1) (D++L.drop j))∧Hid (OTs wr (ts.take j) (g+1) wr.heap.size D)∧Hid (Chg W1 wr (fun k=>k=g)))
 case atStart=>exact⟨0,[],rfl,Nat.zero_le _,rfl,zh rfl,zh (fun hn=>by have h1:=HF1.out.2 (by have:=HLl.out;omega);rw [HLl.out] at h1;exact h1),zh (by rw [List.take_zero,OTs]),zh (Chg.refl _ _)⟩
 case round =>
  obtain ⟨j,D,rfl,hj,rfl,HD,HOW,HXS,HC⟩:=hrel
  have HGr:Hid (Grew V wr):=zh (grew_lift HG1.out HC.out (fun k hk=>by have h1:k=g:=hk;rw [h1];exact HGS.out))
  have HG:Hid (Grew w wr):=zh (HGV.out.trans HGr.out)
  by_cases hlt:j < ts.length
  ·have hn0:0 < ts.length:=by omega
   obtain ⟨hp1,hgW⟩:=HGP.out hn0
   subst hp1
   have how:=HOW.out hn0
   obtain ⟨d,hd,bp,bc,rfl,hz,hYj⟩:=TsAt_get HAT.out j hlt
   have hzt:=zT_mem (List.getElem_mem hlt)
   have htk:=List.take_succ_eq_append_getElem hlt
   have HLT:=zh (Nat.succ_le_of_lt hlt)
   have hget:=dropget HD.out hd
   generalize ts[j]=x at hd hz hYj hzt htk hget
   obtain ⟨s,pp,dd,ch_,pm,wi,y,q⟩:=x
   replace hYj:SL B w bp bc y:=hYj
   have hzt2:nSs y+mSs y≤zT ts:=hzt
   have hcapj:y.length≤bc:=hYj.cap.1
   have hmaxj:=hYj.cap.2.1
   have c6:wr.cell? ⟨g,j * 8+6,none⟩=some (.slice bp y.length bc):=by
    have h1:=(how.rd encTd).2.cell hget (j:=6) (v:=.slice bp y.length bc) rfl
    rw [Nat.zero_add] at h1
    exact h1
   have HIH:=zh (fun W (hW:Grew w W)=>cpS_any _ y (Nat.lt_succ_self _) B W bp bc (hYj.kept hW) (by have:=HNB.out;omega) (by have:=HNB.out;omega))
   have HHOW:=zh how
   have HHD:=zh hd
   have HTK:=zh htk
   have HZ:=zh hz
   have HGET:=zh hget
   have HGWL:=zh hgW
   clear hd hz hYj hzt hzt2 htk hget how hgW
   go_wp2_with (go_at_call 76;(with_reducible refine(HIH.out _ HG.out).mono ?_);rintro e_ W2 ⟨bp2,bc2,rfl,hx2,hg2⟩;have HX2:=zh hx2;have HG2:=zh hg2;have z6:W2.cell? ⟨g,j * 8+6,none⟩=some (.slice bp y.length bc):=Atv.kept (R:=Grew) c6 hg2;have zf:=((HHOW.out.kept hg2).free encTd (j * 8+6)).2;clear hx2 hg2)
   have HST:=zh (Chg.set W2 ⟨g,j * 8+6,none⟩ (.slice bp2 y.length bc2))
   have HSZ:Hid ((W2.setCell ⟨g,j * 8+6,none⟩ (.slice bp2 y.length bc2)).heap.size=W2.heap.size):=zh (World.size_setCell _ _ _)
   have HWL:Hid (g < wr.heap.size):=zh (Nat.lt_of_lt_of_le HGWL.out HC.out.size)
   have HOX:Hid (OTs (W2.setCell ⟨g,j * 8+6,none⟩ (.slice bp2 y.length bc2)) (ts.take (j+1)) (g+1) (W2.setCell ⟨g,j * 8+6,none⟩ (.slice bp2 y.length bc2)).heap.size (D++[(⟨s,pp,dd,ch_,pm,wi,bp2,y.length,bc2,q⟩:Td)])):=zh (by
    rw [HTK.out,HSZ.out]
    have h1:=OTs_chg (Chg.of_grew HG2.out (fun _=>False)) HXS.out (fun _ _ _ h=>h)
    have h2:=OTs_chg HST.out h1 (fun i h3 _ h4=>by have h5:i=g:=h4;omega)
    have h3:=HX2.out.chg HST.out (fun i h3 _ h4=>by have h5:i=g:=h4;have:=HWL.out;omega)
    exact OTs_snoc h2 HWL.out HG2.out.sz ⟨bp2,bc2,rfl,HZ.out,h3⟩)
   have HOW2:Hid (OwR (W2.setCell ⟨g,j * 8+6,none⟩ (.slice bp2 y.length bc2)) V.heap.size 42 8 tdc (.slice (some ⟨g,0,none⟩) ts.length c1) ((D++[(⟨s,pp,dd,ch_,pm,wi,bp2,y.length,bc2,q⟩:Td)])++L.drop (j+1))):=zh (by
    obtain ⟨hi,he⟩:=List.getElem?_eq_some_iff.1 HGET.out
    have h1:=(HHOW.out.kept HG2.out).set1 encTd j 6 (⟨s,pp,dd,ch_,pm,wi,bp2,y.length,bc2,q⟩:Td) (.slice bp2 y.length bc2) hi (by decide) (by rw [he];rfl)
    rw [dropset HD.out HHD.out] at h1
    exact h1)
   have HC2:Hid (Chg W1 (W2.setCell ⟨g,j * 8+6,none⟩ (.slice bp2 y.length bc2)) (fun k=>k=g)):=zh ((HC.out.trans (Chg.of_grew HG2.out _)).trans HST.out)
   go_roundg (ts.length - (j+1))
   case measure=>have:=HLT.out;omega
   case rel=>exact⟨j+1,D++[(⟨s,pp,dd,ch_,pm,wi,bp2,y.length,bc2,q⟩:Td)],by go_num,HLT.out,rfl,zh (by rw [List.length_append,HD.out];rfl),zh (fun _=>HOW2.out),HOX,HC2⟩
  ·obtain rfl:j=ts.length:=by omega
   have HOT:Hid (OT wr V.heap.size wr.heap.size p1 c1 ts):=zh (by
    have hdl:L.drop ts.length=[]:=List.drop_eq_nil_of_le (by rw [HLl.out];exact Nat.le_refl _)
    have hxs:=HXS.out
    rw [List.take_length] at hxs
    refine⟨g,D,HD.out,⟨?_,fun hn=>?_⟩,hxs⟩
    ·by_cases hn:0 < ts.length
     ·have h1:=HOW.out hn
      rw [hdl,List.append_nil] at h1
      exact(h1.rd encTd).2
     ·obtain rfl:D=[]:=List.eq_nil_of_length_eq_zero (by rw [HD.out];omega)
      have h1:=HF1.out.1
      exact⟨RdL.nil _ _ _ _ _ h1.max,h1.bare⟩
    ·have hn2:0 < ts.length:=by rw [HD.out] at hn;exact hn
     have h1:=HOW.out hn2
     rw [hdl,List.append_nil] at h1
     obtain ⟨hp1,hgW⟩:=HGP.out hn2
     exact⟨HGS.out,Nat.lt_of_lt_of_le hgW HC.out.size,hp1,by rw [HD.out];exact h1⟩)
   have HBZ:Hid (Blk U [.slice none 0 0,.slice none 0 0,.slice none 0 0,.slice none 0 0,.slice none 0 0,.slice none 0 0] 28 V):=HBZ0
   have HUL:Hid (U < wr.heap.size):=zh (by have:=HUS.out;have:=HGr.out.sz;omega)
   have hgw:∀W,Grew wr.drew W→Grew w W:=fun W h=>HG.out.trans ((Grew.refl _).drw.trans h)
   have hba:=HBA.out.grew (HGr.out.trans (Grew.refl _).drw)
   have d0:Atv ⟨T,0,none⟩ (.slice cp cs.length cc) wr.drew:=hba.atv 0 rfl
   have d1:Atv ⟨T,1,none⟩ (.slice gp gs.length gc) wr.drew:=hba.atv 1 rfl
   have d2:Atv ⟨T,2,none⟩ (.slice sp ss.length sc) wr.drew:=hba.atv 2 rfl
   have d3:Atv ⟨T,3,none⟩ (.slice op os.length oc) wr.drew:=hba.atv 3 rfl
   have d4:Atv ⟨T,4,none⟩ (.slice hp hs.length hc) wr.drew:=hba.atv 4 rfl
   clear hba
   go_upto_region 7 with fail
   refine wp_grew_tail 17 [some 24,some 25,some 26,some 27,some 28,some 29,some 30,some 31,some 32,some 33,some 34,some 35,some 36,some 37,some 38,some 39,some 40] (Zfe (Zfd (Zte (Zta [])))) [fun v _=>v=.pointer (some ⟨T,0,none⟩),fun v _=>v=.slice cp cs.length cc,fun v w=>∃p_ c_,v=.slice p_ cs.length c_∧Frs 3 cnc 60 wr.drew.heap.size p_ c_ cs w,fun v _=>v=.pointer (some ⟨T,1,none⟩),fun v _=>v=.slice gp gs.length gc,fun v w=>∃p_ c_,v=.slice p_ gs.length c_∧Frs 4 glc 62 wr.drew.heap.size p_ c_ gs w,fun v _=>v=.pointer (some ⟨T,2,none⟩),fun v _=>v=.slice sp ss.length sc,fun v w=>∃p_ c_,v=.slice p_ ss.length c_∧Frs 1 strc 9 wr.drew.heap.size p_ c_ ss w,fun v _=>v=.pointer (some ⟨T,3,none⟩),fun v _=>v=.slice op os.length oc,fun v w=>∃p_ c_,v=.slice p_ os.length c_∧Frs 1 strc 9 wr.drew.heap.size p_ c_ os w,fun v _=>v=.pointer (some ⟨T,4,none⟩),fun v _=>v=.slice hp hs.length hc,fun v w=>∃p_ c_,v=.slice p_ hs.length c_∧Frs 3 chc 64 wr.drew.heap.size p_ c_ hs w,fun v _=>v=.slice p1 ts.length c1,fun v w=>∃vc vg vs vo vh,v=.agg #[vc,vg,vs,vo,vh,.slice p1 ts.length c1]∧(∃p_ c_,vc=.slice p_ cs.length c_∧Frs 3 cnc 60 wr.drew.heap.size p_ c_ cs w)∧(∃p_ c_,vg=.slice p_ gs.length c_∧Frs 4 glc 62 wr.drew.heap.size p_ c_ gs w)∧(∃p_ c_,vs=.slice p_ ss.length c_∧Frs 1 strc 9 wr.drew.heap.size p_ c_ ss w)∧(∃p_ c_,vo=.slice p_ os.length c_∧Frs 1 strc 9 wr.drew.heap.size p_ c_ os w)∧(∃p_ c_,vh=.slice p_ hs.length c_∧Frs 3 chc 64 wr.drew.heap.size p_ c_ hs w)] (by kernel_rfl) (by kernel_rfl) (by kernel_rfl) rfl ?_ ⟨?_,?_,?_,?_,?_,?_,?_,?_,?_,?_,?_,?_,?_,?_,?_,?_,?_,trivial⟩ ?_
   ·exact⟨Zi,Zi,fun _ _ _ hg ⟨p_,c_,h1,h2⟩=>⟨p_,c_,h1,h2.kept hg⟩,Zi,Zi,fun _ _ _ hg ⟨p_,c_,h1,h2⟩=>⟨p_,c_,h1,h2.kept hg⟩,Zi,Zi,fun _ _ _ hg ⟨p_,c_,h1,h2⟩=>⟨p_,c_,h1,h2.kept hg⟩,Zi,Zi,fun _ _ _ hg ⟨p_,c_,h1,h2⟩=>⟨p_,c_,h1,h2.kept hg⟩,Zi,Zi,fun _ _ _ hg ⟨p_,c_,h1,h2⟩=>⟨p_,c_,h1,h2.kept hg⟩,Zi,fun _ _ _ hg ⟨vc,vg,vs,vo,vh,h0,⟨pc9,cc9,ac9,bc9⟩,⟨pg9,cg9,ag9,bg9⟩,⟨ps9,cs9,as9,bs9⟩,⟨po9,co9,ao9,bo9⟩,⟨ph9,ch9,ah9,bh9⟩⟩=>⟨vc,vg,vs,vo,vh,h0,⟨pc9,cc9,ac9,bc9.kept hg⟩,⟨pg9,cg9,ag9,bg9.kept hg⟩,⟨ps9,cs9,as9,bs9.kept hg⟩,⟨po9,co9,ao9,bo9.kept hg⟩,⟨ph9,ch9,ah9,bh9.kept hg⟩⟩,trivial⟩
   ·intro u w9 hR hd;exact rn_fld_28_0 (ev rfl) Zr
   ·intro u w9 hR hd;exact rn_ld_22 (ev (hd.1 rfl)) (d0.kept hR) Zr
   ·intro u w9 hR hd;exact runs_c1 en_clc (ev (hd.1 rfl)) ((clnC_any cs w9 cp cc (HLc.out.kept (hgw _ hR)) (by have:=HNB.out;omega)).mono fun e w8 ⟨p_,c_,h1,h2,h3⟩=>⟨_,h1,h3,p_,c_,rfl,h2.down hR.sz⟩)
   ·intro u w9 hR hd;exact rn_fld_28_1 (ev rfl) Zr
   ·intro u w9 hR hd;exact rn_ld_23 (ev (hd.1 rfl)) (d1.kept hR) Zr
   ·intro u w9 hR hd;exact runs_c1 en_clg (ev (hd.1 rfl)) ((clnG_any gs w9 gp gc (HLg.out.kept (hgw _ hR)) (by have:=HNB.out;omega)).mono fun e w8 ⟨p_,c_,h1,h2,h3⟩=>⟨_,h1,h3,p_,c_,rfl,h2.down hR.sz⟩)
   ·intro u w9 hR hd;exact rn_fld_28_2 (ev rfl) Zr
   ·intro u w9 hR hd;exact rn_ld_24 (ev (hd.1 rfl)) (d2.kept hR) Zr
   ·intro u w9 hR hd;exact runs_c1 en_cls (ev (hd.1 rfl)) ((clnN_any ss w9 sp sc (HLs.out.kept (hgw _ hR)) (by have:=HNB.out;omega)).mono fun e w8 ⟨p_,c_,h1,h2,h3⟩=>⟨_,h1,h3,p_,c_,rfl,h2.down hR.sz⟩)
   ·intro u w9 hR hd;exact rn_fld_28_3 (ev rfl) Zr
   ·intro u w9 hR hd;exact rn_ld_24 (ev (hd.1 rfl)) (d3.kept hR) Zr
   ·intro u w9 hR hd;exact runs_c1 en_clo (ev (hd.1 rfl)) ((clnN_any os w9 op oc (HLo.out.kept (hgw _ hR)) (by have:=HNB.out;omega)).mono fun e w8 ⟨p_,c_,h1,h2,h3⟩=>⟨_,h1,h3,p_,c_,rfl,h2.down hR.sz⟩)
   ·intro u w9 hR hd;exact rn_fld_28_4 (ev rfl) Zr
   ·intro u w9 hR hd;exact rn_ld_25 (ev (hd.1 rfl)) (d4.kept hR) Zr
   ·intro u w9 hR hd;exact runs_c1 en_clh (ev (hd.1 rfl)) ((clnH_any hs w9 hp hc (HLh.out.kept (hgw _ hR)) (by have:=HNB.out;omega)).mono fun e w8 ⟨p_,c_,h1,h2,h3⟩=>⟨_,h1,h3,p_,c_,rfl,h2.down hR.sz⟩)
   ·intro u w9 hR hd;exact runs_mv (ev rfl) Zr
   ·intro u w9 hR hd
    obtain ⟨pc,cc_,ac,bc⟩:=hd.1 rfl
    obtain ⟨pg,cg,ag,bg⟩:=hd.2.1 rfl
    obtain ⟨ps,cs_,as_,bs⟩:=hd.2.2.1 rfl
    obtain ⟨po,co,ao,bo⟩:=hd.2.2.2.1 rfl
    obtain ⟨ph,ch,ah,bh⟩:=hd.2.2.2.2.1 rfl
    exact rc_bld_28_012345 (ev ac) (ev ag) (ev as_) (ev ao) (ev ah) (ev (hd.2.2.2.2.2.1 rfl)) ⟨Grew.refl _,_,_,_,_,_,rfl,⟨pc,cc_,rfl,bc⟩,⟨pg,cg,rfl,bg⟩,⟨ps,cs_,rfl,bs⟩,⟨po,co,rfl,bo⟩,⟨ph,ch,rfl,bh⟩⟩
   ·intro u W hR hh
    obtain ⟨vc,vg,vs,vo,vh,h40,⟨cq,ck,rfl,fc⟩,⟨gq,gk,rfl,fg⟩,⟨sq,sk,rfl,fs⟩,⟨oq,ok,rfl,fo⟩,⟨hq,hk,rfl,fh⟩⟩:=hh 16 (by decide)
    have hbZ:=HBZ.out.grew (HGr.out.trans ((Grew.refl _).drw.trans hR))
    refine wpAny_one (i:=17) none (by kernel_rfl) rfl rfl rfl (rn_st_28 (S:=U) (o:=0) (ev rfl) (ev h40) (hbZ.atv 0 rfl) (hbZ.atv 1 rfl) (hbZ.atv 2 rfl) (hbZ.atv 3 rfl) (hbZ.atv 4 rfl) (hbZ.atv 5 rfl) hbZ.free ?_)
    refine wpAny_done (by kernel_rfl) ?_ _
    have hst:Chg W ((((((W.setCell ⟨U,0,none⟩ (.slice cq cs.length ck)).setCell ⟨U,1,none⟩ (.slice gq gs.length gk)).setCell ⟨U,2,none⟩ (.slice sq ss.length sk)).setCell ⟨U,3,none⟩ (.slice oq os.length ok)).setCell ⟨U,4,none⟩ (.slice hq hs.length hk)).setCell ⟨U,5,none⟩ (.slice p1 ts.length c1)) (fun k=>k=U):=(((((((Chg.refl W (fun k=>k=U)).then_set ⟨U,0,none⟩ (.slice cq cs.length ck) rfl).then_set ⟨U,1,none⟩ (.slice gq gs.length gk) rfl).then_set ⟨U,2,none⟩ (.slice sq ss.length sk) rfl).then_set ⟨U,3,none⟩ (.slice oq os.length ok) rfl).then_set ⟨U,4,none⟩ (.slice hq hs.length hk) rfl).then_set ⟨U,5,none⟩ (.slice p1 ts.length c1) rfl)
    have hbn:=((((((hbZ.set 0 (.slice cq cs.length ck)).set 1 (.slice gq gs.length gk)).set 2 (.slice sq ss.length sk)).set 3 (.slice oq os.length ok)).set 4 (.slice hq hs.length hk)).set 5 (.slice p1 ts.length c1))
    simp only [zz6,zz5] at hbn
    simp only [Act.put,mixA,mixL,zz9,zz0,zz4,zz6,zz5]
    generalize hW:World.setCell (World.setCell (World.setCell (World.setCell (World.setCell (World.setCell W _ _) _ _) _ _) _ _) _ _) _ _=W0
    have hW':((((((W.setCell ⟨U,0,none⟩ (.slice cq cs.length ck)).setCell ⟨U,1,none⟩ (.slice gq gs.length gk)).setCell ⟨U,2,none⟩ (.slice sq ss.length sk)).setCell ⟨U,3,none⟩ (.slice oq os.length ok)).setCell ⟨U,4,none⟩ (.slice hq hs.length hk)).setCell ⟨U,5,none⟩ (.slice p1 ts.length c1))=W0:=hW
    rw [hW'] at hst hbn
    clear hW hW'
    have hgr:Grew w W:=HG.out.trans ((Grew.refl _).drw.trans hR)
    have hbs:wr.drew.heap.size=wr.heap.size:=rfl
    have hUl:U < wr.heap.size:=HUL.out
    have HFIN:Hid (CpW W0 w.heap.size ⟨cs,gs,ss,os,hs,ts⟩ cq gq sq oq hq p1 ck gk sk ok hk c1∧Grew w W0):=zh (by
     have hn:∀i,wr.drew.heap.size≤i→¬ (i=U):=fun i h1 h2=>by omega
     have hot:=((HOT.out.kept ((Grew.refl _).drw.trans hR)).chg hst (fun i h1 _ h2=>by have h3:i=U:=h2;have:=HUS.out;omega))
     refine⟨⟨wr.drew.heap.size,?_,Nat.le_trans hR.sz hst.size,?_,fc.chg encCn hst hn,fg.chg encGl hst hn,fs.chg encStr hst hn,fo.chg encStr hst hn,fh.chg encCh hst hn⟩,grew_lift hgr hst (fun k hk=>by have h3:k=U:=hk;have:=HUS.out;omega)⟩
     ·have:=HG.out.sz;omega
     ·exact OT.low (by have:=HUS.out;omega) hot)
    clear hh hR h40 fc fg fs fo fh hbZ hst hgr hbs hUl d0 d1 d2 d3 d4
    have u0:=hbn.cell 0
    have u1:=hbn.cell 1
    have u2:=hbn.cell 2
    have u3:=hbn.cell 3
    have u4:=hbn.cell 4
    have u5:=hbn.cell 5
    simp only [zz7,zz8] at u0 u1 u2 u3 u4 u5
    clear hbn
    go_wp2
    refine rn_ret_c28 Tryz.results90 (S0:=U) (v0_0:=.slice cq cs.length ck) (v0_1:=.slice gq gs.length gk) (v0_2:=.slice sq ss.length sk) (v0_3:=.slice oq os.length ok) (v0_4:=.slice hq hs.length hk) (v0_5:=.slice p1 ts.length c1) rfl (by go_simp) (by go_simp) (by go_simp) (by go_simp) (by go_simp) (by go_simp) ?_
    exact⟨cq,gq,sq,oq,hq,p1,ck,gk,sk,ok,hk,c1,rfl,HFIN.out.1,HFIN.out.2⟩
theorem Frs.other {α:Type}{k:Nat}{enc:α→List Value}(E:Enc k enc){e e':TypeId}{N:Nat}{p:Option Addr}{c g:Nat}{L:List α}{w w':World}(h:Frs k enc e N p c L w) (hc:Chg w w' (fun k=>k=g)) (hg:∃cur,w.heap[g]?=some (.cells cur e' (0,0))) (hne:e≠e'):Frs k enc e N p c L w':=by
 by_cases hn:0 < L.length
 ·have h1:=h.2 hn
  have hp:∀a,p=some a→¬ (a.block=g):=fun a ha he=>by
   obtain ⟨cur,h2⟩:=h1.kind E a ha
   obtain ⟨cur',h3⟩:=hg
   rw [he,h3] at h2
   injection h2 with h2
   injection h2 with _ h2
   exact hne h2.symm
  exact⟨h.1.chg hc hp,fun _=>h1.chg hc hp⟩
 ·obtain rfl:=List.eq_nil_of_length_eq_zero (by omega:L.length=0)
  exact⟨⟨RdL.nil _ _ _ _ _ h.1.max,h.1.bare⟩,fun h=>absurd h hn⟩
theorem mapget {α:Type}{f:α→α}{l:List α}{j:Nat}(hj:j < l.length):((l.take j).map f++l.drop j)[j]?=some l[j]:=by
 rw [List.getElem?_append_right (by simp;omega),List.length_map,List.length_take,Nat.min_eq_left (by omega),Nat.sub_self,List.getElem?_drop]
 exact List.getElem?_eq_getElem hj
theorem mapset {α:Type}{f:α→α}{l:List α}{j:Nat}(hj:j < l.length):((l.take j).map f++l.drop j).set j (f l[j])=(l.take (j+1)).map f++l.drop (j+1):=by
 rw [List.set_append_right _ _ (by simp;omega),List.length_map,List.length_take,Nat.min_eq_left (by omega),Nat.sub_self,List.drop_eq_getElem_cons hj,zz5,List.take_succ_eq_append_getElem hj,List.map_append,List.append_assoc]
 rfl
set_option maxHeartbeats 16000000 in
theorem sP_any (P:Pg) (B:Nat→Prop) (w:World) (cp gp sp op hp tp:Option Addr) (cc gc sc oc hc tc:Nat) (hpg:PgIn B w P cp gp sp op hp tp cc gc sc oc hc tc) (hnb:P.cs.length≤1048576∧P.gs.length≤1048576∧P.ss.length≤1048576∧P.os.length≤1048576∧P.hs.length≤1048576∧P.ts.length≤1048576∧zT P.ts≤1048576) :
 Calls Tryz.prog 35 #[pgv P cp gp sp op hp tp cc gc sc oc hc tc] w fun e w'=>∃cp' gp' sp' op' hp' tp' cc' gc' sc' oc' hc' tc',e=.returned (pgv P cp' gp' sp' op' hp' tp' cc' gc' sc' oc' hc' tc')∧CpW w' w.heap.size (stP P) cp' gp' sp' op' hp' tp' cc' gc' sc' oc' hc' tc'∧Grew w w':=by
 obtain ⟨hcaps,hmaxs⟩:=hpg.caps
 have HCP0:=fun W (hW:Grew w W)=>cpP_any P B W cp gp sp op hp tp cc gc sc oc hc tc (hpg.kept hW) hnb
 obtain ⟨cs,gs,ss,os,hs,ts⟩:=P
 have HCP:=zh HCP0
 dsimp only at hcaps HCP
 clear hpg hnb HCP0
 show Calls Tryz.prog 35 #[.agg #[.slice cp cs.length cc,.slice gp gs.length gc,.slice sp ss.length sc,.slice op os.length oc,.slice hp hs.length hc,.slice tp ts.length tc]] w fun e w'=>∃cp' gp' sp' op' hp' tp' cc' gc' sc' oc' hc' tc',e=.returned (pgv ⟨cs,gs,ss,os,hs,ts⟩ cp' gp' sp' op' hp' tp' cc' gc' sc' oc' hc' tc')∧CpW w' w.heap.size (stP ⟨cs,gs,ss,os,hs,ts⟩) cp' gp' sp' op' hp' tp' cc' gc' sc' oc' hc' tc'∧Grew w w'
 go_enter Tryz.func35,Tryz.ntmps35
 go_upto_region 1 with fail
 have hb1:Blk w.heap.size [.slice cp cs.length cc,.slice gp gs.length gc,.slice sp ss.length sc,.slice op os.length oc,.slice hp hs.length hc,.slice tp ts.length tc] 28 ((w.alloc (Obj.cells #[.slice cp cs.length cc,.slice gp gs.length gc,.slice sp ss.length sc,.slice op os.length oc,.slice hp hs.length hc,.slice tp ts.length tc] 28)).alloc (Obj.cells #[.slice none 0 0,.slice none 0 0,.slice none 0 0,.slice none 0 0,.slice none 0 0,.slice none 0 0] 28)):=(Blk.new w _ _).grew ((Grew.refl _).alloc _)
 have hb2:Blk (w.heap.size+1) [.slice none 0 0,.slice none 0 0,.slice none 0 0,.slice none 0 0,.slice none 0 0,.slice none 0 0] 28 ((w.alloc (Obj.cells #[.slice cp cs.length cc,.slice gp gs.length gc,.slice sp ss.length sc,.slice op os.length oc,.slice hp hs.length hc,.slice tp ts.length tc] 28)).alloc (Obj.cells #[.slice none 0 0,.slice none 0 0,.slice none 0 0,.slice none 0 0,.slice none 0 0,.slice none 0 0] 28)):=by
  have h:=Blk.new (w.alloc (Obj.cells #[.slice cp cs.length cc,.slice gp gs.length gc,.slice sp ss.length sc,.slice op os.length oc,.slice hp hs.length hc,.slice tp ts.length tc] 28)) [.slice none 0 0,.slice none 0 0,.slice none 0 0,.slice none 0 0,.slice none 0 0,.slice none 0 0] 28
  rw [alloc_sz] at h
  exact h
 have hg1:Grew w ((w.alloc (Obj.cells #[.slice cp cs.length cc,.slice gp gs.length gc,.slice sp ss.length sc,.slice op os.length oc,.slice hp hs.length hc,.slice tp ts.length tc] 28)).alloc (Obj.cells #[.slice none 0 0,.slice none 0 0,.slice none 0 0,.slice none 0 0,.slice none 0 0,.slice none 0 0] 28)):=((Grew.refl w).alloc _).alloc _
 have hs1:((w.alloc (Obj.cells #[.slice cp cs.length cc,.slice gp gs.length gc,.slice sp ss.length sc,.slice op os.length oc,.slice hp hs.length hc,.slice tp ts.length tc] 28)).alloc (Obj.cells #[.slice none 0 0,.slice none 0 0,.slice none 0 0,.slice none 0 0,.slice none 0 0,.slice none 0 0] 28)).heap.size=w.heap.size+2:=by rw [alloc_sz,alloc_sz]
 generalize ((w.alloc (Obj.cells #[.slice cp cs.length cc,.slice gp gs.length gc,.slice sp ss.length sc,.slice op os.length oc,.slice hp hs.length hc,.slice tp ts.length tc] 28)).alloc (Obj.cells #[.slice none 0 0,.slice none 0 0,.slice none 0 0,.slice none 0 0,.slice none 0 0,.slice none 0 0] 28))=V at hb1 hb2 hg1 hs1 ⊢
 obtain ⟨T,hT⟩:∃T,w.heap.size=T:=⟨_,rfl⟩
 obtain ⟨U,hU⟩:∃U,w.heap.size+1=U:=⟨_,rfl⟩
 rw [hU] at hb2 ⊢
 rw [hT] at hb1 ⊢
 have HUS:Hid (w.heap.size≤U∧U < V.heap.size∧T < V.heap.size∧w.heap.size≤T∧T≠U):=zh (by omega)
 have HBA:=zh hb1
 have HBZ0:=zh hb2
 have HGV:=zh hg1
 have q0:=hb1.cell 0
 have q1:=hb1.cell 1
 have q2:=hb1.cell 2
 have q3:=hb1.cell 3
 have q4:=hb1.cell 4
 have q5:=hb1.cell 5
 simp only [zz7,zz8] at q0 q1 q2 q3 q4 q5
 clear hT hU hb1 hb2 hg1 hs1
 go_upto_region 2 with (go_at_call 90;(with_reducible refine(HCP.out _ HGV.out).mono ?_);rintro e_ W ⟨cq,gq,sq,oq,hq,tq,ck,gk,sk,ok,hk,tk,rfl,hcw,hg1⟩;have HCW:=zh hcw;have HGW:=zh hg1;have HBT1:=zh (HBA.out.grew hg1);clear hcw hg1;have z0:=HBT1.out.cell 0;have z1:=HBT1.out.cell 1;have z2:=HBT1.out.cell 2;have z3:=HBT1.out.cell 3;have z4:=HBT1.out.cell 4;have z5:=HBT1.out.cell 5;have zf0:=HBT1.out.free 0;have zf1:=HBT1.out.free 1;have zf2:=HBT1.out.free 2;have zf3:=HBT1.out.free 3;have zf4:=HBT1.out.free 4;have zf5:=HBT1.out.free 5;simp only [zz7,zz8] at z0 z1 z2 z3 z4 z5)
 have hst:Chg W ((((((W.setCell ⟨T,0,none⟩ (.slice cq cs.length ck)).setCell ⟨T,1,none⟩ (.slice gq gs.length gk)).setCell ⟨T,2,none⟩ (.slice sq ss.length sk)).setCell ⟨T,3,none⟩ (.slice oq os.length ok)).setCell ⟨T,4,none⟩ (.slice hq hs.length hk)).setCell ⟨T,5,none⟩ (.slice tq ts.length tk)) (fun k=>k=T):=(((((((Chg.refl W (fun k=>k=T)).then_set ⟨T,0,none⟩ (.slice cq cs.length ck) rfl).then_set ⟨T,1,none⟩ (.slice gq gs.length gk) rfl).then_set ⟨T,2,none⟩ (.slice sq ss.length sk) rfl).then_set ⟨T,3,none⟩ (.slice oq os.length ok) rfl).then_set ⟨T,4,none⟩ (.slice hq hs.length hk) rfl).then_set ⟨T,5,none⟩ (.slice tq ts.length tk) rfl)
 have hbn:=((((((HBT1.out.set 0 (.slice cq cs.length ck)).set 1 (.slice gq gs.length gk)).set 2 (.slice sq ss.length sk)).set 3 (.slice oq os.length ok)).set 4 (.slice hq hs.length hk)).set 5 (.slice tq ts.length tk))
 simp only [zz6,zz5] at hbn
 generalize ((((((W.setCell ⟨T,0,none⟩ (.slice cq cs.length ck)).setCell ⟨T,1,none⟩ (.slice gq gs.length gk)).setCell ⟨T,2,none⟩ (.slice sq ss.length sk)).setCell ⟨T,3,none⟩ (.slice oq os.length ok)).setCell ⟨T,4,none⟩ (.slice hq hs.length hk)).setCell ⟨T,5,none⟩ (.slice tq ts.length tk))=Y0 at hst hbn ⊢
 obtain ⟨b,hb1,hb2,hot,fc,fg,fs,fo,fh⟩:=HCW.out
 replace hot:OT W V.heap.size b tq tk ts:=hot
 have hT:=HUS.out
 have hbs:=HGW.out.sz
 have HBT:Hid (Blk T [.slice cq cs.length ck,.slice gq gs.length gk,.slice sq ss.length sk,.slice oq os.length ok,.slice hq hs.length hk,.slice tq ts.length tk] 28 Y0):=zh hbn
 have HBU:Hid (Blk U [.slice none 0 0,.slice none 0 0,.slice none 0 0,.slice none 0 0,.slice none 0 0,.slice none 0 0] 28 Y0):=zh ((HBZ0.out.grew HGW.out).chg hst (fun e=>hT.2.2.2.2 e.symm))
 have HTB:Hid (T < b∧U < b∧w.heap.size≤b∧w.heap.size≤V.heap.size):=zh (by omega)
 have HBW0:Hid (b≤Y0.heap.size):=zh (Nat.le_trans hb2 hst.size)
 have HGR:Hid (Grew w Y0):=zh (grew_lift (HGV.out.trans HGW.out) hst (fun k hk=>by have h3:k=T:=hk;omega))
 have HT:Hid (OT Y0 V.heap.size b tq tk ts):=zh (hot.chg hst (fun i h1 _ h2=>by have h3:i=T:=h2;omega))
 have hn:∀i,b≤i→¬ (i=T):=fun i h1 h2=>by omega
 have Hc:Hid (Frs 3 cnc 60 b cq ck cs Y0):=zh (fc.chg encCn hst hn)
 have Hg:Hid (Frs 4 glc 62 b gq gk gs Y0):=zh (fg.chg encGl hst hn)
 have Hs:Hid (Frs 1 strc 9 b sq sk ss Y0):=zh (fs.chg encStr hst hn)
 have Ho:Hid (Frs 1 strc 9 b oq ok os Y0):=zh (fo.chg encStr hst hn)
 have Hh:Hid (Frs 3 chc 64 b hq hk hs Y0):=zh (fh.chg encCh hst hn)
 have hcq:=And.intro Hc.out.1.cap (And.intro Hc.out.1.max (And.intro Hg.out.1.cap (And.intro Hg.out.1.max (And.intro Hh.out.1.cap (And.intro Hh.out.1.max (And.intro HT.out.tl.cap.1 HT.out.tl.cap.2.1))))))
 clear hst hbn hot fc fg fs fo fh hb1 hb2 hT hbs hn HCW HBT1 HBA HBZ0 HGW q0 z0 zf0 q1 z1 zf1 q2 z2 zf2 q3 z3 zf3 q4 z4 zf4 q5 z5 zf5
 have hbT:=HBT.out
 have r0:=hbT.cell 0
 have r1:=hbT.cell 1
 have r2:=hbT.cell 2
 have r3:=hbT.cell 3
 have r4:=hbT.cell 4
 have r5:=hbT.cell 5
 simp only [zz7,zz8] at r0 r1 r2 r3 r4 r5
 clear hbT
 obtain ⟨rbc,hgbc,hgpc⟩:∃g,b≤g∧(0 < cs.length→cq=some ⟨g,0,none⟩∧g < Y0.heap.size∧∃cur,Y0.heap[g]?=some (.cells cur 60 (0,0))):=by
  by_cases hn:0 < cs.length
  ·have h0:=Hc.out.2 hn
   obtain ⟨g,h1,h2,h3⟩:=h0.at hn
   refine⟨g,h2,fun _=>⟨h1,h3,?_⟩⟩
   obtain ⟨cur,h4⟩:=h0.kind encCn _ h1
   exact⟨cur,h4⟩
  ·exact⟨b,Nat.le_refl _,fun h=>absurd h hn⟩
 have HGBc:=zh hgbc
 have HGPc:=zh hgpc
 clear hgbc hgpc
 go_wp2
 clear r0 r1 r2 r3 r4 r5
 go_loopg [3,12] cs.length (fun gg v_ iv wr=>∃(j:Nat),iv=.int .i64 (j:Int)∧j≤cs.length∧gg=cs.length - j∧Hid (0 < cs.length→OwR wr b 60 3 cnc (.slice cq cs.length ck) ((cs.take j).map stCn++cs.drop j))∧Hid (Chg Y0 wr (fun k=>k=rbc))∧Hid (¬ 0 < cs.length→Chg Y0 wr (fun _=>False)))
 case atStart=>exact⟨0,rfl,Nat.zero_le _,rfl,zh (fun hn=>by rw [List.take_zero];exact Hc.out.2 hn),zh (Chg.refl _ _),zh (fun _=>Chg.refl _ _)⟩
 case round =>
  obtain ⟨j,rfl,hj,rfl,HOW,HC,HCE⟩:=hrel
  by_cases hlt:j < cs.length
  ·have hn0:0 < cs.length:=by omega
   obtain ⟨hp1,hgW,hgc⟩:=HGPc.out hn0
   subst hp1
   have how:=HOW.out hn0
   have hget:=mapget (f:=stCn) hlt
   have hset:=mapset (f:=stCn) hlt
   have HLT:=zh (Nat.succ_le_of_lt hlt)
   have r0:wr.cell? ⟨T,0,none⟩=some (.slice (some ⟨rbc,0,none⟩) cs.length ck):=(HBT.out.chg HC.out (fun e=>by have:=HGBc.out;have:=HTB.out;omega)).cell 0
   generalize cs[j]=xx at hget hset
   obtain ⟨s,z,q⟩:=xx
   have c9:wr.cell? ⟨rbc,j * 3+2,none⟩=some (.int .i64 q):=by
    have h1:=(how.rd encCn).2.cell hget (j:=2) (v:=.int .i64 q) rfl
    rw [Nat.zero_add] at h1
    exact h1
   have f9:=(how.free encCn (j * 3+2)).2
   have HST:=zh (Chg.set wr ⟨rbc,j * 3+2,none⟩ (.int .i64 0))
   have HOW2:Hid (OwR (wr.setCell ⟨rbc,j * 3+2,none⟩ (.int .i64 0)) b 60 3 cnc (.slice (some ⟨rbc,0,none⟩) cs.length ck) ((cs.take (j+1)).map stCn++cs.drop (j+1))):=zh (by
    obtain ⟨hi,he⟩:=List.getElem?_eq_some_iff.1 hget
    have h1:=how.set1 encCn j 2 (⟨s,z,0⟩:Cn) (.int .i64 0) hi (by decide) (by rw [he];rfl)
    rw [← hset]
    exact h1)
   clear how hget hset hgc
   go_wp2
   go_roundg (cs.length - (j+1))
   case measure=>have:=HLT.out;omega
   case rel=>exact⟨j+1,by go_num,HLT.out,rfl,zh (fun _=>HOW2.out),zh (HC.out.trans HST.out),zh (fun h=>absurd (by omega:0 < cs.length) h)⟩
  ·obtain rfl:j=cs.length:=by omega
   have HBT:=zh (HBT.out.chg HC.out (fun e=>by have:=HGBc.out;have:=HTB.out;omega))
   have HBU:=zh (HBU.out.chg HC.out (fun e=>by have:=HGBc.out;have:=HTB.out;omega))
   have HGR:=zh (grew_lift HGR.out HC.out (fun k hk=>by have h1:k=rbc:=hk;have:=HGBc.out;have:=HTB.out;omega))
   have HT:=zh (HT.out.chg HC.out (fun i h1 h2 h3=>by have h4:i=rbc:=h3;have:=HGBc.out;omega))
   have HNc:Hid (Frs 3 cnc 60 b cq ck (cs.map stCn) wr):=zh (by
    by_cases hn:0 < cs.length
    ·have h1:=HOW.out hn
     rw [List.take_length,List.drop_length,List.append_nil] at h1
     exact⟨(h1.rd encCn).2,fun _=>by rw [List.length_map];exact h1⟩
    ·obtain rfl:cs=[]:=List.eq_nil_of_length_eq_zero (by omega)
     have h1:=Hc.out.1
     exact⟨⟨RdL.nil _ _ _ _ _ h1.max,h1.bare⟩,fun h=>absurd h (by simp)⟩)
   replace Hg:Hid (Frs 4 glc 62 b gq gk gs wr):=zh (by
    by_cases hn:0 < cs.length
    ·exact Hg.out.other encGl HC.out (HGPc.out hn).2.2 (by decide)
    ·exact Hg.out.chg encGl (S:=fun _=>False) (HCE.out hn) (fun _ _ h=>h))
   replace Hs:Hid (Frs 1 strc 9 b sq sk ss wr):=zh (by
    by_cases hn:0 < cs.length
    ·exact Hs.out.other encStr HC.out (HGPc.out hn).2.2 (by decide)
    ·exact Hs.out.chg encStr (S:=fun _=>False) (HCE.out hn) (fun _ _ h=>h))
   replace Ho:Hid (Frs 1 strc 9 b oq ok os wr):=zh (by
    by_cases hn:0 < cs.length
    ·exact Ho.out.other encStr HC.out (HGPc.out hn).2.2 (by decide)
    ·exact Ho.out.chg encStr (S:=fun _=>False) (HCE.out hn) (fun _ _ h=>h))
   replace Hh:Hid (Frs 3 chc 64 b hq hk hs wr):=zh (by
    by_cases hn:0 < cs.length
    ·exact Hh.out.other encCh HC.out (HGPc.out hn).2.2 (by decide)
    ·exact Hh.out.chg encCh (S:=fun _=>False) (HCE.out hn) (fun _ _ h=>h))
   have HBW0:=zh (Nat.le_trans HBW0.out HC.out.size)
   clear HC HCE HOW Hc HGBc HGPc
   rename World=>Y1
   have hbT:=HBT.out
   have r0:=hbT.cell 0
   have r1:=hbT.cell 1
   have r2:=hbT.cell 2
   have r3:=hbT.cell 3
   have r4:=hbT.cell 4
   have r5:=hbT.cell 5
   simp only [zz7,zz8] at r0 r1 r2 r3 r4 r5
   clear hbT
   obtain ⟨rbg,hgbg,hgpg⟩:∃g,b≤g∧(0 < gs.length→gq=some ⟨g,0,none⟩∧g < Y1.heap.size∧∃cur,Y1.heap[g]?=some (.cells cur 62 (0,0))):=by
    by_cases hn:0 < gs.length
    ·have h0:=Hg.out.2 hn
     obtain ⟨g,h1,h2,h3⟩:=h0.at hn
     refine⟨g,h2,fun _=>⟨h1,h3,?_⟩⟩
     obtain ⟨cur,h4⟩:=h0.kind encGl _ h1
     exact⟨cur,h4⟩
    ·exact⟨b,Nat.le_refl _,fun h=>absurd h hn⟩
   have HGBg:=zh hgbg
   have HGPg:=zh hgpg
   clear hgbg hgpg
   go_wp2
   clear r0 r1 r2 r3 r4 r5
   go_loopg [4,24] gs.length (fun gg v_ iv wr=>∃(j:Nat),iv=.int .i64 (j:Int)∧j≤gs.length∧gg=gs.length - j∧Hid (0 < gs.length→OwR wr b 62 4 glc (.slice gq gs.length gk) ((gs.take j).map stGl++gs.drop j))∧Hid (Chg Y1 wr (fun k=>k=rbg))∧Hid (¬ 0 < gs.length→Chg Y1 wr (fun _=>False)))
   case atStart=>exact⟨0,rfl,Nat.zero_le _,rfl,zh (fun hn=>by rw [List.take_zero];exact Hg.out.2 hn),zh (Chg.refl _ _),zh (fun _=>Chg.refl _ _)⟩
   case round =>
    obtain ⟨j,rfl,hj,rfl,HOW,HC,HCE⟩:=hrel
    by_cases hlt:j < gs.length
    ·have hn0:0 < gs.length:=by omega
     obtain ⟨hp1,hgW,hgc⟩:=HGPg.out hn0
     subst hp1
     have how:=HOW.out hn0
     have hget:=mapget (f:=stGl) hlt
     have hset:=mapset (f:=stGl) hlt
     have HLT:=zh (Nat.succ_le_of_lt hlt)
     have r1:wr.cell? ⟨T,1,none⟩=some (.slice (some ⟨rbg,0,none⟩) gs.length gk):=(HBT.out.chg HC.out (fun e=>by have:=HGBg.out;have:=HTB.out;omega)).cell 1
     generalize gs[j]=xx at hget hset
     obtain ⟨s,y,z,q⟩:=xx
     have c9:wr.cell? ⟨rbg,j * 4+3,none⟩=some (.int .i64 q):=by
      have h1:=(how.rd encGl).2.cell hget (j:=3) (v:=.int .i64 q) rfl
      rw [Nat.zero_add] at h1
      exact h1
     have f9:=(how.free encGl (j * 4+3)).2
     have HST:=zh (Chg.set wr ⟨rbg,j * 4+3,none⟩ (.int .i64 0))
     have HOW2:Hid (OwR (wr.setCell ⟨rbg,j * 4+3,none⟩ (.int .i64 0)) b 62 4 glc (.slice (some ⟨rbg,0,none⟩) gs.length gk) ((gs.take (j+1)).map stGl++gs.drop (j+1))):=zh (by
      obtain ⟨hi,he⟩:=List.getElem?_eq_some_iff.1 hget
      have h1:=how.set1 encGl j 3 (⟨s,y,z,0⟩:Gl) (.int .i64 0) hi (by decide) (by rw [he];rfl)
      rw [← hset]
      exact h1)
     clear how hget hset hgc
     go_wp2
     go_roundg (gs.length - (j+1))
     case measure=>have:=HLT.out;omega
     case rel=>exact⟨j+1,by go_num,HLT.out,rfl,zh (fun _=>HOW2.out),zh (HC.out.trans HST.out),zh (fun h=>absurd (by omega:0 < gs.length) h)⟩
    ·obtain rfl:j=gs.length:=by omega
     have HBT:=zh (HBT.out.chg HC.out (fun e=>by have:=HGBg.out;have:=HTB.out;omega))
     have HBU:=zh (HBU.out.chg HC.out (fun e=>by have:=HGBg.out;have:=HTB.out;omega))
     have HGR:=zh (grew_lift HGR.out HC.out (fun k hk=>by have h1:k=rbg:=hk;have:=HGBg.out;have:=HTB.out;omega))
     have HT:=zh (HT.out.chg HC.out (fun i h1 h2 h3=>by have h4:i=rbg:=h3;have:=HGBg.out;omega))
     have HNg:Hid (Frs 4 glc 62 b gq gk (gs.map stGl) wr):=zh (by
      by_cases hn:0 < gs.length
      ·have h1:=HOW.out hn
       rw [List.take_length,List.drop_length,List.append_nil] at h1
       exact⟨(h1.rd encGl).2,fun _=>by rw [List.length_map];exact h1⟩
      ·obtain rfl:gs=[]:=List.eq_nil_of_length_eq_zero (by omega)
       have h1:=Hg.out.1
       exact⟨⟨RdL.nil _ _ _ _ _ h1.max,h1.bare⟩,fun h=>absurd h (by simp)⟩)
     replace HNc:Hid (Frs 3 cnc 60 b cq ck (cs.map stCn) wr):=zh (by
      by_cases hn:0 < gs.length
      ·exact HNc.out.other encCn HC.out (HGPg.out hn).2.2 (by decide)
      ·exact HNc.out.chg encCn (S:=fun _=>False) (HCE.out hn) (fun _ _ h=>h))
     replace Hs:Hid (Frs 1 strc 9 b sq sk ss wr):=zh (by
      by_cases hn:0 < gs.length
      ·exact Hs.out.other encStr HC.out (HGPg.out hn).2.2 (by decide)
      ·exact Hs.out.chg encStr (S:=fun _=>False) (HCE.out hn) (fun _ _ h=>h))
     replace Ho:Hid (Frs 1 strc 9 b oq ok os wr):=zh (by
      by_cases hn:0 < gs.length
      ·exact Ho.out.other encStr HC.out (HGPg.out hn).2.2 (by decide)
      ·exact Ho.out.chg encStr (S:=fun _=>False) (HCE.out hn) (fun _ _ h=>h))
     replace Hh:Hid (Frs 3 chc 64 b hq hk hs wr):=zh (by
      by_cases hn:0 < gs.length
      ·exact Hh.out.other encCh HC.out (HGPg.out hn).2.2 (by decide)
      ·exact Hh.out.chg encCh (S:=fun _=>False) (HCE.out hn) (fun _ _ h=>h))
     have HBW0:=zh (Nat.le_trans HBW0.out HC.out.size)
     clear HC HCE HOW Hg HGBg HGPg
     rename World=>Y2
     have hbT:=HBT.out
     have r0:=hbT.cell 0
     have r1:=hbT.cell 1
     have r2:=hbT.cell 2
     have r3:=hbT.cell 3
     have r4:=hbT.cell 4
     have r5:=hbT.cell 5
     simp only [zz7,zz8] at r0 r1 r2 r3 r4 r5
     clear hbT
     obtain ⟨rbh,hgbh,hgph⟩:∃g,b≤g∧(0 < hs.length→hq=some ⟨g,0,none⟩∧g < Y2.heap.size∧∃cur,Y2.heap[g]?=some (.cells cur 64 (0,0))):=by
      by_cases hn:0 < hs.length
      ·have h0:=Hh.out.2 hn
       obtain ⟨g,h1,h2,h3⟩:=h0.at hn
       refine⟨g,h2,fun _=>⟨h1,h3,?_⟩⟩
       obtain ⟨cur,h4⟩:=h0.kind encCh _ h1
       exact⟨cur,h4⟩
      ·exact⟨b,Nat.le_refl _,fun h=>absurd h hn⟩
     have HGBh:=zh hgbh
     have HGPh:=zh hgph
     clear hgbh hgph
     go_wp2
     clear r0 r1 r2 r3 r4 r5
     go_loopg [5,36] hs.length (fun gg v_ iv wr=>∃(j:Nat),iv=.int .i64 (j:Int)∧j≤hs.length∧gg=hs.length - j∧Hid (0 < hs.length→OwR wr b 64 3 chc (.slice hq hs.length hk) ((hs.take j).map stCn++hs.drop j))∧Hid (Chg Y2 wr (fun k=>k=rbh))∧Hid (¬ 0 < hs.length→Chg Y2 wr (fun _=>False)))
     case atStart=>exact⟨0,rfl,Nat.zero_le _,rfl,zh (fun hn=>by rw [List.take_zero];exact Hh.out.2 hn),zh (Chg.refl _ _),zh (fun _=>Chg.refl _ _)⟩
     case round =>
      obtain ⟨j,rfl,hj,rfl,HOW,HC,HCE⟩:=hrel
      by_cases hlt:j < hs.length
      ·have hn0:0 < hs.length:=by omega
       obtain ⟨hp1,hgW,hgc⟩:=HGPh.out hn0
       subst hp1
       have how:=HOW.out hn0
       have hget:=mapget (f:=stCn) hlt
       have hset:=mapset (f:=stCn) hlt
       have HLT:=zh (Nat.succ_le_of_lt hlt)
       have r4:wr.cell? ⟨T,4,none⟩=some (.slice (some ⟨rbh,0,none⟩) hs.length hk):=(HBT.out.chg HC.out (fun e=>by have:=HGBh.out;have:=HTB.out;omega)).cell 4
       generalize hs[j]=xx at hget hset
       obtain ⟨s,z,q⟩:=xx
       have c9:wr.cell? ⟨rbh,j * 3+2,none⟩=some (.int .i64 q):=by
        have h1:=(how.rd encCh).2.cell hget (j:=2) (v:=.int .i64 q) rfl
        rw [Nat.zero_add] at h1
        exact h1
       have f9:=(how.free encCh (j * 3+2)).2
       have HST:=zh (Chg.set wr ⟨rbh,j * 3+2,none⟩ (.int .i64 0))
       have HOW2:Hid (OwR (wr.setCell ⟨rbh,j * 3+2,none⟩ (.int .i64 0)) b 64 3 chc (.slice (some ⟨rbh,0,none⟩) hs.length hk) ((hs.take (j+1)).map stCn++hs.drop (j+1))):=zh (by
        obtain ⟨hi,he⟩:=List.getElem?_eq_some_iff.1 hget
        have h1:=how.set1 encCh j 2 (⟨s,z,0⟩:Cn) (.int .i64 0) hi (by decide) (by rw [he];rfl)
        rw [← hset]
        exact h1)
       clear how hget hset hgc
       go_wp2
       go_roundg (hs.length - (j+1))
       case measure=>have:=HLT.out;omega
       case rel=>exact⟨j+1,by go_num,HLT.out,rfl,zh (fun _=>HOW2.out),zh (HC.out.trans HST.out),zh (fun h=>absurd (by omega:0 < hs.length) h)⟩
      ·obtain rfl:j=hs.length:=by omega
       have HBT:=zh (HBT.out.chg HC.out (fun e=>by have:=HGBh.out;have:=HTB.out;omega))
       have HBU:=zh (HBU.out.chg HC.out (fun e=>by have:=HGBh.out;have:=HTB.out;omega))
       have HGR:=zh (grew_lift HGR.out HC.out (fun k hk=>by have h1:k=rbh:=hk;have:=HGBh.out;have:=HTB.out;omega))
       have HT:=zh (HT.out.chg HC.out (fun i h1 h2 h3=>by have h4:i=rbh:=h3;have:=HGBh.out;omega))
       have HNh:Hid (Frs 3 chc 64 b hq hk (hs.map stCn) wr):=zh (by
        by_cases hn:0 < hs.length
        ·have h1:=HOW.out hn
         rw [List.take_length,List.drop_length,List.append_nil] at h1
         exact⟨(h1.rd encCh).2,fun _=>by rw [List.length_map];exact h1⟩
        ·obtain rfl:hs=[]:=List.eq_nil_of_length_eq_zero (by omega)
         have h1:=Hh.out.1
         exact⟨⟨RdL.nil _ _ _ _ _ h1.max,h1.bare⟩,fun h=>absurd h (by simp)⟩)
       replace HNc:Hid (Frs 3 cnc 60 b cq ck (cs.map stCn) wr):=zh (by
        by_cases hn:0 < hs.length
        ·exact HNc.out.other encCn HC.out (HGPh.out hn).2.2 (by decide)
        ·exact HNc.out.chg encCn (S:=fun _=>False) (HCE.out hn) (fun _ _ h=>h))
       replace HNg:Hid (Frs 4 glc 62 b gq gk (gs.map stGl) wr):=zh (by
        by_cases hn:0 < hs.length
        ·exact HNg.out.other encGl HC.out (HGPh.out hn).2.2 (by decide)
        ·exact HNg.out.chg encGl (S:=fun _=>False) (HCE.out hn) (fun _ _ h=>h))
       replace Hs:Hid (Frs 1 strc 9 b sq sk ss wr):=zh (by
        by_cases hn:0 < hs.length
        ·exact Hs.out.other encStr HC.out (HGPh.out hn).2.2 (by decide)
        ·exact Hs.out.chg encStr (S:=fun _=>False) (HCE.out hn) (fun _ _ h=>h))
       replace Ho:Hid (Frs 1 strc 9 b oq ok os wr):=zh (by
        by_cases hn:0 < hs.length
        ·exact Ho.out.other encStr HC.out (HGPh.out hn).2.2 (by decide)
        ·exact Ho.out.chg encStr (S:=fun _=>False) (HCE.out hn) (fun _ _ h=>h))
       have HBW0:=zh (Nat.le_trans HBW0.out HC.out.size)
       clear HC HCE HOW Hh HGBh HGPh
       rename World=>Y3
       have hbT:=HBT.out
       have r0:=hbT.cell 0
       have r1:=hbT.cell 1
       have r2:=hbT.cell 2
       have r3:=hbT.cell 3
       have r4:=hbT.cell 4
       have r5:=hbT.cell 5
       simp only [zz7,zz8] at r0 r1 r2 r3 r4 r5
       clear hbT
       obtain ⟨g,L,hL,hrow,hxs⟩:=HT.out
       have HLl:=zh hL
       have HROW:=zh hrow
       have HXS0:=zh hxs
       clear hL hrow hxs HT
       go_wp2
       clear r0 r1 r2 r3 r4 r5
       go_loopg [6,48] ts.length (fun gg v_ iv wr=>∃(j m:Nat) (D:List Td),iv=.int .i64 (j:Int)∧j≤ts.length∧gg=ts.length - j∧Hid (D.length=j∧g+1≤m∧(0 < ts.length→m≤b))∧Hid (0 < ts.length→OwR wr V.heap.size 42 8 tdc (.slice tq ts.length tk) (D++L.drop j))∧Hid (OTs wr ((ts.take j).map stTa) (g+1) m D)∧Hid (OTs wr (ts.drop j) m b (L.drop j))∧Hid (Chg Y3 wr (fun k=>V.heap.size≤k∧k < b)))
       case atStart=>exact⟨0,g+1,[],rfl,Nat.zero_le _,rfl,zh ⟨rfl,Nat.le_refl _,fun hn=>by have h1:=(HROW.out.2 (by have:=HLl.out;omega)).2.1;omega⟩,zh (fun hn=>by have h1:=(HROW.out.2 (by have:=HLl.out;omega)).2.2.2;rw [HLl.out] at h1;exact h1),zh (by rw [List.take_zero,List.map_nil,OTs]),zh HXS0.out,zh (Chg.refl _ _)⟩
       case round =>
        obtain ⟨j,m,D,rfl,hj,rfl,HD,HOW,HXS,HXR,HC⟩:=hrel
        have HBTr:Hid (Blk T [.slice cq cs.length ck,.slice gq gs.length gk,.slice sq ss.length sk,.slice oq os.length ok,.slice hq hs.length hk,.slice tq ts.length tk] 28 wr):=zh (HBT.out.chg HC.out (fun e=>by have h1:V.heap.size≤T∧T < b:=e;have:=HUS.out;omega))
        by_cases hlt:j < ts.length
        ·have hn0:0 < ts.length:=by omega
         obtain ⟨hag,hgb,hp1,_⟩:=HROW.out.2 (by have:=HLl.out;omega)
         subst hp1
         have how:=HOW.out hn0
         have hjL:j < L.length:=by have:=HLl.out;omega
         have hxr:=HXR.out
         rw [List.drop_eq_getElem_cons hlt,List.drop_eq_getElem_cons hjL] at hxr
         obtain ⟨d,L',m',hdl,hm1,hm2,hxd,hxr2⟩:=OTs_cons hxr
         obtain ⟨he1,he2⟩:=List.cons.inj hdl
         rw [← he2] at hxr2
         have hd:L[j]?=some d:=by rw [List.getElem?_eq_getElem hjL,he1]
         obtain ⟨bp,bc,rfl,hz,hYj⟩:=hxd
         have htk:=List.take_succ_eq_append_getElem hlt
         have HLT:=zh (Nat.succ_le_of_lt hlt)
         have hget:=dropget HD.out.1 hd
         clear hxr hdl he1 he2
         generalize ts[j]=x at hd hz hYj htk hget
         obtain ⟨s,pp,dd,ch_,pm,wi,y,q⟩:=x
         replace hYj:OS wr m m' bp bc y:=hYj
         replace hz:s.size≤1048576∧ch_.size≤1048576∧pm.size≤1048576:=hz
         have hcapj:y.length≤bc:=hYj.sl.cap.1
         have hmaxj:=hYj.sl.cap.2.1
         have c7:wr.cell? ⟨g,j * 8+7,none⟩=some (.int .i64 q):=by
          have h1:=(how.rd encTd).2.cell hget (j:=7) (v:=.int .i64 q) rfl
          rw [Nat.zero_add] at h1
          exact h1
         have f7:=(how.free encTd (j * 8+7)).2
         have r5:wr.cell? ⟨T,5,none⟩=some (.slice (some ⟨g,0,none⟩) ts.length tk):=HBTr.out.cell 5
         have HMM:=zh (And.intro hm1 (And.intro hm2 (And.intro hag hgb)))
         have HGM:Hid (g+1≤m):=zh HD.out.2.1
         have HXR2:=zh hxr2
         have HTK:=zh htk
         have HZ:=zh hz
         have HSLT:Hid ((D++L.drop j).set j (⟨s,pp,dd,ch_,pm,wi,bp,y.length,bc,0⟩:Td)=(D++[(⟨s,pp,dd,ch_,pm,wi,bp,y.length,bc,0⟩:Td)])++L.drop (j+1)):=zh (dropset HD.out.1 hd)
         have HGT:Hid (((D++[(⟨s,pp,dd,ch_,pm,wi,bp,y.length,bc,0⟩:Td)])++L.drop (j+1))[j]?=some (⟨s,pp,dd,ch_,pm,wi,bp,y.length,bc,0⟩:Td)):=zh (by
          rw [List.append_assoc,List.getElem?_append_right (by have:=HD.out.1;omega),HD.out.1,Nat.sub_self]
          rfl)
         go_upto_region 21 with fail
         have hst:Chg wr (wr.setCell ⟨g,j * 8+7,none⟩ (.int .i64 0)) (fun k=>k=g):=Chg.set wr ⟨g,j * 8+7,none⟩ (.int .i64 0)
         have how1:OwR (wr.setCell ⟨g,j * 8+7,none⟩ (.int .i64 0)) V.heap.size 42 8 tdc (.slice (some ⟨g,0,none⟩) ts.length tk) ((D++[(⟨s,pp,dd,ch_,pm,wi,bp,y.length,bc,0⟩:Td)])++L.drop (j+1)):=by
          obtain ⟨hi,he⟩:=List.getElem?_eq_some_iff.1 hget
          have h1:=how.set1 encTd j 7 (⟨s,pp,dd,ch_,pm,wi,bp,y.length,bc,0⟩:Td) (.int .i64 0) hi (by decide) (by rw [he];rfl)
          rw [HSLT.out] at h1
          exact h1
         generalize (wr.setCell ⟨g,j * 8+7,none⟩ (.int .i64 0))=V1 at hst how1 ⊢
         have HYj:=zh (hYj.chg hst (fun i h1 _ h2=>by have h3:i=g:=h2;have:=HGM.out;omega))
         have hbt1:=HBTr.out.chg hst (fun e=>by have h3:T=g:=e;have h1:=HMM.out;have:=HUS.out;omega)
         have r5:V1.cell? ⟨T,5,none⟩=some (.slice (some ⟨g,0,none⟩) ts.length tk):=hbt1.cell 5
         have HST:=zh hst
         have HW1:=zh how1
         clear hd hz hYj htk hget how how1 hst hxr2 hm1 hm2 hag hgb c7 f7 hbt1
         have c6:V1.cell? ⟨g,j * 8+6,none⟩=some (.slice bp y.length bc):=by
          have h1:=(HW1.out.rd encTd).2.cell HGT.out (j:=6) (v:=.slice bp y.length bc) rfl
          rw [Nat.zero_add] at h1
          exact h1
         have HIY:=zh (sS_any _ y (Nat.lt_succ_self _) m m' V1 bp bc HYj.out)
         go_wp2_with (go_at_call 91;(with_reducible refine HIY.out.mono ?_);rintro e_ W4 ⟨rfl,hx_,hc_⟩;have HX4:=zh hx_;have HC4:=zh hc_;clear hx_ hc_)
         have HFIN:Hid (OwR W4 V.heap.size 42 8 tdc (.slice (some ⟨g,0,none⟩) ts.length tk) ((D++[(⟨s,pp,dd,ch_,pm,wi,bp,y.length,bc,0⟩:Td)])++L.drop (j+1))∧OTs W4 ((ts.take (j+1)).map stTa) (g+1) m' (D++[(⟨s,pp,dd,ch_,pm,wi,bp,y.length,bc,0⟩:Td)])∧OTs W4 (ts.drop (j+1)) m' b (L.drop (j+1))∧Chg Y3 W4 (fun k=>V.heap.size≤k∧k < b)):=zh (by
          obtain ⟨h1,h2,h3,h4⟩:=HMM.out
          have h5:=HGM.out
          refine⟨HW1.out.chg HC4.out (fun ad ha hk=>by obtain rfl:=Option.some.inj ha;have hk2:m≤g∧g < m':=hk;omega),?_,?_,?_⟩
          ·rw [map_snoc HTK.out]
           have t1:=OTs_chg HC4.out (OTs_chg HST.out HXS.out (fun i a1 _ a2=>by have a3:i=g:=a2;omega)) (fun i a1 a2 a3=>by have a4:m≤i∧i < m':=a3;omega)
           refine OTs_snoc t1 h5 h1 ⟨bp,bc,?_,HZ.out,HX4.out⟩
           show _=(⟨s,pp,dd,ch_,pm,wi,bp,(stSs y).length,bc,0⟩:Td)
           rw [stSs_len]
          ·exact OTs_chg HC4.out (OTs_chg HST.out HXR2.out (fun i a1 _ a2=>by have a3:i=g:=a2;omega)) (fun i a1 a2 a3=>by have a4:m≤i∧i < m':=a3;omega)
          ·exact(HC.out.trans (HST.out.mono (fun i hi=>by have a3:i=g:=hi;omega))).trans (HC4.out.mono (fun i hi=>by have a4:m≤i∧i < m':=hi;omega)))
         go_roundg (ts.length - (j+1))
         case measure=>have:=HLT.out;omega
         case rel=>exact⟨j+1,m',D++[(⟨s,pp,dd,ch_,pm,wi,bp,y.length,bc,0⟩:Td)],by go_num,HLT.out,rfl,zh ⟨by rw [List.length_append,HD.out.1];rfl,by have:=HMM.out.1;have:=HGM.out;omega,fun _=>HMM.out.2.1⟩,zh (fun _=>HFIN.out.1),zh HFIN.out.2.1,zh HFIN.out.2.2.1,zh HFIN.out.2.2.2⟩
        ·obtain rfl:j=ts.length:=by omega
         have HOT:Hid (OT wr V.heap.size b tq tk (ts.map stTa)):=zh (by
          have hdl:L.drop ts.length=[]:=List.drop_eq_nil_of_le (by rw [HLl.out];exact Nat.le_refl _)
          have hxs:=HXS.out
          rw [List.take_length] at hxs
          have hr:=HROW.out
          by_cases hn:0 < ts.length
          ·have h1:=HOW.out hn
           rw [hdl,List.append_nil] at h1
           obtain ⟨a1,a2,a3,_⟩:=hr.2 (by have:=HLl.out;omega)
           exact⟨g,D,by rw [HD.out.1,List.length_map],⟨(h1.rd encTd).2,fun _=>⟨a1,a2,a3,by rw [HD.out.1];exact h1⟩⟩,OTs_wide hxs (HD.out.2.2 hn)⟩
          ·obtain rfl:ts=[]:=List.eq_nil_of_length_eq_zero (by omega)
           obtain rfl:D=[]:=List.eq_nil_of_length_eq_zero (by rw [HD.out.1];rfl)
           exact⟨g,[],rfl,⟨⟨RdL.nil _ _ _ _ _ hr.1.max,hr.1.bare⟩,fun h=>absurd h (by simp)⟩,by rw [List.map_nil,OTs]⟩)
         have hno:∀i,b≤i→¬ (V.heap.size≤i∧i < b):=fun i h1 h2=>by omega
         have hbu:=HBU.out.chg HC.out (fun e=>by have h1:V.heap.size≤U∧U < b:=e;have:=HUS.out;omega)
         have hsz:=HC.out.size
         have hgr:=grew_lift HGR.out HC.out (fun k hk=>by have h1:V.heap.size≤k∧k < b:=hk;have:=HTB.out;omega)
         have kc:=HNc.out.chg encCn HC.out hno
         have kg:=HNg.out.chg encGl HC.out hno
         have kh:=HNh.out.chg encCh HC.out hno
         have ks:=Hs.out.chg encStr HC.out hno
         have ko:=Ho.out.chg encStr HC.out hno
         have HFIN:Hid (∀w',Chg wr w' (fun k=>k=U)→CpW w' w.heap.size (stP ⟨cs,gs,ss,os,hs,ts⟩) cq gq sq oq hq tq ck gk sk ok hk tk∧Grew w w'):=zh (fun w' hc=>by
          have hnU:∀i,b≤i→¬ (i=U):=fun i h1 h2=>by have:=HTB.out;omega
          have hbw:b≤w'.heap.size:=Nat.le_trans HBW0.out (Nat.le_trans hsz hc.size)
          exact⟨⟨b,HTB.out.2.2.1,hbw,OT.low HTB.out.2.2.2 (HOT.out.chg hc (fun i h1 _ h2=>by have h3:i=U:=h2;have:=HUS.out;omega)),kc.chg encCn hc hnU,kg.chg encGl hc hnU,ks.chg encStr hc hnU,ko.chg encStr hc hnU,kh.chg encCh hc hnU⟩,grew_lift hgr hc (fun k hk=>by have h3:k=U:=hk;have:=HUS.out;omega)⟩)
         have hbt:=HBTr.out
         have u0:=hbt.cell 0
         have z0:=hbu.cell 0
         have zf0:=hbu.free 0
         have u1:=hbt.cell 1
         have z1:=hbu.cell 1
         have zf1:=hbu.free 1
         have u2:=hbt.cell 2
         have z2:=hbu.cell 2
         have zf2:=hbu.free 2
         have u3:=hbt.cell 3
         have z3:=hbu.cell 3
         have zf3:=hbu.free 3
         have u4:=hbt.cell 4
         have z4:=hbu.cell 4
         have zf4:=hbu.free 4
         have u5:=hbt.cell 5
         have z5:=hbu.cell 5
         have zf5:=hbu.free 5
         simp only [zz7,zz8] at u0 u1 u2 u3 u4 u5 z0 z1 z2 z3 z4 z5
         clear hbt hbu hsz hgr kc kg kh ks ko hno HC HXR HXS HOW HD HROW
         go_wp2
         refine rn_ret_c28 Tryz.results35 (S0:=U) (v0_0:=.slice cq cs.length ck) (v0_1:=.slice gq gs.length gk) (v0_2:=.slice sq ss.length sk) (v0_3:=.slice oq os.length ok) (v0_4:=.slice hq hs.length hk) (v0_5:=.slice tq ts.length tk) rfl (by go_simp) (by go_simp) (by go_simp) (by go_simp) (by go_simp) (by go_simp) ?_
         obtain ⟨h5,h6⟩:=HFIN.out _ (((((((Chg.refl wr (fun k=>k=U)).then_set ⟨U,0,none⟩ (.slice cq cs.length ck) rfl).then_set ⟨U,1,none⟩ (.slice gq gs.length gk) rfl).then_set ⟨U,2,none⟩ (.slice sq ss.length sk) rfl).then_set ⟨U,3,none⟩ (.slice oq os.length ok) rfl).then_set ⟨U,4,none⟩ (.slice hq hs.length hk) rfl).then_set ⟨U,5,none⟩ (.slice tq ts.length tk) rfl)
         exact⟨cq,gq,sq,oq,hq,tq,ck,gk,sk,ok,hk,tk,rfl,h5,h6⟩
end Go.Proofs.YtcknpcbkofgdoaaGreatDoor
