/-
  LAYER 16 (ast), THE PROGRAM: Size, Depth.
  strings.Builder, MADE AND WRITTEN BY ONE CALL (any program): in a block of its own, or at the head of a struct of the call's own.
  (*strings.Builder).String of a builder that lies at the head of a struct of the call's own (layer 16: printer).
  LAYER 16 (ast), THE PROGRAM: what writeExpr does to a builder; level, leastLeft, writeOperand.
  LAYER 16 (ast), THE PROGRAM: writeExpr.
  LAYER 16 (ast), THE PROGRAM: text, Expr.
-/
import Derived.Test.YtcknpcbkofgdoaaGreatDoorZeShort
import Derived.Test.YtcknpcbkofgdoaaGreatDoorZe05
import Derived.Test.YtcknpcbkofgdoaaGreatDoorZe00
import Derived.Deep.LoopGhost
import Derived.Deep.Cut
import Derived.Shelf.Abstract
import Derived.Test.YtcknpcbkofgdoaaGreatDoorZe03
import Derived.Lib.Builder
import Derived.Lib.FrozenHead
import Derived.Lib.OthersKept
import Derived.Lib.BufferKept
import Derived.Lib.UnsafeStr
import Derived.Shelf.RegionOpenPlain
import Derived.Test.YtcknpcbkofgdoaaGreatDoorZe01
import Derived.Test.YtcknpcbkofgdoaaGreatDoorZe02
namespace Go.Proofs.YtcknpcbkofgdoaaGreatDoor
open Go Go.RowKit Go.IntWalk
set_option linter.unusedSimpArgs false
set_option linter.unusedVariables false
set_option maxRecDepth 8000
section
variable {dst:Option Tmp}{ty:TypeId}{pos:String}{after:Array Edge}{g:Option (Nat × Bool)}{a:Act}{w:World}{T:Value→World→Prop}
end
set_option maxHeartbeats 8000000 in
theorem xsize_any:∀(x:Xp) (B:Nat→Prop) (w:World) (p:Option Addr) (c:Nat),XL B w p c x.ar→nX x≤1048576 →
 Calls Tryz.prog 122 #[xv x.k x.s x.v x.o p x.ar.length c x.q] w fun e w'=>e=.returned (.int .i64 (nX x:Nat))∧Grew w w':=by
 intro x
 induction x using Xp.ind with
 | h kx sx vx ox rx qx ih =>
 intro B w px cx hx hn
 replace hx:XL B w px cx rx:=hx
 have hnx:nX ⟨kx,sx,vx,ox,rx,qx⟩=nXs rx+1:=rfl
 have hdx:nX ⟨kx,sx,vx,ox,rx,qx⟩=nXs rx+1:=rfl
 rw [hnx] at hn
 show Calls Tryz.prog 122 #[xv kx sx vx ox px rx.length cx qx] w fun e w'=>e=.returned (.int .i64 ((nX ⟨kx,sx,vx,ox,rx,qx⟩:Nat):Int))∧Grew w w'
 rw [hdx,nXs_sum]
 have hcap:rx.length≤cx:=hx.cap.1
 have hmax:=hx.cap.2.1
 have hle:sumF nX rx≤4194304:=by rw [← nXs_sum];omega
 have HC:Hid (∀W,Grew w W→Calls Tryz.prog 121 #[.slice px rx.length cx,.func (.func 122) #[] #[]] W fun e w'=>e=.returned (.int .i64 (sumF nX rx:Nat))∧Grew W w') :=
  zh (fun W hW=>totalX_any 122 #[] en_xs rx nX B W px cx (hx.kept hW) (by rw [← nXs_sum];omega) (fun y hy p_ c_ W2 h1 h2 hW2=>ih y hy B W2 p_ c_ h1 (by have:=nXs_mem hy;omega)))
 generalize sumF nX rx=m at HC hle ⊢
 clear ih hx hn hnx hdx
 go_enter Tryz.func122,Tryz.ntmps122
 go_wp2_with (go_at_call 121;(with_reducible refine(HC.out _ ((Grew.refl _).alloc _)).mono ?_);rintro e w1 ⟨rfl,g1⟩;have HG1:=zh (((Grew.refl _).alloc _).trans g1);clear g1)
 go_ret
 exact⟨by go_num,HG1.out⟩
set_option maxHeartbeats 8000000 in
theorem xdepth_any:∀(x:Xp) (B:Nat→Prop) (w:World) (p:Option Addr) (c:Nat),XL B w p c x.ar→nX x≤1048576 →
 Calls Tryz.prog 124 #[xv x.k x.s x.v x.o p x.ar.length c x.q] w fun e w'=>e=.returned (.int .i64 (dX x:Nat))∧Grew w w':=by
 intro x
 induction x using Xp.ind with
 | h kx sx vx ox rx qx ih =>
 intro B w px cx hx hn
 replace hx:XL B w px cx rx:=hx
 have hnx:nX ⟨kx,sx,vx,ox,rx,qx⟩=nXs rx+1:=rfl
 have hdx:dX ⟨kx,sx,vx,ox,rx,qx⟩=dXs rx+1:=rfl
 rw [hnx] at hn
 show Calls Tryz.prog 124 #[xv kx sx vx ox px rx.length cx qx] w fun e w'=>e=.returned (.int .i64 ((dX ⟨kx,sx,vx,ox,rx,qx⟩:Nat):Int))∧Grew w w'
 rw [hdx,dXs_max]
 have hcap:rx.length≤cx:=hx.cap.1
 have hmax:=hx.cap.2.1
 have hle:maxF dX rx≤4194304:=by rw [← dXs_max];have:=dXs_le rx;omega
 have HC:Hid (∀W,Grew w W→Calls Tryz.prog 123 #[.slice px rx.length cx,.func (.func 124) #[] #[]] W fun e w'=>e=.returned (.int .i64 (maxF dX rx:Nat))∧Grew W w') :=
  zh (fun W hW=>greatX_any 124 #[] en_xd rx dX B W px cx (hx.kept hW) (fun y hy=>by have h1:=nXs_mem hy;have h2:=dX_le y;omega) (fun y hy p_ c_ W2 h1 h2 hW2=>ih y hy B W2 p_ c_ h1 (by have:=nXs_mem hy;omega)))
 generalize maxF dX rx=m at HC hle ⊢
 clear ih hx hn hnx hdx
 go_enter Tryz.func124,Tryz.ntmps124
 go_wp2_with (go_at_call 123;(with_reducible refine(HC.out _ ((Grew.refl _).alloc _)).mono ?_);rintro e w1 ⟨rfl,g1⟩;have HG1:=zh (((Grew.refl _).alloc _).trans g1);clear g1)
 go_ret
 exact⟨by go_num,HG1.out⟩
set_option maxHeartbeats 8000000 in
theorem ssize_any:∀(x:Sm) (B:Nat→Prop) (w:World) (pa:Option Addr) (ca:Nat) (pb:Option Addr) (cb:Nat) (pe:Option Addr) (ce:Nat),XL B w pa ca x.ar→SL B w pb cb x.b→SL B w pe ce x.e→nS x≤1048576→mS x≤1048576 →
 Calls Tryz.prog 84 #[sv x.k x.s x.n pa x.ar.length ca pb x.b.length cb pe x.e.length ce x.q] w fun e w'=>e=.returned (.int .i64 (zSm x:Nat))∧Grew w w':=by
 intro x
 induction x using Sm.ind with
 | h kx sx nx rx yx ex qx ihb ihe =>
 intro B w pa ca pb cb pe ce hx hy he hn hm
 replace hx:XL B w pa ca rx:=hx
 replace hy:SL B w pb cb yx:=hy
 replace he:SL B w pe ce ex:=he
 have hns:nS ⟨kx,sx,nx,rx,yx,ex,qx⟩=nSs yx+nSs ex+1:=rfl
 have hms:mS ⟨kx,sx,nx,rx,yx,ex,qx⟩=nXs rx+mSs yx+mSs ex:=rfl
 rw [hns] at hn
 rw [hms] at hm
 have hEQ:zSm ⟨kx,sx,nx,rx,yx,ex,qx⟩=1+sumF nX rx+sumF zSm yx+sumF zSm ex:=by rw [zSm,hns,hms,← nXs_sum,← zS_sum,← zS_sum];omega
 show Calls Tryz.prog 84 #[sv kx sx nx pa rx.length ca pb yx.length cb pe ex.length ce qx] w fun e w'=>e=.returned (.int .i64 ((zSm ⟨kx,sx,nx,rx,yx,ex,qx⟩:Nat):Int))∧Grew w w'
 rw [hEQ]
 have hcap:rx.length≤ca∧yx.length≤cb∧ex.length≤ce:=⟨hx.cap.1,hy.cap.1,he.cap.1⟩
 have hmax:=And.intro hx.cap.2.1 (And.intro hy.cap.2.1 he.cap.2.1)
 have hl0:sumF nX rx≤1048576:=by rw [← nXs_sum];omega
 have hl1:sumF zSm yx≤2097152:=by rw [← zS_sum];omega
 have hl2:sumF zSm ex≤2097152:=by rw [← zS_sum];omega
 have HX0:Hid (∀W,Grew w W→Calls Tryz.prog 121 #[.slice pa rx.length ca,.func (.func 122) #[] #[]] W fun e w'=>e=.returned (.int .i64 (sumF nX rx:Nat))∧Grew W w') :=
  zh (fun W hW=>totalX_any 122 #[] en_xs rx nX B W pa ca (hx.kept hW) (by rw [← nXs_sum];omega) (fun y hy p_ c_ W2 h1 h2 hW2=>xsize_any y B W2 p_ c_ h1 (by have:=nXs_mem hy;omega)))
 have HX1:Hid (∀W,Grew w W→Calls Tryz.prog 83 #[.slice pb yx.length cb,.func (.func 84) #[] #[]] W fun e w'=>e=.returned (.int .i64 (sumF zSm yx:Nat))∧Grew W w') :=
  zh (fun W hW=>totalS_any 84 #[] en_ss yx zSm B W pb cb (hy.kept hW) (by rw [← zS_sum];omega) (fun y hy' a1 a2 a3 a4 a5 a6 W2 q1 q2 q3 q4 hW2=>ihb y hy' B W2 a1 a2 a3 a4 a5 a6 q1 q2 q3 (by have:=nSs_mem hy';omega) (by have:=mSs_mem hy';omega)))
 have HX2:Hid (∀W,Grew w W→Calls Tryz.prog 83 #[.slice pe ex.length ce,.func (.func 84) #[] #[]] W fun e w'=>e=.returned (.int .i64 (sumF zSm ex:Nat))∧Grew W w') :=
  zh (fun W hW=>totalS_any 84 #[] en_ss ex zSm B W pe ce (he.kept hW) (by rw [← zS_sum];omega) (fun y hy' a1 a2 a3 a4 a5 a6 W2 q1 q2 q3 q4 hW2=>ihe y hy' B W2 a1 a2 a3 a4 a5 a6 q1 q2 q3 (by have:=nSs_mem hy';omega) (by have:=mSs_mem hy';omega)))
 generalize sumF nX rx=m0 at HX0 hl0 ⊢
 generalize sumF zSm yx=m1 at HX1 hl1 ⊢
 generalize sumF zSm ex=m2 at HX2 hl2 ⊢
 clear ihb ihe hx hy he hn hm hns hms hEQ
 go_enter Tryz.func84,Tryz.ntmps84
 go_upto_region 1 with fail
 have hb1:Blk w.heap.size [.int .i64 kx,.string sx,.int .i64 nx,.slice pa rx.length ca,.slice pb yx.length cb,.slice pe ex.length ce,.int .i64 qx] 49 (w.alloc (Obj.cells #[.int .i64 kx,.string sx,.int .i64 nx,.slice pa rx.length ca,.slice pb yx.length cb,.slice pe ex.length ce,.int .i64 qx] 49)):=Blk.new w _ _
 have hgV:Grew w (w.alloc (Obj.cells #[.int .i64 kx,.string sx,.int .i64 nx,.slice pa rx.length ca,.slice pb yx.length cb,.slice pe ex.length ce,.int .i64 qx] 49)):=(Grew.refl w).alloc _
 generalize (w.alloc (Obj.cells #[.int .i64 kx,.string sx,.int .i64 nx,.slice pa rx.length ca,.slice pb yx.length cb,.slice pe ex.length ce,.int .i64 qx] 49))=V at hb1 hgV ⊢
 generalize w.heap.size=T at hb1 ⊢
 have HGV:=zh hgV
 have d0:Atv ⟨T,0,none⟩ (.int .i64 kx) V.drew:=(hb1.grew (Grew.refl _).drw).atv 0 rfl
 have d1:Atv ⟨T,1,none⟩ (.string sx) V.drew:=(hb1.grew (Grew.refl _).drw).atv 1 rfl
 have d2:Atv ⟨T,2,none⟩ (.int .i64 nx) V.drew:=(hb1.grew (Grew.refl _).drw).atv 2 rfl
 have d3:Atv ⟨T,3,none⟩ (.slice pa rx.length ca) V.drew:=(hb1.grew (Grew.refl _).drw).atv 3 rfl
 have d4:Atv ⟨T,4,none⟩ (.slice pb yx.length cb) V.drew:=(hb1.grew (Grew.refl _).drw).atv 4 rfl
 have d5:Atv ⟨T,5,none⟩ (.slice pe ex.length ce) V.drew:=(hb1.grew (Grew.refl _).drw).atv 5 rfl
 have d6:Atv ⟨T,6,none⟩ (.int .i64 qx) V.drew:=(hb1.grew (Grew.refl _).drw).atv 6 rfl
 clear hb1 hgV
 refine wp_posts [some 3,some 4,some 5,some 6,some 7,some 8,some 9,some 10,some 11,some 12,some 13,some 14,some 2] (Zfb (Ztd (Ztc (Zta [])))) [fun v _=>v=.pointer (some ⟨T,3,none⟩),fun v _=>v=.slice pa (rx.length) (ca),fun v _=>v=.int .i64 (((m0:Nat):Int)),fun v _=>v=.int .i64 ((1)+(((m0:Nat):Int))),fun v _=>v=.pointer (some ⟨T,4,none⟩),fun v _=>v=.slice pb (yx.length) (cb),fun v _=>v=.int .i64 (((m1:Nat):Int)),fun v _=>v=.int .i64 (((1)+(((m0:Nat):Int)))+(((m1:Nat):Int))),fun v _=>v=.pointer (some ⟨T,5,none⟩),fun v _=>v=.slice pe (ex.length) (ce),fun v _=>v=.int .i64 (((m2:Nat):Int)),fun v _=>v=.int .i64 ((((1)+(((m0:Nat):Int)))+(((m1:Nat):Int)))+(((m2:Nat):Int))),fun v _=>v=.int .i64 ((((1)+(((m0:Nat):Int)))+(((m1:Nat):Int)))+(((m2:Nat):Int)))] (by kernel_rfl) (by kernel_rfl) rfl ?_ ⟨?_,?_,?_,?_,?_,?_,?_,?_,?_,?_,?_,?_,?_,trivial⟩ ?_
 ·exact⟨Zi,Zi,Zi,Zi,Zi,Zi,Zi,Zi,Zi,Zi,Zi,Zi,Zi,trivial⟩
 ·intro u w hR hd;exact rn_fld_49_3 (ev rfl) Zr
 ·intro u w hR hd;exact rn_ld_33 (ev (hd.1 rfl)) (d3.kept hR) Zr
 ·intro u w hR hd;exact runs_c2 en_toX (ev (hd.1 rfl)) rfl (callp (fun _ e=>e) (HX0.out _ (HGV.out.trans ((Grew.refl _).drw.trans hR))))
 ·intro u w hR hd;exact rn_add_3 rfl (ev (hd.1 rfl)) (by omega) Zr
 ·intro u w hR hd;exact rn_fld_49_4 (ev rfl) Zr
 ·intro u w hR hd;exact rn_ld_40 (ev (hd.1 rfl)) (d4.kept hR) Zr
 ·intro u w hR hd;exact runs_c2 en_toS (ev (hd.1 rfl)) rfl (callp (fun _ e=>e) (HX1.out _ (HGV.out.trans ((Grew.refl _).drw.trans hR))))
 ·intro u w hR hd;exact rn_add_3 (ev (hd.1 rfl)) (ev (hd.2.1 rfl)) (by omega) Zr
 ·intro u w hR hd;exact rn_fld_49_5 (ev rfl) Zr
 ·intro u w hR hd;exact rn_ld_40 (ev (hd.1 rfl)) (d5.kept hR) Zr
 ·intro u w hR hd;exact runs_c2 en_toS (ev (hd.1 rfl)) rfl (callp (fun _ e=>e) (HX2.out _ (HGV.out.trans ((Grew.refl _).drw.trans hR))))
 ·intro u w hR hd;exact rn_add_3 (ev (hd.1 rfl)) (ev (hd.2.1 rfl)) (by omega) Zr
 ·intro u w hR hd;exact runs_mva (ev (hd.1 rfl)) Zr
 ·intro u w4 hR hh
  have he:u 2=.int .i64 ((((1)+(((m0:Nat):Int)))+(((m1:Nat):Int)))+(((m2:Nat):Int))):=hh 12 (by decide)
  simp only [mixA,mixL,zz9,zz0,he]
  have HG4:Hid (Grew w w4):=zh (HGV.out.trans ((Grew.refl V).drw.trans hR))
  clear hh he hR d0 d1 d2 d3 d4 d5 d6 HGV
  go_wp2
  go_ret
  exact⟨by go_num,HG4.out⟩
set_option maxHeartbeats 8000000 in
theorem sdepth_any:∀(x:Sm) (B:Nat→Prop) (w:World) (pa:Option Addr) (ca:Nat) (pb:Option Addr) (cb:Nat) (pe:Option Addr) (ce:Nat),XL B w pa ca x.ar→SL B w pb cb x.b→SL B w pe ce x.e→nS x≤1048576→mS x≤1048576 →
 Calls Tryz.prog 88 #[sv x.k x.s x.n pa x.ar.length ca pb x.b.length cb pe x.e.length ce x.q] w fun e w'=>e=.returned (.int .i64 (dS x:Nat))∧Grew w w':=by
 intro x
 induction x using Sm.ind with
 | h kx sx nx rx yx ex qx ihb ihe =>
 intro B w pa ca pb cb pe ce hx hy he hn hm
 replace hx:XL B w pa ca rx:=hx
 replace hy:SL B w pb cb yx:=hy
 replace he:SL B w pe ce ex:=he
 have hns:nS ⟨kx,sx,nx,rx,yx,ex,qx⟩=nSs yx+nSs ex+1:=rfl
 have hms:mS ⟨kx,sx,nx,rx,yx,ex,qx⟩=nXs rx+mSs yx+mSs ex:=rfl
 rw [hns] at hn
 rw [hms] at hm
 have hEQ:dS ⟨kx,sx,nx,rx,yx,ex,qx⟩=1+max (max (maxF dX rx) (maxF dS yx)) (maxF dS ex):=by rw [dS,dXs_max,dSs_max,dSs_max];omega
 show Calls Tryz.prog 88 #[sv kx sx nx pa rx.length ca pb yx.length cb pe ex.length ce qx] w fun e w'=>e=.returned (.int .i64 ((dS ⟨kx,sx,nx,rx,yx,ex,qx⟩:Nat):Int))∧Grew w w'
 rw [hEQ]
 have hcap:rx.length≤ca∧yx.length≤cb∧ex.length≤ce:=⟨hx.cap.1,hy.cap.1,he.cap.1⟩
 have hmax:=And.intro hx.cap.2.1 (And.intro hy.cap.2.1 he.cap.2.1)
 have hl0:maxF dX rx≤1048576:=by rw [← dXs_max];have:=dXs_le rx;omega
 have hl1:maxF dS yx≤2097152:=by rw [← dSs_max];have:=dSs_le yx;omega
 have hl2:maxF dS ex≤2097152:=by rw [← dSs_max];have:=dSs_le ex;omega
 have HX0:Hid (∀W,Grew w W→Calls Tryz.prog 123 #[.slice pa rx.length ca,.func (.func 124) #[] #[]] W fun e w'=>e=.returned (.int .i64 (maxF dX rx:Nat))∧Grew W w') :=
  zh (fun W hW=>greatX_any 124 #[] en_xd rx dX B W pa ca (hx.kept hW) (fun y hy=>by have h1:=nXs_mem hy;have h2:=dX_le y;omega) (fun y hy p_ c_ W2 h1 h2 hW2=>xdepth_any y B W2 p_ c_ h1 (by have:=nXs_mem hy;omega)))
 have HX1:Hid (∀W,Grew w W→Calls Tryz.prog 87 #[.slice pb yx.length cb,.func (.func 88) #[] #[]] W fun e w'=>e=.returned (.int .i64 (maxF dS yx:Nat))∧Grew W w') :=
  zh (fun W hW=>greatS_any 88 #[] en_sd yx dS B W pb cb (hy.kept hW) (fun y hy=>by have h1:=nSs_mem hy;have h2:=mSs_mem hy;have h3:=dS_le y;omega) (fun y hy' a1 a2 a3 a4 a5 a6 W2 q1 q2 q3 q4 hW2=>ihb y hy' B W2 a1 a2 a3 a4 a5 a6 q1 q2 q3 (by have:=nSs_mem hy';omega) (by have:=mSs_mem hy';omega)))
 have HX2:Hid (∀W,Grew w W→Calls Tryz.prog 87 #[.slice pe ex.length ce,.func (.func 88) #[] #[]] W fun e w'=>e=.returned (.int .i64 (maxF dS ex:Nat))∧Grew W w') :=
  zh (fun W hW=>greatS_any 88 #[] en_sd ex dS B W pe ce (he.kept hW) (fun y hy=>by have h1:=nSs_mem hy;have h2:=mSs_mem hy;have h3:=dS_le y;omega) (fun y hy' a1 a2 a3 a4 a5 a6 W2 q1 q2 q3 q4 hW2=>ihe y hy' B W2 a1 a2 a3 a4 a5 a6 q1 q2 q3 (by have:=nSs_mem hy';omega) (by have:=mSs_mem hy';omega)))
 generalize maxF dX rx=m0 at HX0 hl0 ⊢
 generalize maxF dS yx=m1 at HX1 hl1 ⊢
 generalize maxF dS ex=m2 at HX2 hl2 ⊢
 clear ihb ihe hx hy he hn hm hns hms hEQ
 go_enter Tryz.func88,Tryz.ntmps88
 go_upto_region 1 with fail
 have hb1:Blk w.heap.size [.int .i64 kx,.string sx,.int .i64 nx,.slice pa rx.length ca,.slice pb yx.length cb,.slice pe ex.length ce,.int .i64 qx] 49 (w.alloc (Obj.cells #[.int .i64 kx,.string sx,.int .i64 nx,.slice pa rx.length ca,.slice pb yx.length cb,.slice pe ex.length ce,.int .i64 qx] 49)):=Blk.new w _ _
 have hgV:Grew w (w.alloc (Obj.cells #[.int .i64 kx,.string sx,.int .i64 nx,.slice pa rx.length ca,.slice pb yx.length cb,.slice pe ex.length ce,.int .i64 qx] 49)):=(Grew.refl w).alloc _
 generalize (w.alloc (Obj.cells #[.int .i64 kx,.string sx,.int .i64 nx,.slice pa rx.length ca,.slice pb yx.length cb,.slice pe ex.length ce,.int .i64 qx] 49))=V at hb1 hgV ⊢
 generalize w.heap.size=T at hb1 ⊢
 have HGV:=zh hgV
 have d0:Atv ⟨T,0,none⟩ (.int .i64 kx) V.drew:=(hb1.grew (Grew.refl _).drw).atv 0 rfl
 have d1:Atv ⟨T,1,none⟩ (.string sx) V.drew:=(hb1.grew (Grew.refl _).drw).atv 1 rfl
 have d2:Atv ⟨T,2,none⟩ (.int .i64 nx) V.drew:=(hb1.grew (Grew.refl _).drw).atv 2 rfl
 have d3:Atv ⟨T,3,none⟩ (.slice pa rx.length ca) V.drew:=(hb1.grew (Grew.refl _).drw).atv 3 rfl
 have d4:Atv ⟨T,4,none⟩ (.slice pb yx.length cb) V.drew:=(hb1.grew (Grew.refl _).drw).atv 4 rfl
 have d5:Atv ⟨T,5,none⟩ (.slice pe ex.length ce) V.drew:=(hb1.grew (Grew.refl _).drw).atv 5 rfl
 have d6:Atv ⟨T,6,none⟩ (.int .i64 qx) V.drew:=(hb1.grew (Grew.refl _).drw).atv 6 rfl
 clear hb1 hgV
 refine wp_posts [some 3,some 4,some 5,some 6,some 7,some 8,some 9,some 10,some 11,some 12,some 13,some 2] (Zfb (Ztd (Ztc []))) [fun v _=>v=.pointer (some ⟨T,3,none⟩),fun v _=>v=.slice pa (rx.length) (ca),fun v _=>v=.int .i64 (((m0:Nat):Int)),fun v _=>v=.pointer (some ⟨T,4,none⟩),fun v _=>v=.slice pb (yx.length) (cb),fun v _=>v=.int .i64 (((m1:Nat):Int)),fun v _=>v=.pointer (some ⟨T,5,none⟩),fun v _=>v=.slice pe (ex.length) (ce),fun v _=>v=.int .i64 (((m2:Nat):Int)),fun v _=>v=.int .i64 (((max (max m0 m1) m2:Nat)):Int),fun v _=>v=.int .i64 ((1)+(((max (max m0 m1) m2:Nat):Int))),fun v _=>v=.int .i64 ((1)+(((max (max m0 m1) m2:Nat):Int)))] (by kernel_rfl) (by kernel_rfl) rfl ?_ ⟨?_,?_,?_,?_,?_,?_,?_,?_,?_,?_,?_,?_,trivial⟩ ?_
 ·exact⟨Zi,Zi,Zi,Zi,Zi,Zi,Zi,Zi,Zi,Zi,Zi,Zi,trivial⟩
 ·intro u w hR hd;exact rn_fld_49_3 (ev rfl) Zr
 ·intro u w hR hd;exact rn_ld_33 (ev (hd.1 rfl)) (d3.kept hR) Zr
 ·intro u w hR hd;exact runs_c2 en_grX (ev (hd.1 rfl)) rfl (callp (fun _ e=>e) (HX0.out _ (HGV.out.trans ((Grew.refl _).drw.trans hR))))
 ·intro u w hR hd;exact rn_fld_49_4 (ev rfl) Zr
 ·intro u w hR hd;exact rn_ld_40 (ev (hd.1 rfl)) (d4.kept hR) Zr
 ·intro u w hR hd;exact runs_c2 en_grS (ev (hd.1 rfl)) rfl (callp (fun _ e=>e) (HX1.out _ (HGV.out.trans ((Grew.refl _).drw.trans hR))))
 ·intro u w hR hd;exact rn_fld_49_5 (ev rfl) Zr
 ·intro u w hR hd;exact rn_ld_40 (ev (hd.1 rfl)) (d5.kept hR) Zr
 ·intro u w hR hd;exact runs_c2 en_grS (ev (hd.1 rfl)) rfl (callp (fun _ e=>e) (HX2.out _ (HGV.out.trans ((Grew.refl _).drw.trans hR))))
 ·intro u w hR hd;exact runs_max3 (ev (hd.1 rfl)) (ev (hd.2.1 rfl)) (ev (hd.2.2.1 rfl)) Zr
 ·intro u w hR hd;exact rn_add_3 rfl (ev (hd.1 rfl)) (by omega) Zr
 ·intro u w hR hd;exact runs_mva (ev (hd.1 rfl)) Zr
 ·intro u w4 hR hh
  have he:u 2=.int .i64 ((1)+(((max (max m0 m1) m2:Nat):Int))):=hh 11 (by decide)
  simp only [mixA,mixL,zz9,zz0,he]
  have HG4:Hid (Grew w w4):=zh (HGV.out.trans ((Grew.refl V).drw.trans hR))
  clear hh he hR d0 d1 d2 d3 d4 d5 d6 HGV
  go_wp2
  go_ret
  exact⟨by go_num,HG4.out⟩
set_option maxHeartbeats 8000000 in
theorem tsize_any (t:Ta) (B:Nat→Prop) (w:World) (pb:Option Addr) (cb:Nat) (hy:SL B w pb cb t.b) (hn:nSs t.b≤1048576) (hm:mSs t.b≤1048576) :
 Calls Tryz.prog 82 #[tv t.s t.p t.d t.c t.m t.w pb t.b.length cb t.q] w fun e w'=>e=.returned (.int .i64 ((nSs t.b+mSs t.b:Nat):Int))∧Grew w w':=by
 obtain ⟨s,i,d,h,m,n,y,q⟩:=t
 dsimp only at hy hn hm ⊢
 rw [zS_sum]
 have hcap:y.length≤cb:=hy.cap.1
 have hmax:=hy.cap.2.1
 have HC:Hid (∀W,Grew w W→Calls Tryz.prog 83 #[.slice pb y.length cb,.func (.func 84) #[] #[]] W fun e w'=>e=.returned (.int .i64 (sumF zSm y:Nat))∧Grew W w') :=
  zh (fun W hW=>totalS_any 84 #[] en_ss y zSm B W pb cb (hy.kept hW) (by rw [← zS_sum];omega) (fun z hz a1 a2 a3 a4 a5 a6 W2 q1 q2 q3 q4 hW2=>ssize_any z B W2 a1 a2 a3 a4 a5 a6 q1 q2 q3 (by have:=nSs_mem hz;omega) (by have:=mSs_mem hz;omega)))
 generalize sumF zSm y=k at HC ⊢
 clear hy hn hm
 go_enter Tryz.func82,Tryz.ntmps82
 go_wp2_with (go_at_call 83;(with_reducible refine(HC.out _ ((Grew.refl _).alloc _)).mono ?_);rintro e w1 ⟨rfl,g1⟩;have HG1:=zh (((Grew.refl _).alloc _).trans g1);clear g1)
 go_ret
 exact⟨rfl,HG1.out⟩
set_option maxHeartbeats 8000000 in
theorem tdepth_any (t:Ta) (B:Nat→Prop) (w:World) (pb:Option Addr) (cb:Nat) (hy:SL B w pb cb t.b) (hn:nSs t.b≤1048576) (hm:mSs t.b≤1048576) :
 Calls Tryz.prog 86 #[tv t.s t.p t.d t.c t.m t.w pb t.b.length cb t.q] w fun e w'=>e=.returned (.int .i64 ((dSs t.b:Nat):Int))∧Grew w w':=by
 obtain ⟨s,i,d,h,m,n,y,q⟩:=t
 dsimp only at hy hn hm ⊢
 rw [dSs_max]
 have hcap:y.length≤cb:=hy.cap.1
 have hmax:=hy.cap.2.1
 have HC:Hid (∀W,Grew w W→Calls Tryz.prog 87 #[.slice pb y.length cb,.func (.func 88) #[] #[]] W fun e w'=>e=.returned (.int .i64 (maxF dS y:Nat))∧Grew W w') :=
  zh (fun W hW=>greatS_any 88 #[] en_sd y dS B W pb cb (hy.kept hW) (fun y hy=>by have h1:=nSs_mem hy;have h2:=mSs_mem hy;have h3:=dS_le y;omega) (fun z hz a1 a2 a3 a4 a5 a6 W2 q1 q2 q3 q4 hW2=>sdepth_any z B W2 a1 a2 a3 a4 a5 a6 q1 q2 q3 (by have:=nSs_mem hz;omega) (by have:=mSs_mem hz;omega)))
 generalize maxF dS y=k at HC ⊢
 clear hy hn hm
 go_enter Tryz.func86,Tryz.ntmps86
 go_wp2_with (go_at_call 87;(with_reducible refine(HC.out _ ((Grew.refl _).alloc _)).mono ?_);rintro e w1 ⟨rfl,g1⟩;have HG1:=zh (((Grew.refl _).alloc _).trans g1);clear g1)
 go_ret
 exact⟨rfl,HG1.out⟩
set_option maxHeartbeats 8000000 in
theorem psize_any (P:Pg) (B:Nat→Prop) (w:World) (cp gp sp op hp tp:Option Addr) (cc gc sc oc hc tc:Nat) (hpg:PgIn B w P cp gp sp op hp tp cc gc sc oc hc tc) (hn:zT P.ts≤1048576) :
 Calls Tryz.prog 31 #[pgv P cp gp sp op hp tp cc gc sc oc hc tc] w fun e w'=>e=.returned (.int .i64 ((zT P.ts:Nat):Int))∧Grew w w':=by
 obtain ⟨hcaps,hmaxs⟩:=hpg.caps
 have hts:=hpg.ts
 obtain ⟨cs,gs,ss,os,hs,ts⟩:=P
 dsimp only at hcaps hts hn ⊢
 rw [zT_sum]
 have HC:Hid (∀W,Grew w W→Calls Tryz.prog 81 #[.slice tp ts.length tc,.func (.func 82) #[] #[]] W fun e w'=>e=.returned (.int .i64 (sumF (fun t:Ta=>nSs t.b+mSs t.b) ts:Nat))∧Grew W w') :=
  zh (fun W hW=>totalT_any 82 #[] en_ts ts (fun t:Ta=>nSs t.b+mSs t.b) B W tp tc (hts.kept hW) (by rw [← zT_sum];omega) (fun y hy a1 a2 W2 q1 q2 hW2=>tsize_any y B W2 a1 a2 q1 (by have:=zT_mem hy;omega) (by have:=zT_mem hy;omega)))
 generalize sumF (fun t:Ta=>nSs t.b+mSs t.b) ts=k at HC ⊢
 clear hpg hts hn
 go_enter Tryz.func31,Tryz.ntmps31
 go_wp2_with (go_at_call 81;(with_reducible refine(HC.out _ ((Grew.refl _).alloc _)).mono ?_);rintro e w1 ⟨rfl,g1⟩;have HG1:=zh (((Grew.refl _).alloc _).trans g1);clear g1)
 go_ret
 exact⟨rfl,HG1.out⟩
set_option maxHeartbeats 8000000 in
theorem pdepth_any (P:Pg) (B:Nat→Prop) (w:World) (cp gp sp op hp tp:Option Addr) (cc gc sc oc hc tc:Nat) (hpg:PgIn B w P cp gp sp op hp tp cc gc sc oc hc tc) (hn:zT P.ts≤1048576) :
 Calls Tryz.prog 33 #[pgv P cp gp sp op hp tp cc gc sc oc hc tc] w fun e w'=>e=.returned (.int .i64 ((dT P.ts:Nat):Int))∧Grew w w':=by
 obtain ⟨hcaps,hmaxs⟩:=hpg.caps
 have hts:=hpg.ts
 obtain ⟨cs,gs,ss,os,hs,ts⟩:=P
 dsimp only at hcaps hts hn ⊢
 rw [dT_max]
 have HC:Hid (∀W,Grew w W→Calls Tryz.prog 85 #[.slice tp ts.length tc,.func (.func 86) #[] #[]] W fun e w'=>e=.returned (.int .i64 (maxF (fun t:Ta=>dSs t.b) ts:Nat))∧Grew W w') :=
  zh (fun W hW=>greatT_any 86 #[] en_td ts (fun t:Ta=>dSs t.b) B W tp tc (hts.kept hW) (fun y hy=>by have h1:=zT_mem hy;have h2:=dSs_le y.b;show dSs y.b≤_;omega) (fun y hy a1 a2 W2 q1 q2 hW2=>tdepth_any y B W2 a1 a2 q1 (by have:=zT_mem hy;omega) (by have:=zT_mem hy;omega)))
 generalize maxF (fun t:Ta=>dSs t.b) ts=k at HC ⊢
 clear hpg hts hn
 go_enter Tryz.func33,Tryz.ntmps33
 go_wp2_with (go_at_call 85;(with_reducible refine(HC.out _ ((Grew.refl _).alloc _)).mono ?_);rintro e w1 ⟨rfl,g1⟩;have HG1:=zh (((Grew.refl _).alloc _).trans g1);clear g1)
 go_ret
 exact⟨rfl,HG1.out⟩

abbrev PtrTo (b:Nat):Value:=.pointer (some ⟨b,0,none⟩)
structure BT (T:TypeId) (k:Nat):Prop where
 lies:liesAt Tryz.prog Tryz.prog.depth T ((k+2) / Tryz.prog.cellsOf T) 0 70 1=true
 ne:T≠5
def BldT (T:TypeId) (rs:List Value) (N b:Nat) (xs:List UInt8) (w:World):Prop :=
 N≤b∧∃p v,(p=.pointer none∨p=PtrTo b)∧Blk b (p :: v :: rs) T w∧Own w N 5 v xs
def Wrote (N b:Nat) (w w':World):Prop:=Below N w w'∧Lib.OthersKept 5 (some b) w w'
theorem Wrote.bel {N b:Nat}{w w':World}(h:Wrote N b w w'):Below N w w':=h.1
theorem Wrote.refl (N b:Nat) (w:World):Wrote N b w w:=⟨Below.refl N w,Lib.OthersKept.refl _ _ w⟩
theorem Wrote.trans {N b:Nat}{u v w:World}(h:Wrote N b u v) (h':Wrote N b v w):Wrote N b u w:=⟨h.1.trans h'.1,h.2.trans h'.2⟩
theorem Wrote.grew {N b:Nat}{u v w:World}(h:Wrote N b u v) (hg:Grew v w) (hN:N≤u.heap.size):Wrote N b u w :=
 ⟨h.1.trans (hg.mono (Nat.le_trans hN h.1.size)),h.2.below hg⟩
theorem Wrote.of_grew {N b:Nat}{u v:World}(hg:Grew u v) (hN:N≤u.heap.size):Wrote N b u v:=(Wrote.refl N b u).grew hg hN
theorem Blk.wrote {N b S:Nat}{vs:List Value}{e:TypeId}{w w':World}(h:Blk S vs e w) (hw:Wrote N b w w') (hS:S≠b) (he:e≠5):Blk S vs e w' :=
 hw.2 S _ h (fun hh=>hS (Option.some.inj hh)) (fun c fz hh=>by cases hh;exact he rfl)
theorem OwR.wrote {α:Type}{k:Nat}{enc:α→List Value}(E:Enc k enc){N b base:Nat}{e:TypeId}{p:Option Addr}{n c:Nat}{xs:List α}{w w':World}(h:OwR w base e k enc (.slice p n c) xs) (hw:Wrote N b w w') (he:e≠5) (hb:∀a,p=some a→a.block≠b):OwR w' base e k enc (.slice p n c) xs:=by
 refine⟨h.1,?_⟩
 rcases h.2 with hn | ⟨g,cap,cur,hv,h1,hg,rest⟩
 ·exact .inl hn
 ·refine .inr ⟨g,cap,cur,hv,h1,hw.2 g _ hg (fun hh=>?_) (fun c fz hh=>by cases hh;exact he rfl),rest⟩
  simp only [Value.slice.injEq] at hv
  exact hb _ hv.1 (Option.some.inj hh)
section
variable {T:TypeId}{rs:List Value}{N b:Nat}{xs:List UInt8}{w w':World}
theorem BldT.made (N:Nat) (w:World) (hN:N≤w.heap.size) (cs:Array Value) (hc:cs=(.pointer none :: .slice none 0 0 :: rs).toArray):BldT T rs N w.heap.size [] (w.alloc (.cells cs T)) :=
 ⟨hN,.pointer none,.slice none 0 0,.inl rfl,by rw [hc];exact Blk.new w (.pointer none :: .slice none 0 0 :: rs) _,Own.empty _ _ _⟩
theorem BldT.grew (h:BldT T rs N b xs w) (hg:Grew w w'):BldT T rs N b xs w':=by
 obtain ⟨h1,p,v,h2,h3,h4⟩:=h
 exact⟨h1,p,v,h2,h3.grew hg,h4.gr hg⟩
theorem BldT.lt (h:BldT T rs N b xs w):b < w.heap.size:=by
 obtain ⟨h1,p,v,h2,h3,h4⟩:=h
 exact h3.lt
theorem BldT.ge (h:BldT T rs N b xs w):N≤b:=h.1
theorem BldT.rest (h:BldT T rs N b xs w){j:Nat}{v:Value}(hv:rs[j]?=some v):w.cell? ⟨b,j+2,none⟩=some v:=by
 obtain ⟨h1,p,v',h2,h3,h4⟩:=h
 have:=h3.cell (j+2)
 rw [this]
 simpa using hv
theorem BldT.free (h:BldT T rs N b xs w) (j:Nat):w.frozen? ⟨b,j,none⟩=false:=by
 obtain ⟨h1,p,v',h2,h3,h4⟩:=h
 exact h3.free j
end
def BldU (T:TypeId) (rs:List Value) (N b:Nat) (xs:List UInt8) (w:World):Prop:=N≤b∧∃v,Blk b (PtrTo b :: v :: rs) T w∧Own w N 5 v xs
theorem BldU.bld {T:TypeId}{rs:List Value}{N b:Nat}{xs:List UInt8}{w:World}(h:BldU T rs N b xs w):BldT T rs N b xs w:=by
 obtain ⟨h1,v,h3,h4⟩:=h
 exact⟨h1,_,v,.inr rfl,h3,h4⟩
theorem infoU8:(Tryz.prog.info? 5).map (fun i=>(i.zero,i.size,i.bytes))=some (some (.int .u8 0),1,1):=by kernel_rfl
theorem infoBd:∃j,Tryz.prog.info? 70=some j∧j.size=2:=by
 have h:(Tryz.prog.info? 70).map (fun i=>i.size)=some 2:=by kernel_rfl
 obtain ⟨j,h1,h2⟩:=Option.map_eq_some_iff.1 h
 exact⟨j,h1,h2⟩
theorem infoPb:∃j,Tryz.prog.info? 67=some j:=by
 have h:(Tryz.prog.info? 67).map (fun i=>i.size)=some 1:=by kernel_rfl
 obtain ⟨j,h1,h2⟩:=Option.map_eq_some_iff.1 h
 exact⟨j,h1⟩
theorem Own.set_other {w:World}{N:Nat}{e e':TypeId}{v:Value}{xs:List UInt8}(h:Own w N e v xs) (he:e≠e'){S i:Nat}{vs:List Value}(hb:Blk S vs e' w) (u:Value):Own (w.setCell ⟨S,i,none⟩ u) N e v xs:=by
 refine⟨h.1,?_⟩
 rcases h.2 with hn | ⟨g,cap,cur,hv,h1,hg,rest⟩
 ·exact .inl hn
 ·refine .inr ⟨g,cap,cur,hv,h1,?_,rest⟩
  have hne:g≠S:=fun hh=>by
   have h2:w.heap[S]?=_:=hb
   rw [hh,h2] at hg
   simp at hg
   exact he hg.2.symm
  exact(heap_setCell_other w ⟨S,i,none⟩ g u hne).trans hg
theorem BldT.put {T:TypeId}{rs:List Value}{N b:Nat}{xs:List UInt8}{w:World}(hT:T≠5) (h:BldT T rs N b xs w) (j:Nat) (u:Value):BldT T (rs.set j u) N b xs (w.setCell ⟨b,j+2,none⟩ u):=by
 obtain ⟨h1,p,v,h2,h3,h4⟩:=h
 refine⟨h1,p,v,h2,?_,h4.set_other (Ne.symm hT) h3 _⟩
 have:=h3.set (j+2) u
 simpa using this
set_option maxHeartbeats 1000000 in
set_option maxRecDepth 100000 in
theorem check_any {T:TypeId}{rs:List Value}(hT:BT T rs.length) (N b:Nat) (xs:List UInt8) (w:World) (h:BldT T rs N b xs w) :
 Calls Tryz.prog 133 #[PtrTo b] w fun e w'=>e=.returned (.tuple #[])∧BldU T rs N b xs w'∧Wrote N b w w'∧w'.heap.size=w.heap.size:=by
 obtain ⟨hN,p,v,hp,hb,ho⟩:=h
 obtain ⟨j,hj,hjs⟩:=infoBd
 have c0:w.cell? ⟨b,0,none⟩=some p:=hb.cell 0
 have f0:=hb.free 0
 have hsh:w.shape? b=some (T,rs.length+2):=by
  have h2:w.heap[b]?=_:=hb
  simp [World.shape?,h2]
 rcases hp with rfl | rfl
 ·have h1:=Lib.run_to_unsafe (P:=Tryz.prog) w ⟨b,0,none⟩ (src:=67) (dst:=170) Tryz.underlying67 Tryz.underlying170 hj (by rw [hjs];decide) hsh (Nat.zero_lt_succ _)
  have h2:=Lib.run_from_unsafe (P:=Tryz.prog) w ⟨b,0,none⟩ (src:=170) (dst:=67) Tryz.underlying170 Tryz.underlying67 hj hsh hT.lies
  have HF:Hid (BldU T rs N b xs (w.setCell ⟨b,0,none⟩ (PtrTo b))∧Wrote N b w (w.setCell ⟨b,0,none⟩ (PtrTo b))) :=
   zh ⟨⟨hN,v,hb.set 0 _,ho.set_other (Ne.symm hT.ne) hb _⟩,(Below.refl N w).setCell (p:=⟨b,0,none⟩) hN _,(Lib.OthersKept.refl _ _ w).setCell ⟨b,0,none⟩ rfl _⟩
  clear hb ho hsh hT
  go_enter Tryz.func133,Tryz.ntmps133
  go_wp2
  rw [run_callFunc_extern Tryz.func154 (by kernel_rfl) (by kernel_rfl) (by kernel_rfl) (e:=Extern.AbiNoEscape.same) (by kernel_rfl)]
  rw [Lib.run_noEscape]
  simp only [Result.andThen]
  rw [Oper.upon_value]
  go_wp2
  go_end0
  exact⟨rfl,HF.out.1,HF.out.2,by simp⟩
 ·obtain ⟨jp,hjp⟩:=infoPb
  have hne:=Lib.run_neq_ptr_same (P:=Tryz.prog) w (tp:=67) ⟨b,0,none⟩ Tryz.underlying67 hj
  have HF:Hid (BldU T rs N b xs w):=zh ⟨hN,v,hb,ho⟩
  clear hb ho hsh hT
  go_enter Tryz.func133,Tryz.ntmps133
  go_wp2
  go_end0
  exact⟨rfl,HF.out,Wrote.refl _ _ _,rfl⟩
theorem BldU.put {T:TypeId}{rs:List Value}{N b:Nat}{v v':Value}{xs:List UInt8}{w:World}(hT:T≠5) (hN:N≤b) (hb:Blk b (PtrTo b :: v :: rs) T w) (ho:Own w N 5 v' xs):BldU T rs N b xs (w.setCell ⟨b,1,none⟩ v') :=
 ⟨hN,v',hb.set 1 _,ho.set_other (Ne.symm hT) hb _⟩
theorem wrote_put {N b:Nat}{v v':Value}{xs:List UInt8}{u w w':World}(hN:N≤b) (hu:N≤u.heap.size) (h:Wrote N b u w) (ho:Own w N 5 v xs) (hb:Below N w w') (hc:Chg w w' (fun j=>v.ownBlock=some j)):Wrote N b u (w'.setCell ⟨b,1,none⟩ v'):=by
 refine⟨(h.1.trans hb).setCell (p:=⟨b,1,none⟩) hN _,Lib.OthersKept.setCell (h.2.trans fun k o hk hne hno=>?_) ⟨b,1,none⟩ rfl _⟩
 refine(hc.block k (lt_of_heap hk) fun hs=>?_).trans hk
 rcases ho.2 with ⟨hv,_⟩ | ⟨g,cap,cur,hv,_,hg,_⟩
 ·rw [hv] at hs
  cases hs
 ·rw [hv,ownBlock_sl] at hs
  obtain rfl:g=k:=Option.some.inj hs
  rw [hk] at hg
  exact hno _ _ (Option.some.inj hg)
set_option maxHeartbeats 2000000 in
set_option maxRecDepth 100000 in
theorem wstr_any {T:TypeId}{rs:List Value}(hT:BT T rs.length) (N b:Nat) (xs l:List UInt8) (w:World) (h:BldT T rs N b xs w) (hl:xs.length+l.length≤140737488355328) (hN:N≤w.heap.size) :
 Calls Tryz.prog 93 #[PtrTo b,.string ⟨l.toArray⟩] w fun e w'=>(∃v,e=.returned v)∧BldT T rs N b (xs++l) w'∧Wrote N b w w':=by
 have HC:=zh (check_any hT N b xs w h)
 have hsz:(⟨l.toArray⟩:ByteArray).size=l.length:=rfl
 have HT:=zh hT.ne
 clear h hT
 go_enter Tryz.func93,Tryz.ntmps93
 go_wp2_with (go_at_call 133;(with_reducible refine(HC.out).mono ?_))
 rintro e w1 ⟨rfl,⟨hNb,v,hb1,ho1⟩,hw1,hz1⟩
 have c0:w1.cell? ⟨b,0,none⟩=some (PtrTo b):=hb1.cell 0
 have c1:w1.cell? ⟨b,1,none⟩=some v:=hb1.cell 1
 have HO:=zh ho1
 have HB:=zh hb1
 have HW:=zh hw1
 have HN:=zh hNb
 have hN1:N≤w1.heap.size:=by omega
 clear ho1 hb1 hw1 hNb
 go_wp2_with (at_builtin;refine wpList_append_str rfl _ _ 68 9 rfl N 5 Tryz.underlying68 Tryz.underlying9 infoU8 _ xs rfl HO.out l rfl hl hN1 ?_)
 intro p2 c2 zs2 w2 hz2 ho2 hb2 hc2
 have hbk:Blk b (PtrTo b :: v :: rs) T w2:=HB.out.chg hc2 (fun hs=>by
  obtain ⟨p',c',hv,_⟩:=HO.out.shape
  rw [hv] at hs
  exact Own.apart (hv ▸ HO.out) (Ne.symm HT.out) HB.out hs)
 have d0:w2.cell? ⟨b,0,none⟩=some (PtrTo b):=hbk.cell 0
 have d1:w2.cell? ⟨b,1,none⟩=some v:=hbk.cell 1
 have f1:w2.frozen? ⟨b,1,none⟩=false:=hbk.free 1
 obtain rfl:=hz2.out
 have HP:=zh (BldU.put HT.out HN.out hbk ho2)
 have HQ:=zh (wrote_put (v':=.slice p2 (xs++l).length c2) HN.out hN HW.out HO.out hb2 hc2)
 rw [List.length_append] at HP HQ
 clear hbk ho2 hb2 hc2 hz2
 go_wp2
 refine bodyPost_ret (v:=.tuple #[.int .i64 (l.length:Int),.nilIface]) (by simp [results,Tryz.results93,go_sem,hsz]) rfl ?_
 exact⟨⟨_,rfl⟩,HP.out.bld,HQ.out⟩
theorem btB:BT 70 0:=⟨by kernel_rfl,by decide⟩
theorem btP:BT 72 1:=⟨by kernel_rfl,by decide⟩
theorem BldT.isF {N b:Nat}{xs:List UInt8}{w:World}(h:BldT 70 [] N b xs w):Lib.IsBuilderF 70 5 N b (Lib.byteCells xs) w:=by
 obtain ⟨h1,p,v,hp,hb,ho⟩:=h
 have key:Lib.BuilderAtF 70 5 N b p (Lib.byteCells xs) w:=by
  refine⟨h1,v,hb,?_,fun hs=>?_⟩
  ·have e1:Lib.byteCells xs=bvs xs:=rfl
   rw [e1,bvs_len]
   exact World.ownsRowF_of ho
  ·obtain ⟨p',c',hv,_⟩:=ho.shape
   rw [hv] at hs
   exact Own.apart (hv ▸ ho) (by decide) hb hs
 rcases hp with rfl | rfl
 ·exact .inl key
 ·exact .inr key
theorem str_any (N b:Nat) (xs:List UInt8) (w:World) (h:BldT 70 [] N b xs w) (hN:N≤w.heap.size) :
 Calls Tryz.prog 45 #[PtrTo b] w fun e w'=>e=.returned (.string ⟨xs.toArray⟩)∧Below N w w' :=
 (Tryz.Builder_String_any_k N b xs w h.isF hN).mono fun _ _ ⟨h1,_,h2,_⟩=>⟨h1,h2⟩
set_option maxHeartbeats 4000000 in
set_option maxRecDepth 100000 in
theorem strT_raw (b:Nat) (p:Option Addr) (n cap:Nat) (q:Value) (y:ByteArray) (w w2:World) (c1:w.drew.cell? ⟨b,1,none⟩=some (.slice p n cap))
 (hSD:(Builtin.unsafeSliceData_ #[68] 114 #[.slice p n cap]).run Tryz.prog w.drew=.ok q w.drew)
 (hUS:(Builtin.unsafeString_ #[114,3] 9 #[q,.int .i64 n]).run Tryz.prog w.drew=.ok (.string y) w2) :
 Calls Tryz.prog 45 #[PtrTo b] w fun e w'=>e=.returned (.string y)∧w'=w2:=by
 have mixed:Tryz.prog.follows Departure.mixedOrders=true:=by kernel_rfl
 go_enter Tryz.func45,Tryz.ntmps45
 go_wp2
 go_region_o
 all_goals (go_wp2;go_ret;exact⟨rfl,rfl⟩)
theorem strP_any {T:TypeId}{rs:List Value}(N b:Nat) (xs:List UInt8) (w:World) (h:BldT T rs N b xs w) (hn:xs≠[]) :
 Calls Tryz.prog 45 #[PtrTo b] w fun e w'=>e=.returned (.string ⟨xs.toArray⟩)∧Below N w w':=by
 obtain ⟨h1,p,v,hp,hb,ho⟩:=h
 have hl0:xs.length≠0:=by simpa using hn
 rcases ho.2 with ⟨_,hz⟩ | ⟨g,cap,cur,rfl,hbg,hg,hnc,hcm,hcs,htake⟩
 ·exact absurd hz hl0
 ·have c1:w.drew.cell? ⟨b,1,none⟩=some (.slice (some ⟨g,0,none⟩) xs.length cap):=hb.cell 1
  have hSD:(Builtin.unsafeSliceData_ #[68] 114 #[.slice (some ⟨g,0,none⟩) xs.length cap]).run Tryz.prog w.drew=.ok (.pointer (some ⟨g,0,none⟩)) w.drew :=
   Lib.run_unsafeSliceData_row _ _ _ _ _ _ (by omega)
  have hUS:(Builtin.unsafeString_ #[114,3] 9 #[.pointer (some ⟨g,0,none⟩),.int .i64 xs.length]).run Tryz.prog w.drew=.ok (.string ⟨xs.toArray⟩) (w.drew.freeze ⟨g,0,none⟩ xs.length):=by
   refine Lib.run_unsafeString_row w.drew 114 3 9 5 Tryz.underlying114 (by kernel_rfl) g cur.size (by have hg':w.drew.heap[g]?=some (.cells cur 5):=hg;simp [World.shape?,hg']) xs hn (by omega) (by unfold maxLen at hcm;omega) ?_
   intro j x hx
   exact World.ownsRow.cells (w:=w) ho (g:=g) rfl j (.int .u8 x.toNat) (by simp [bvs,bv,hx])
  exact(strT_raw b _ _ _ _ _ w _ c1 hSD hUS).mono fun e w' hh=>by
   obtain ⟨rfl,rfl⟩:=hh
   exact⟨rfl,Lib.below_freeze (Below.drew (Below.refl N w)) (p:=⟨g,0,none⟩) hbg _⟩
theorem strP_nil (b:Nat) (w:World) (c1:w.cell? ⟨b,1,none⟩=some (.slice none 0 0)) :
 Calls Tryz.prog 45 #[PtrTo b] w fun e w'=>e=.returned (.string ⟨#[]⟩)∧Grew w w' :=
 (strT_raw b none 0 0 (.pointer none) ⟨#[]⟩ w w.drew c1 (Lib.run_unsafeSliceData_nil _ _ _ _ _) (Lib.run_unsafeString_none _ _ _ _ _)).mono fun e w' hh=>by
   obtain ⟨rfl,rfl⟩:=hh
   exact⟨rfl,(Grew.refl w).drw⟩
theorem runs_c3 {P:Program}{dst:Option Tmp}{ty:TypeId}{pos:String}{after:Array Edge}{g:Option (Nat × Bool)}{a:Act}{w:World}{T:Value→World→Prop}{f:FuncId}{x y z:Operand}{ts:Array TypeId}{v u t:Value}(hf:Enters P f) (hx:a.eval x=v) (hy:a.eval y=u) (hz:a.eval z=t) (h:Calls P f #[v,u,t] w fun e w''=>∃v,e=.returned v∧T v w''):Runs P ⟨dst,.call { callee:=.value (.func f),args:=#[x,y,z],argTypes:=ts },ty,pos,after,g⟩ a w T :=
 runs_call hf (by simp [hx,hy,hz]) h
def Gs:List Nat:=[2,0,3,1,4]
theorem var?_lt {P:Program}{w:World}{n:String}{g:Nat}{cs:Array Value}(hg:P.globalNamed n=some g) (h:w.var? P n=some cs):g < w.heap.size:=by
 unfold World.var? at h
 simp only [hg,Option.bind_some] at h
 rcases Nat.lt_or_ge g w.heap.size with h' | h'
 ·exact h'
 ·simp [Array.getElem?_eq_none h'] at h
theorem var?_below {P:Program}{w w':World}{n:String}{g N:Nat}{cs:Array Value}(hg:P.globalNamed n=some g) (hN:g < N) (hb:Below N w w') (h:w.var? P n=some cs):w'.var? P n=some cs:=by
 unfold World.var? at h ⊢
 simp only [hg,Option.bind_some] at h ⊢
 rw [hb.block g hN]
 exact h
theorem Env.lts {w:World}(h:Env w):∀g ∈ Gs,g < w.heap.size:=by
 obtain ⟨h1,h2,h3,h4,h5⟩:=h
 intro g hg
 simp only [Gs,List.mem_cons,List.not_mem_nil,or_false] at hg
 rcases hg with rfl | rfl | rfl | rfl | rfl
 ·exact var?_lt (by kernel_rfl) h1
 ·exact var?_lt (by kernel_rfl) h2
 ·exact var?_lt (by kernel_rfl) h3
 ·exact var?_lt (by kernel_rfl) h4
 ·exact var?_lt (n := "internal/strconv.uint64pow10") (by kernel_rfl) h5
def EnvB (N:Nat) (w:World):Prop:=Env w∧∀g ∈ Gs,g < N
theorem EnvB.of {w:World}(h:Env w):EnvB w.heap.size w:=⟨h,h.lts⟩
theorem EnvB.below {N:Nat}{w w':World}(h:EnvB N w) (hb:Below N w w'):EnvB N w':=by
 obtain ⟨⟨h1,h2,h3,h4,h5⟩,hN⟩:=h
 refine ⟨⟨var?_below (by kernel_rfl) (hN 2 (by decide)) hb h1, var?_below (by kernel_rfl) (hN 0 (by decide)) hb h2, var?_below (by kernel_rfl) (hN 3 (by decide)) hb h3, var?_below (by kernel_rfl) (hN 1 (by decide)) hb h4, var?_below (n := "internal/strconv.uint64pow10") (by kernel_rfl) (hN 4 (by decide)) hb h5⟩, hN⟩
theorem EnvB.wrote {N b:Nat}{w w':World}(h:EnvB N w) (hw:Wrote N b w w'):EnvB N w':=h.below hw.1
theorem EnvB.grew {N:Nat}{w w':World}(h:EnvB N w) (hg:Grew w w'):EnvB N w':=⟨h.1.grew hg,h.2⟩
theorem below_cell {N:Nat}{w w':World}{b j:Nat}{v:Value}(hb:Below N w w') (hlt:b < N) (h:w.cell? ⟨b,j,none⟩=some v):w'.cell? ⟨b,j,none⟩=some v:=by
 unfold World.cell? at h ⊢
 rw [hb.block b hlt]
 exact h
theorem str_eta (s:ByteArray):∃l:List UInt8,s=⟨l.toArray⟩:=⟨s.data.toList,by cases s;simp⟩
theorem lit_cat (l:List UInt8) (s:ByteArray):(⟨l.toArray⟩:ByteArray)++s=⟨(l++s.data.toList).toArray⟩:=by
 obtain ⟨m,rfl⟩:=str_eta s
 exact str_append l m
theorem en_wo:Enters Tryz.prog 142:=fun args w=>by go_simp
theorem en_ll:Enters Tryz.prog 143:=fun args w=>by go_simp
theorem en_it:Enters Tryz.prog 40:=fun args w=>by go_simp
theorem en_ws:Enters Tryz.prog 93:=fun args w=>by go_simp
set_option maxHeartbeats 4000000 in
theorem lev_any (k:Int) (s:ByteArray) (z o:Int) (p:Option Addr) (n c:Nat) (q:Int) (w:World) (hE:Env w) (hok:(k=5→o=1∨o=2)∧(k=6→3≤o∧o≤15)) :
 Calls Tryz.prog 165 #[xv k s z o p n c q] w fun e w'=>e=.returned (.int .i64 (lvX k o))∧Grew w w':=by
 by_cases hk:k=5∨k=6
 ·have ho:1≤o∧o≤15:=by
   rcases hk with h | h
   ·have:=hok.1 h;omega
   ·have:=hok.2 h;omega
  obtain ⟨on,rfl⟩:∃m:Nat,o=(m:Int):=⟨o.toNat,by omega⟩
  have hv:lvX k (on:Int)=lvO (on:Int):=by
   rcases hk with rfl | rfl
   ·have:=hok.1 rfl
    rw [lvX,if_pos rfl,lvO,if_pos (by omega)]
   ·have:=hok.2 rfl
    rw [lvX,if_neg (by decide),if_pos rfl,lvO,if_neg (by omega)]
  rw [hv]
  have h1:w.cell? ⟨1,on * 2+1,none⟩=some (.int .i64 (lvO (on:Int))):=hE.op on (by omega) (by omega) 1 rfl
  have b1:(on:Int) < 16:=by omega
  have b2:(0:Int)≤(on:Int):=by omega
  have b3:1 < w.heap.size:=World.block_lt_of_cell? _ _ h1
  generalize lvO (on:Int)=l at h1 ⊢
  clear hE hok hv ho
  rcases hk with rfl | rfl
  ·go_enter Tryz.func165,Tryz.ntmps165
   go_wp2
   go_ret
   exact⟨rfl,(Grew.refl _).alloc _⟩
  ·go_enter Tryz.func165,Tryz.ntmps165
   go_wp2
   go_ret
   exact⟨rfl,(Grew.refl _).alloc _⟩
 ·have h5:(k==5)=false:=beq_eq_false_iff_ne.2 fun h=>hk (.inl h)
  have h6:(k==6)=false:=beq_eq_false_iff_ne.2 fun h=>hk (.inr h)
  have hv:lvX k o=7:=by rw [lvX,if_neg (fun h=>hk (.inl h)),if_neg (fun h=>hk (.inr h))]
  rw [hv]
  clear hE hok hv hk
  go_enter Tryz.func165,Tryz.ntmps165
  go_wp2
  go_ret
  exact⟨rfl,(Grew.refl _).alloc _⟩
theorem least_any (t:ByteArray) (l:Int) (w:World) (hl:l≤100):Calls Tryz.prog 143 #[.agg #[.string t,.int .i64 l]] w fun e w'=>e=.returned (.int .i64 (if l=3 then 4 else l))∧Grew w w':=by
 by_cases h:l=3
 ·subst h
  go_enter Tryz.func143,Tryz.ntmps143
  go_wp2
  go_ret
  exact⟨rfl,(Grew.refl _).alloc _⟩
 ·have h3:(l==3)=false:=beq_eq_false_iff_ne.2 h
  rw [if_neg h]
  clear h
  go_enter Tryz.func143,Tryz.ntmps143
  go_wp2
  go_ret
  exact⟨rfl,(Grew.refl _).alloc _⟩
abbrev WxC (x:Xp):Prop:=∀(N b:Nat) (xs:List UInt8) (B:Nat→Prop) (w:World) (p:Option Addr) (c:Nat),BldT 70 [] N b xs w→N≤w.heap.size→(∀i,B i→i < N)→XL B w p c x.ar→(x.s.size≤1048576∧x.v≤32767)→EnvB N w→okX x=true→xs.length+(txX x).length≤140737488355328 →
 Calls Tryz.prog 101 #[PtrTo b,xv x.k x.s x.v x.o p x.ar.length c x.q] w fun e w'=>e=.returned (.tuple #[])∧BldT 70 [] N b (xs++txX x) w'∧Wrote N b w w'
abbrev OpC (x:Xp):Prop:=∀(least:Int) (N b:Nat) (xs:List UInt8) (B:Nat→Prop) (w:World) (p:Option Addr) (c:Nat),BldT 70 [] N b xs w→N≤w.heap.size→(∀i,B i→i < N)→XL B w p c x.ar→(x.s.size≤1048576∧x.v≤32767)→EnvB N w→okX x=true→xs.length+(opd least x.k x.o (txX x)).length≤140737488355328 →
 Calls Tryz.prog 142 #[PtrTo b,xv x.k x.s x.v x.o p x.ar.length c x.q,.int .i64 least] w fun e w'=>e=.returned (.tuple #[])∧BldT 70 [] N b (xs++opd least x.k x.o (txX x)) w'∧Wrote N b w w'
theorem ok_op {x:Xp}(h:okX x=true):(x.k=5→x.o=1∨x.o=2)∧(x.k=6→3≤x.o∧x.o≤15):=by
 match x,h with
 | ⟨k,s,v,o,ar,q⟩,h =>
   show (k=5→o=1∨o=2)∧(k=6→3≤o∧o≤15)
   rcases ok_cases h with ⟨rfl,_⟩ | ⟨hk,_⟩ | ⟨rfl,_⟩ | ⟨rfl,a,_,_,_,ho,_⟩ | ⟨rfl,a,b,_,_,_,ho,_⟩
   ·exact⟨fun h=>by omega,fun h=>by omega⟩
   ·exact⟨fun h=>by omega,fun h=>by omega⟩
   ·exact⟨fun h=>by omega,fun h=>by omega⟩
   ·exact⟨fun _=>ho,fun h=>by omega⟩
   ·exact⟨fun h=>by omega,fun _=>ho⟩
set_option maxHeartbeats 8000000 in
theorem operand_wx (x:Xp) (hx:WxC x):OpC x:=by
 intro least N b xs B w p c hb hN hB hX hz hE hok hlen
 have HX:=zh hx
 have hcap:=hX.cap.1
 have hmax:=hX.cap.2.1
 have HXL:=zh hX
 have HB:=zh hb
 have HE:=zh hE
 have HBN:=zh hB
 have HOK:=zh hok
 have HZ:=zh hz
 have HLV:=zh (fun W (hW:Grew w W)=>lev_any x.k x.s x.v x.o p x.ar.length c x.q W (HE.out.grew hW).1 (ok_op hok))
 have HLN:=zh hlen
 have HNw:=zh hN
 clear hx hb hE hB hX hlen hz hok
 by_cases hlt:lvX x.k x.o < least
 ·have hopd:opd least x.k x.o (txX x)=[40]++(txX x++[41]):=by rw [opd,if_pos hlt];rfl
  rw [hopd] at HLN ⊢
  have HL2:Hid (xs.length+(txX x).length+2≤140737488355328):=zh (by have:=HLN.out;simp only [List.length_append,List.length_cons,List.length_nil] at this;omega)
  clear hopd HLN
  have hcmp:¬ least≤lvX x.k x.o:=by omega
  have HG1:=zh ((Grew.refl w).alloc (Obj.cells #[.int .i64 x.k,.string x.s,.int .i16 x.v,.int .i64 x.o,.slice p x.ar.length c,.int .i64 x.q] 35))
  go_enter Tryz.func142,Tryz.ntmps142
  go_wp2_with (first
   | (go_at_call 165;(with_reducible refine(HLV.out _ HG1.out).mono ?_);rintro e w1 ⟨rfl,g1⟩;generalize lvX x.k x.o=lv_ at hlt hcmp;have HG:=zh (HG1.out.trans g1);have hbx:=(Blk.new w [.int .i64 x.k,.string x.s,.int .i16 x.v,.int .i64 x.o,.slice p x.ar.length c,.int .i64 x.q] 35).grew g1;have HBX:=zh hbx;clear g1 hbx;have q0w1:w1.cell? ⟨w.heap.size,0,none⟩=some (.int .i64 x.k):=HBX.out.cell 0;have q1w1:w1.cell? ⟨w.heap.size,1,none⟩=some (.string x.s):=HBX.out.cell 1;have q2w1:w1.cell? ⟨w.heap.size,2,none⟩=some (.int .i16 x.v):=HBX.out.cell 2;have q3w1:w1.cell? ⟨w.heap.size,3,none⟩=some (.int .i64 x.o):=HBX.out.cell 3;have q4w1:w1.cell? ⟨w.heap.size,4,none⟩=some (.slice p x.ar.length c):=HBX.out.cell 4;have q5w1:w1.cell? ⟨w.heap.size,5,none⟩=some (.int .i64 x.q):=HBX.out.cell 5)
   | (go_at_call_of 93 (Value.string (⟨#[40]⟩:ByteArray));(with_reducible refine(wstr_any btB N b xs [40] w1 (HB.out.grew HG.out) (by have:=HL2.out;simp;omega) (Nat.le_trans HNw.out HG.out.sz)).mono ?_);rintro e w2 ⟨⟨v2,rfl⟩,hb2,hw2⟩;have HW2:=zh ((Wrote.of_grew (N:=N) (b:=b) HG.out HNw.out).trans hw2);have HB2:=zh hb2;have HN2:=zh (Nat.le_trans (Nat.le_trans HNw.out HG.out.sz) hw2.1.size);have HBX2:=zh (HBX.out.wrote hw2 (by have:=HB.out.lt;omega) (by decide));clear hb2 hw2;have q0w2:w2.cell? ⟨w.heap.size,0,none⟩=some (.int .i64 x.k):=HBX2.out.cell 0;have q1w2:w2.cell? ⟨w.heap.size,1,none⟩=some (.string x.s):=HBX2.out.cell 1;have q2w2:w2.cell? ⟨w.heap.size,2,none⟩=some (.int .i16 x.v):=HBX2.out.cell 2;have q3w2:w2.cell? ⟨w.heap.size,3,none⟩=some (.int .i64 x.o):=HBX2.out.cell 3;have q4w2:w2.cell? ⟨w.heap.size,4,none⟩=some (.slice p x.ar.length c):=HBX2.out.cell 4;have q5w2:w2.cell? ⟨w.heap.size,5,none⟩=some (.int .i64 x.q):=HBX2.out.cell 5)
   | (go_at_call 101;(with_reducible refine(HX.out N b (xs++[40]) B w2 p c HB2.out HN2.out HBN.out (HXL.out.below HBN.out HW2.out.bel) HZ.out (HE.out.wrote HW2.out) HOK.out (by have:=HL2.out;simp only [List.length_append,List.length_cons,List.length_nil];omega)).mono ?_);rintro e w3 ⟨rfl,hb3,hw3⟩;have HW3:=zh (HW2.out.trans hw3);have HB3:=zh hb3;have HN3:=zh (Nat.le_trans HN2.out hw3.1.size);clear hb3 hw3)
   | (go_at_call_of 93 (Value.string (⟨#[41]⟩:ByteArray));(with_reducible refine(wstr_any btB N b _ [41] w3 HB3.out (by have:=HL2.out;simp only [List.length_append,List.length_cons,List.length_nil];omega) HN3.out).mono ?_);rintro e w4 ⟨⟨v4,rfl⟩,hb4,hw4⟩;have HW4:=zh (HW3.out.trans hw4);have HB4:=zh hb4;clear hb4 hw4))
  go_end0
  exact⟨rfl,by have:=HB4.out;simpa [List.append_assoc] using this,HW4.out⟩
 ·have hopd:opd least x.k x.o (txX x)=txX x:=by rw [opd,if_neg hlt]
  rw [hopd] at HLN ⊢
  clear hopd
  have hcmp:least≤lvX x.k x.o:=by omega
  have HG1:=zh ((Grew.refl w).alloc (Obj.cells #[.int .i64 x.k,.string x.s,.int .i16 x.v,.int .i64 x.o,.slice p x.ar.length c,.int .i64 x.q] 35))
  go_enter Tryz.func142,Tryz.ntmps142
  go_wp2_with (first
   | (go_at_call 165;(with_reducible refine(HLV.out _ HG1.out).mono ?_);rintro e w1 ⟨rfl,g1⟩;generalize lvX x.k x.o=lv_ at hlt hcmp;have HG:=zh (HG1.out.trans g1);have hbx:=(Blk.new w [.int .i64 x.k,.string x.s,.int .i16 x.v,.int .i64 x.o,.slice p x.ar.length c,.int .i64 x.q] 35).grew g1;have HBX:=zh hbx;clear g1 hbx;have q0w1:w1.cell? ⟨w.heap.size,0,none⟩=some (.int .i64 x.k):=HBX.out.cell 0;have q1w1:w1.cell? ⟨w.heap.size,1,none⟩=some (.string x.s):=HBX.out.cell 1;have q2w1:w1.cell? ⟨w.heap.size,2,none⟩=some (.int .i16 x.v):=HBX.out.cell 2;have q3w1:w1.cell? ⟨w.heap.size,3,none⟩=some (.int .i64 x.o):=HBX.out.cell 3;have q4w1:w1.cell? ⟨w.heap.size,4,none⟩=some (.slice p x.ar.length c):=HBX.out.cell 4;have q5w1:w1.cell? ⟨w.heap.size,5,none⟩=some (.int .i64 x.q):=HBX.out.cell 5)
   | (go_at_call 101;(with_reducible refine(HX.out N b xs B w1 p c (HB.out.grew HG.out) (Nat.le_trans HNw.out HG.out.sz) HBN.out (HXL.out.kept HG.out) HZ.out (HE.out.grew HG.out) HOK.out HLN.out).mono ?_);rintro e w3 ⟨rfl,hb3,hw3⟩;have HW3:=zh ((Wrote.of_grew (N:=N) (b:=b) HG.out HNw.out).trans hw3);have HB3:=zh hb3;clear hb3 hw3))
  (try simp only [Exit.inBlock,Exit.then]);refine bodyPost_ret (results_none rfl _ _ _) rfl ?_
  exact⟨rfl,HB3.out,HW3.out⟩
section
variable {dst:Option Tmp}{ty:TypeId}{pos:String}{after:Array Edge}{g:Option (Nat × Bool)}{a:Act}{w:World}{T:Value→World→Prop}
theorem rn_fld_151_1 {x:Operand}{S o:Nat}(hx:a.eval x=.pointer (some ⟨S,o,none⟩)) (h:T (.pointer (some ⟨S,o+1,none⟩)) w):Runs Tryz.prog ⟨dst,.fieldAddr 151 x 1,ty,pos,after,g⟩ a w T:=by
 refine Runs.value (v:=.pointer (some ⟨S,o+1,none⟩)) (w':=w) ?_ h
 simp only [execOp,hx]
 go_simp
theorem rn_ld_151 {x:Operand}{S o:Nat}{v0 v1:Value}(hx:a.eval x=.pointer (some ⟨S,o,none⟩)) (h0:w.cell? ⟨S,o,none⟩=some v0) (h1:w.cell? ⟨S,o+1,none⟩=some v1) (h:T (.agg #[v0,v1]) w):Runs Tryz.prog ⟨dst,.load 151 x,ty,pos,after,g⟩ a w T:=by
 refine Runs.value (v:=.agg #[v0,v1]) (w':=w) ?_ h
 simp only [execOp,hx]
 go_simp
end
theorem EnvB.env {N:Nat}{w:World}(h:EnvB N w):Env w:=h.1
abbrev WxF (k:Int) (s:ByteArray) (v o:Int) (ar:List Xp) (q:Int):Prop:=∀(N b:Nat) (xs:List UInt8) (B:Nat→Prop) (w:World) (p:Option Addr) (c:Nat),BldT 70 [] N b xs w→N≤w.heap.size→(∀i,B i→i < N)→XL B w p c ar→(s.size≤1048576∧v≤32767)→EnvB N w→okX ⟨k,s,v,o,ar,q⟩=true→xs.length+(txX ⟨k,s,v,o,ar,q⟩).length≤140737488355328 →
 Calls Tryz.prog 101 #[PtrTo b,xv k s v o p ar.length c q] w fun e w'=>e=.returned (.tuple #[])∧BldT 70 [] N b (xs++txX ⟨k,s,v,o,ar,q⟩) w'∧Wrote N b w w'
abbrev OpF (k:Int) (s:ByteArray) (v o:Int) (ar:List Xp) (q:Int):Prop:=∀(least:Int) (N b:Nat) (xs:List UInt8) (B:Nat→Prop) (w:World) (p:Option Addr) (c:Nat),BldT 70 [] N b xs w→N≤w.heap.size→(∀i,B i→i < N)→XL B w p c ar→(s.size≤1048576∧v≤32767)→EnvB N w→okX ⟨k,s,v,o,ar,q⟩=true→xs.length+(opd least k o (txX ⟨k,s,v,o,ar,q⟩)).length≤140737488355328 →
 Calls Tryz.prog 142 #[PtrTo b,xv k s v o p ar.length c q,.int .i64 least] w fun e w'=>e=.returned (.tuple #[])∧BldT 70 [] N b (xs++opd least k o (txX ⟨k,s,v,o,ar,q⟩)) w'∧Wrote N b w w'
theorem app_list (a b:ByteArray):(a++b).data.toList=a.data.toList++b.data.toList:=by simp
theorem wstrS_any {T:TypeId}{rs:List Value}(hT:BT T rs.length) (N b:Nat) (xs:List UInt8) (s:ByteArray) (w:World) (h:BldT T rs N b xs w) (hl:xs.length+s.data.toList.length≤140737488355328) (hN:N≤w.heap.size) :
 Calls Tryz.prog 93 #[PtrTo b,.string s] w fun e w'=>(∃v,e=.returned v)∧BldT T rs N b (xs++s.data.toList) w'∧Wrote N b w w':=by
 obtain ⟨l,rfl⟩:=str_eta s
 exact wstr_any hT N b xs l w h hl hN
set_option maxHeartbeats 16000000 in
theorem wx_any:∀x,WxC x:=by
 intro x
 induction x using Xp.ind with
 | h k s v o ar q ih =>
 intro N b xs B w p c hb hN hB hX hz hE hok hlen
 have HB:=zh hb
 have HE:=zh hE
 have HBN:=zh hB
 have HNw:=zh hN
 have hcap:=hX.cap.1
 have hmax:=hX.cap.2.1
 clear hN
 rcases ok_cases hok with ⟨rfl,rfl,rfl,rfl,hv⟩ | ⟨hk,rfl,rfl,rfl,hs⟩ | ⟨rfl,a,rfl,rfl,rfl,hs,ha⟩ | ⟨rfl,a,rfl,rfl,rfl,ho,ha⟩ | ⟨rfl,a,b',rfl,rfl,rfl,ho,ha,hb'⟩
 ·rw [tx1] at hlen ⊢
  show Calls Tryz.prog 101 #[PtrTo b,xv 1 ⟨#[]⟩ v 0 p 0 c q] w fun e w'=>e=.returned (.tuple #[])∧BldT 70 [] N b (xs++numZ v) w'∧Wrote N b w w'
  have HLN:=zh hlen
  have hv2:=hz.2
  replace hv2:v≤32767:=hv2
  clear hlen hX hz ih hb hE hB hok
  go_enter Tryz.func101,Tryz.ntmps101
  go_upto_region 1 with fail
  have hb1_:Blk w.heap.size [.int .i64 1,.string ⟨#[]⟩,.int .i16 v,.int .i64 0,.slice p 0 c,.int .i64 q] 35 (w.alloc (Obj.cells #[.int .i64 1,.string ⟨#[]⟩,.int .i16 v,.int .i64 0,.slice p 0 c,.int .i64 q] 35)):=Blk.new w _ _
  have hgV:Grew w (w.alloc (Obj.cells #[.int .i64 1,.string ⟨#[]⟩,.int .i16 v,.int .i64 0,.slice p 0 c,.int .i64 q] 35)):=(Grew.refl w).alloc _
  have hne_:w.heap.size≠b:=by have:=HB.out.lt;omega
  generalize (w.alloc (Obj.cells #[.int .i64 1,.string ⟨#[]⟩,.int .i16 v,.int .i64 0,.slice p 0 c,.int .i64 q] 35))=V0 at hb1_ hgV ⊢
  generalize w.heap.size=S at hb1_ hne_ ⊢
  have HW0:=zh (Wrote.of_grew (N:=N) (b:=b) hgV HNw.out)
  have HB0:=zh (HB.out.grew hgV)
  have HN0:=zh (Nat.le_trans HNw.out hgV.sz)
  have HX0:=zh hb1_
  have HNE:=zh hne_
  clear hb1_ hgV hne_
  have x0V0:V0.cell? ⟨S,0,none⟩=some (.int .i64 1):=HX0.out.cell 0
  have x1V0:V0.cell? ⟨S,1,none⟩=some (.string ⟨#[]⟩):=HX0.out.cell 1
  have x2V0:V0.cell? ⟨S,2,none⟩=some (.int .i16 v):=HX0.out.cell 2
  have x3V0:V0.cell? ⟨S,3,none⟩=some (.int .i64 0):=HX0.out.cell 3
  have x4V0:V0.cell? ⟨S,4,none⟩=some (.slice p 0 c):=HX0.out.cell 4
  have x5V0:V0.cell? ⟨S,5,none⟩=some (.int .i64 q):=HX0.out.cell 5
  go_wp2_with (first
   | (go_at_call 40;(with_reducible refine(itoa_any v (by omega) V0 (HE.out.wrote HW0.out).env).mono ?_);rintro e V1 ⟨rfl,g_⟩;have HW1:=zh (HW0.out.grew g_ HNw.out);have HB1:=zh (HB0.out.grew g_);have HN1:=zh (Nat.le_trans HN0.out g_.sz);have HX1:=zh (HX0.out.grew g_);clear g_;have x0V1:V1.cell? ⟨S,0,none⟩=some (.int .i64 1):=HX1.out.cell 0;have x1V1:V1.cell? ⟨S,1,none⟩=some (.string ⟨#[]⟩):=HX1.out.cell 1;have x2V1:V1.cell? ⟨S,2,none⟩=some (.int .i16 v):=HX1.out.cell 2;have x3V1:V1.cell? ⟨S,3,none⟩=some (.int .i64 0):=HX1.out.cell 3;have x4V1:V1.cell? ⟨S,4,none⟩=some (.slice p 0 c):=HX1.out.cell 4;have x5V1:V1.cell? ⟨S,5,none⟩=some (.int .i64 q):=HX1.out.cell 5)
   | (go_at_call 93;(with_reducible refine(wstr_any btB N b xs (numZ v) V1 HB1.out (by have h_:=HLN.out;first | omega | (simp only [app_list,List.length_append,List.length_cons,List.length_nil] at h_ ⊢;omega) | (simp only [app_list,List.length_append,List.length_cons,List.length_nil] at h_ ⊢;done) | (simp [app_list,List.length_append] at h_ ⊢;omega)) HN1.out).mono ?_);rintro e V2 ⟨⟨v_1,rfl⟩,hb_,hw_⟩;have HW2:=zh (HW1.out.trans hw_);have HB2:=zh hb_;have HN2:=zh (Nat.le_trans HN1.out hw_.bel.size);have HX2:=zh (HX1.out.wrote hw_ HNE.out (by decide));clear hb_ hw_;have x0V2:V2.cell? ⟨S,0,none⟩=some (.int .i64 1):=HX2.out.cell 0;have x1V2:V2.cell? ⟨S,1,none⟩=some (.string ⟨#[]⟩):=HX2.out.cell 1;have x2V2:V2.cell? ⟨S,2,none⟩=some (.int .i16 v):=HX2.out.cell 2;have x3V2:V2.cell? ⟨S,3,none⟩=some (.int .i64 0):=HX2.out.cell 3;have x4V2:V2.cell? ⟨S,4,none⟩=some (.slice p 0 c):=HX2.out.cell 4;have x5V2:V2.cell? ⟨S,5,none⟩=some (.int .i64 q):=HX2.out.cell 5))
  go_end0
  exact⟨rfl,by have h_:=HB2.out;simpa [app_list,List.append_assoc] using h_,HW2.out⟩
 ·rcases hk with rfl | rfl
  ·rw [tx2] at hlen ⊢
   show Calls Tryz.prog 101 #[PtrTo b,xv 2 s 0 0 p 0 c q] w fun e w'=>e=.returned (.tuple #[])∧BldT 70 [] N b (xs++s.data.toList) w'∧Wrote N b w w'
   have HLN:=zh hlen
   have hs1:s.size≤1048576:=hz.1
   clear hlen hX hz ih hb hE hB hok hs
   go_enter Tryz.func101,Tryz.ntmps101
   go_upto_region 1 with fail
   have hb1_:Blk w.heap.size [.int .i64 2,.string s,.int .i16 0,.int .i64 0,.slice p 0 c,.int .i64 q] 35 (w.alloc (Obj.cells #[.int .i64 2,.string s,.int .i16 0,.int .i64 0,.slice p 0 c,.int .i64 q] 35)):=Blk.new w _ _
   have hgV:Grew w (w.alloc (Obj.cells #[.int .i64 2,.string s,.int .i16 0,.int .i64 0,.slice p 0 c,.int .i64 q] 35)):=(Grew.refl w).alloc _
   have hne_:w.heap.size≠b:=by have:=HB.out.lt;omega
   generalize (w.alloc (Obj.cells #[.int .i64 2,.string s,.int .i16 0,.int .i64 0,.slice p 0 c,.int .i64 q] 35))=V0 at hb1_ hgV ⊢
   generalize w.heap.size=S at hb1_ hne_ ⊢
   have HW0:=zh (Wrote.of_grew (N:=N) (b:=b) hgV HNw.out)
   have HB0:=zh (HB.out.grew hgV)
   have HN0:=zh (Nat.le_trans HNw.out hgV.sz)
   have HX0:=zh hb1_
   have HNE:=zh hne_
   clear hb1_ hgV hne_
   have x0V0:V0.cell? ⟨S,0,none⟩=some (.int .i64 2):=HX0.out.cell 0
   have x1V0:V0.cell? ⟨S,1,none⟩=some (.string s):=HX0.out.cell 1
   have x2V0:V0.cell? ⟨S,2,none⟩=some (.int .i16 0):=HX0.out.cell 2
   have x3V0:V0.cell? ⟨S,3,none⟩=some (.int .i64 0):=HX0.out.cell 3
   have x4V0:V0.cell? ⟨S,4,none⟩=some (.slice p 0 c):=HX0.out.cell 4
   have x5V0:V0.cell? ⟨S,5,none⟩=some (.int .i64 q):=HX0.out.cell 5
   go_wp2_with (first
    | (go_at_call 93;(with_reducible refine(wstrS_any btB N b (xs) s V0 HB0.out (by have h_:=HLN.out;first | omega | (simp only [app_list,List.length_append,List.length_cons,List.length_nil] at h_ ⊢;omega) | (simp only [app_list,List.length_append,List.length_cons,List.length_nil] at h_ ⊢;done) | (simp [app_list,List.length_append] at h_ ⊢;omega)) HN0.out).mono ?_);rintro e V1 ⟨⟨v_0,rfl⟩,hb_,hw_⟩;have HW1:=zh (HW0.out.trans hw_);have HB1:=zh hb_;have HN1:=zh (Nat.le_trans HN0.out hw_.bel.size);have HX1:=zh (HX0.out.wrote hw_ HNE.out (by decide));clear hb_ hw_;have x0V1:V1.cell? ⟨S,0,none⟩=some (.int .i64 2):=HX1.out.cell 0;have x1V1:V1.cell? ⟨S,1,none⟩=some (.string s):=HX1.out.cell 1;have x2V1:V1.cell? ⟨S,2,none⟩=some (.int .i16 0):=HX1.out.cell 2;have x3V1:V1.cell? ⟨S,3,none⟩=some (.int .i64 0):=HX1.out.cell 3;have x4V1:V1.cell? ⟨S,4,none⟩=some (.slice p 0 c):=HX1.out.cell 4;have x5V1:V1.cell? ⟨S,5,none⟩=some (.int .i64 q):=HX1.out.cell 5))
   go_end0
   exact⟨rfl,by have h_:=HB1.out;simpa [app_list,List.append_assoc] using h_,HW1.out⟩
  ·rw [tx4] at hlen ⊢
   show Calls Tryz.prog 101 #[PtrTo b,xv 4 s 0 0 p 0 c q] w fun e w'=>e=.returned (.tuple #[])∧BldT 70 [] N b (xs++(([114,101,97,100,40]++s.data.toList)++[41])) w'∧Wrote N b w w'
   have HLN:=zh hlen
   have hs1:s.size≤1048576:=hz.1
   clear hlen hX hz ih hb hE hB hok hs
   go_enter Tryz.func101,Tryz.ntmps101
   go_upto_region 1 with fail
   have hb1_:Blk w.heap.size [.int .i64 4,.string s,.int .i16 0,.int .i64 0,.slice p 0 c,.int .i64 q] 35 (w.alloc (Obj.cells #[.int .i64 4,.string s,.int .i16 0,.int .i64 0,.slice p 0 c,.int .i64 q] 35)):=Blk.new w _ _
   have hgV:Grew w (w.alloc (Obj.cells #[.int .i64 4,.string s,.int .i16 0,.int .i64 0,.slice p 0 c,.int .i64 q] 35)):=(Grew.refl w).alloc _
   have hne_:w.heap.size≠b:=by have:=HB.out.lt;omega
   generalize (w.alloc (Obj.cells #[.int .i64 4,.string s,.int .i16 0,.int .i64 0,.slice p 0 c,.int .i64 q] 35))=V0 at hb1_ hgV ⊢
   generalize w.heap.size=S at hb1_ hne_ ⊢
   have HW0:=zh (Wrote.of_grew (N:=N) (b:=b) hgV HNw.out)
   have HB0:=zh (HB.out.grew hgV)
   have HN0:=zh (Nat.le_trans HNw.out hgV.sz)
   have HX0:=zh hb1_
   have HNE:=zh hne_
   clear hb1_ hgV hne_
   have x0V0:V0.cell? ⟨S,0,none⟩=some (.int .i64 4):=HX0.out.cell 0
   have x1V0:V0.cell? ⟨S,1,none⟩=some (.string s):=HX0.out.cell 1
   have x2V0:V0.cell? ⟨S,2,none⟩=some (.int .i16 0):=HX0.out.cell 2
   have x3V0:V0.cell? ⟨S,3,none⟩=some (.int .i64 0):=HX0.out.cell 3
   have x4V0:V0.cell? ⟨S,4,none⟩=some (.slice p 0 c):=HX0.out.cell 4
   have x5V0:V0.cell? ⟨S,5,none⟩=some (.int .i64 q):=HX0.out.cell 5
   go_wp2_with (first
    | (go_at_call 93;(with_reducible refine(wstrS_any btB N b (xs) ((⟨#[114,101,97,100,40]⟩:ByteArray)++s++⟨#[41]⟩) V0 HB0.out (by have h_:=HLN.out;first | omega | (simp only [app_list,List.length_append,List.length_cons,List.length_nil] at h_ ⊢;omega) | (simp only [app_list,List.length_append,List.length_cons,List.length_nil] at h_ ⊢;done) | (simp [app_list,List.length_append] at h_ ⊢;omega)) HN0.out).mono ?_);rintro e V1 ⟨⟨v_0,rfl⟩,hb_,hw_⟩;have HW1:=zh (HW0.out.trans hw_);have HB1:=zh hb_;have HN1:=zh (Nat.le_trans HN0.out hw_.bel.size);have HX1:=zh (HX0.out.wrote hw_ HNE.out (by decide));clear hb_ hw_;have x0V1:V1.cell? ⟨S,0,none⟩=some (.int .i64 4):=HX1.out.cell 0;have x1V1:V1.cell? ⟨S,1,none⟩=some (.string s):=HX1.out.cell 1;have x2V1:V1.cell? ⟨S,2,none⟩=some (.int .i16 0):=HX1.out.cell 2;have x3V1:V1.cell? ⟨S,3,none⟩=some (.int .i64 0):=HX1.out.cell 3;have x4V1:V1.cell? ⟨S,4,none⟩=some (.slice p 0 c):=HX1.out.cell 4;have x5V1:V1.cell? ⟨S,5,none⟩=some (.int .i64 q):=HX1.out.cell 5))
   go_end0
   exact⟨rfl,by have h_:=HB1.out;simpa [app_list,List.append_assoc] using h_,HW1.out⟩
 ·rw [tx3] at hlen ⊢
  have hIA:=ih a (by simp)
  replace hX:XL B w p c [a]:=hX
  obtain ⟨bz,oz,pa,ca,rfl,hba,haa,hca⟩:=hX.get 0 (by simp)
  obtain ⟨ka,sa,va,oa,ra,qa⟩:=a
  replace haa:XL B w pa ca ra:=haa
  replace hba:B bz∧sa.size≤1048576∧va≤32767:=hba
  have HAa:=zh haa
  have HZa:=zh hba.2
  have hcapa:ra.length≤ca:=haa.cap.1
  have hmaxa:=haa.cap.2.1
  have HCa:Hid (∀i_ u_,(xdc ⟨ka,sa,va,oa,pa,ra.length,ca,qa⟩)[i_]?=some u_→w.cell? ⟨bz,oz+0 * 6+i_,none⟩=some u_):=zh hca
  have HLT:Hid (bz < N):=zh (hB bz hba.1)
  clear haa hba hca
  show Calls Tryz.prog 101 #[PtrTo b,xv 3 s 0 0 (some ⟨bz,oz,none⟩) 1 c q] w fun e w'=>e=.returned (.tuple #[])∧BldT 70 [] N b (xs++((s.data.toList++[91])++txX ⟨ka,sa,va,oa,ra,qa⟩++[93])) w'∧Wrote N b w w'
  have HLN:=zh hlen
  have HIA:Hid (WxF ka sa va oa ra qa):=zh hIA
  have HOA:=zh ha
  have hs1:s.size≤1048576:=hz.1
  have hcp1:=hcap
  clear hlen hX hz ih hb hE hB hok hs hIA ha
  go_enter Tryz.func101,Tryz.ntmps101
  go_upto_region 1 with fail
  have hb1_:Blk w.heap.size [.int .i64 3,.string s,.int .i16 0,.int .i64 0,.slice (some ⟨bz,oz,none⟩) 1 c,.int .i64 q] 35 (w.alloc (Obj.cells #[.int .i64 3,.string s,.int .i16 0,.int .i64 0,.slice (some ⟨bz,oz,none⟩) 1 c,.int .i64 q] 35)):=Blk.new w _ _
  have hgV:Grew w (w.alloc (Obj.cells #[.int .i64 3,.string s,.int .i16 0,.int .i64 0,.slice (some ⟨bz,oz,none⟩) 1 c,.int .i64 q] 35)):=(Grew.refl w).alloc _
  have hne_:w.heap.size≠b:=by have:=HB.out.lt;omega
  generalize (w.alloc (Obj.cells #[.int .i64 3,.string s,.int .i16 0,.int .i64 0,.slice (some ⟨bz,oz,none⟩) 1 c,.int .i64 q] 35))=V0 at hb1_ hgV ⊢
  generalize w.heap.size=S at hb1_ hne_ ⊢
  have HW0:=zh (Wrote.of_grew (N:=N) (b:=b) hgV HNw.out)
  have HB0:=zh (HB.out.grew hgV)
  have HN0:=zh (Nat.le_trans HNw.out hgV.sz)
  have HX0:=zh hb1_
  have HNE:=zh hne_
  clear hb1_ hgV hne_
  have x0V0:V0.cell? ⟨S,0,none⟩=some (.int .i64 3):=HX0.out.cell 0
  have x1V0:V0.cell? ⟨S,1,none⟩=some (.string s):=HX0.out.cell 1
  have x2V0:V0.cell? ⟨S,2,none⟩=some (.int .i16 0):=HX0.out.cell 2
  have x3V0:V0.cell? ⟨S,3,none⟩=some (.int .i64 0):=HX0.out.cell 3
  have x4V0:V0.cell? ⟨S,4,none⟩=some (.slice (some ⟨bz,oz,none⟩) 1 c):=HX0.out.cell 4
  have x5V0:V0.cell? ⟨S,5,none⟩=some (.int .i64 q):=HX0.out.cell 5
  have bw_aV0:=HW0.out.bel
  have a0V0:V0.cell? ⟨bz,oz,none⟩=some (.int .i64 ka):=(by simpa [Nat.add_assoc] using below_cell bw_aV0 HLT.out (HCa.out 0 _ rfl))
  have a1V0:V0.cell? ⟨bz,oz+1,none⟩=some (.string sa):=(by simpa [Nat.add_assoc] using below_cell bw_aV0 HLT.out (HCa.out 1 _ rfl))
  have a2V0:V0.cell? ⟨bz,oz+2,none⟩=some (.int .i16 va):=(by simpa [Nat.add_assoc] using below_cell bw_aV0 HLT.out (HCa.out 2 _ rfl))
  have a3V0:V0.cell? ⟨bz,oz+3,none⟩=some (.int .i64 oa):=(by simpa [Nat.add_assoc] using below_cell bw_aV0 HLT.out (HCa.out 3 _ rfl))
  have a4V0:V0.cell? ⟨bz,oz+4,none⟩=some (.slice pa ra.length ca):=(by simpa [Nat.add_assoc] using below_cell bw_aV0 HLT.out (HCa.out 4 _ rfl))
  have a5V0:V0.cell? ⟨bz,oz+5,none⟩=some (.int .i64 qa):=(by simpa [Nat.add_assoc] using below_cell bw_aV0 HLT.out (HCa.out 5 _ rfl))
  go_wp2_with (first
   | (go_at_call 93;(with_reducible refine(wstrS_any btB N b (xs) (s++⟨#[91]⟩) V0 HB0.out (by have h_:=HLN.out;first | omega | (simp only [app_list,List.length_append,List.length_cons,List.length_nil] at h_ ⊢;omega) | (simp only [app_list,List.length_append,List.length_cons,List.length_nil] at h_ ⊢;done) | (simp [app_list,List.length_append] at h_ ⊢;omega)) HN0.out).mono ?_);rintro e V1 ⟨⟨v_0,rfl⟩,hb_,hw_⟩;have HW1:=zh (HW0.out.trans hw_);have HB1:=zh hb_;have HN1:=zh (Nat.le_trans HN0.out hw_.bel.size);have HX1:=zh (HX0.out.wrote hw_ HNE.out (by decide));clear hb_ hw_;have x0V1:V1.cell? ⟨S,0,none⟩=some (.int .i64 3):=HX1.out.cell 0;have x1V1:V1.cell? ⟨S,1,none⟩=some (.string s):=HX1.out.cell 1;have x2V1:V1.cell? ⟨S,2,none⟩=some (.int .i16 0):=HX1.out.cell 2;have x3V1:V1.cell? ⟨S,3,none⟩=some (.int .i64 0):=HX1.out.cell 3;have x4V1:V1.cell? ⟨S,4,none⟩=some (.slice (some ⟨bz,oz,none⟩) 1 c):=HX1.out.cell 4;have x5V1:V1.cell? ⟨S,5,none⟩=some (.int .i64 q):=HX1.out.cell 5;have bw_aV1:=HW1.out.bel;have a0V1:V1.cell? ⟨bz,oz,none⟩=some (.int .i64 ka):=(by simpa [Nat.add_assoc] using below_cell bw_aV1 HLT.out (HCa.out 0 _ rfl));have a1V1:V1.cell? ⟨bz,oz+1,none⟩=some (.string sa):=(by simpa [Nat.add_assoc] using below_cell bw_aV1 HLT.out (HCa.out 1 _ rfl));have a2V1:V1.cell? ⟨bz,oz+2,none⟩=some (.int .i16 va):=(by simpa [Nat.add_assoc] using below_cell bw_aV1 HLT.out (HCa.out 2 _ rfl));have a3V1:V1.cell? ⟨bz,oz+3,none⟩=some (.int .i64 oa):=(by simpa [Nat.add_assoc] using below_cell bw_aV1 HLT.out (HCa.out 3 _ rfl));have a4V1:V1.cell? ⟨bz,oz+4,none⟩=some (.slice pa ra.length ca):=(by simpa [Nat.add_assoc] using below_cell bw_aV1 HLT.out (HCa.out 4 _ rfl));have a5V1:V1.cell? ⟨bz,oz+5,none⟩=some (.int .i64 qa):=(by simpa [Nat.add_assoc] using below_cell bw_aV1 HLT.out (HCa.out 5 _ rfl)))
   | (go_at_call 101;(with_reducible refine(HIA.out N b (xs++(s++⟨#[91]⟩).data.toList) B V1 pa ca HB1.out HN1.out HBN.out (HAa.out.below HBN.out HW1.out.bel) HZa.out (HE.out.wrote HW1.out) HOA.out (by have h_:=HLN.out;first | omega | (simp only [app_list,List.length_append,List.length_cons,List.length_nil] at h_ ⊢;omega) | (simp only [app_list,List.length_append,List.length_cons,List.length_nil] at h_ ⊢;done) | (simp [app_list,List.length_append] at h_ ⊢;omega))).mono ?_);rintro e V2 ⟨rfl,hb_,hw_⟩;have HW2:=zh (HW1.out.trans hw_);have HB2:=zh hb_;have HN2:=zh (Nat.le_trans HN1.out hw_.bel.size);have HX2:=zh (HX1.out.wrote hw_ HNE.out (by decide));clear hb_ hw_;have x0V2:V2.cell? ⟨S,0,none⟩=some (.int .i64 3):=HX2.out.cell 0;have x1V2:V2.cell? ⟨S,1,none⟩=some (.string s):=HX2.out.cell 1;have x2V2:V2.cell? ⟨S,2,none⟩=some (.int .i16 0):=HX2.out.cell 2;have x3V2:V2.cell? ⟨S,3,none⟩=some (.int .i64 0):=HX2.out.cell 3;have x4V2:V2.cell? ⟨S,4,none⟩=some (.slice (some ⟨bz,oz,none⟩) 1 c):=HX2.out.cell 4;have x5V2:V2.cell? ⟨S,5,none⟩=some (.int .i64 q):=HX2.out.cell 5;have bw_aV2:=HW2.out.bel;have a0V2:V2.cell? ⟨bz,oz,none⟩=some (.int .i64 ka):=(by simpa [Nat.add_assoc] using below_cell bw_aV2 HLT.out (HCa.out 0 _ rfl));have a1V2:V2.cell? ⟨bz,oz+1,none⟩=some (.string sa):=(by simpa [Nat.add_assoc] using below_cell bw_aV2 HLT.out (HCa.out 1 _ rfl));have a2V2:V2.cell? ⟨bz,oz+2,none⟩=some (.int .i16 va):=(by simpa [Nat.add_assoc] using below_cell bw_aV2 HLT.out (HCa.out 2 _ rfl));have a3V2:V2.cell? ⟨bz,oz+3,none⟩=some (.int .i64 oa):=(by simpa [Nat.add_assoc] using below_cell bw_aV2 HLT.out (HCa.out 3 _ rfl));have a4V2:V2.cell? ⟨bz,oz+4,none⟩=some (.slice pa ra.length ca):=(by simpa [Nat.add_assoc] using below_cell bw_aV2 HLT.out (HCa.out 4 _ rfl));have a5V2:V2.cell? ⟨bz,oz+5,none⟩=some (.int .i64 qa):=(by simpa [Nat.add_assoc] using below_cell bw_aV2 HLT.out (HCa.out 5 _ rfl)))
   | (go_at_call 93;(with_reducible refine(wstrS_any btB N b (xs++(s++⟨#[91]⟩).data.toList++txX ⟨ka,sa,va,oa,ra,qa⟩) ⟨#[93]⟩ V2 HB2.out (by have h_:=HLN.out;first | omega | (simp only [app_list,List.length_append,List.length_cons,List.length_nil] at h_ ⊢;omega) | (simp only [app_list,List.length_append,List.length_cons,List.length_nil] at h_ ⊢;done) | (simp [app_list,List.length_append] at h_ ⊢;omega)) HN2.out).mono ?_);rintro e V3 ⟨⟨v_2,rfl⟩,hb_,hw_⟩;have HW3:=zh (HW2.out.trans hw_);have HB3:=zh hb_;have HN3:=zh (Nat.le_trans HN2.out hw_.bel.size);have HX3:=zh (HX2.out.wrote hw_ HNE.out (by decide));clear hb_ hw_;have x0V3:V3.cell? ⟨S,0,none⟩=some (.int .i64 3):=HX3.out.cell 0;have x1V3:V3.cell? ⟨S,1,none⟩=some (.string s):=HX3.out.cell 1;have x2V3:V3.cell? ⟨S,2,none⟩=some (.int .i16 0):=HX3.out.cell 2;have x3V3:V3.cell? ⟨S,3,none⟩=some (.int .i64 0):=HX3.out.cell 3;have x4V3:V3.cell? ⟨S,4,none⟩=some (.slice (some ⟨bz,oz,none⟩) 1 c):=HX3.out.cell 4;have x5V3:V3.cell? ⟨S,5,none⟩=some (.int .i64 q):=HX3.out.cell 5;have bw_aV3:=HW3.out.bel;have a0V3:V3.cell? ⟨bz,oz,none⟩=some (.int .i64 ka):=(by simpa [Nat.add_assoc] using below_cell bw_aV3 HLT.out (HCa.out 0 _ rfl));have a1V3:V3.cell? ⟨bz,oz+1,none⟩=some (.string sa):=(by simpa [Nat.add_assoc] using below_cell bw_aV3 HLT.out (HCa.out 1 _ rfl));have a2V3:V3.cell? ⟨bz,oz+2,none⟩=some (.int .i16 va):=(by simpa [Nat.add_assoc] using below_cell bw_aV3 HLT.out (HCa.out 2 _ rfl));have a3V3:V3.cell? ⟨bz,oz+3,none⟩=some (.int .i64 oa):=(by simpa [Nat.add_assoc] using below_cell bw_aV3 HLT.out (HCa.out 3 _ rfl));have a4V3:V3.cell? ⟨bz,oz+4,none⟩=some (.slice pa ra.length ca):=(by simpa [Nat.add_assoc] using below_cell bw_aV3 HLT.out (HCa.out 4 _ rfl));have a5V3:V3.cell? ⟨bz,oz+5,none⟩=some (.int .i64 qa):=(by simpa [Nat.add_assoc] using below_cell bw_aV3 HLT.out (HCa.out 5 _ rfl))))
  go_end0
  exact⟨rfl,by have h_:=HB3.out;simpa [app_list,List.append_assoc] using h_,HW3.out⟩
 ·rw [tx5] at hlen ⊢
  have hIA:=ih a (by simp)
  replace hX:XL B w p c [a]:=hX
  have ho15:1≤o∧o≤15:=by omega
  have hlo:o=1∨o=2:=ho
  obtain ⟨bz,oz,pa,ca,rfl,hba,haa,hca⟩:=hX.get 0 (by simp)
  obtain ⟨ka,sa,va,oa,ra,qa⟩:=a
  replace haa:XL B w pa ca ra:=haa
  replace hba:B bz∧sa.size≤1048576∧va≤32767:=hba
  have HAa:=zh haa
  have HZa:=zh hba.2
  have hcapa:ra.length≤ca:=haa.cap.1
  have hmaxa:=haa.cap.2.1
  have HCa:Hid (∀i_ u_,(xdc ⟨ka,sa,va,oa,pa,ra.length,ca,qa⟩)[i_]?=some u_→w.cell? ⟨bz,oz+0 * 6+i_,none⟩=some u_):=zh hca
  have HLT:Hid (bz < N):=zh (hB bz hba.1)
  clear haa hba hca
  obtain ⟨on,rfl⟩:∃m:Nat,o=(m:Int):=⟨o.toNat,by omega⟩
  have t0_:w.cell? ⟨1,on * 2,none⟩=some (.string ⟨(sgT (on:Int)).toArray⟩):=hE.env.op on (by omega) (by omega) 0 rfl
  have t1_:w.cell? ⟨1,on * 2+1,none⟩=some (.int .i64 (lvO (on:Int))):=hE.env.op on (by omega) (by omega) 1 rfl
  have hgo:1 < N:=hE.2 _ (by decide)
  have b1_:(on:Int) < 16:=by omega
  have b2_:(0:Int)≤(on:Int):=by omega
  have hl6:lvO (on:Int)=6:=by rw [lvO,if_pos (by omega)]
  show Calls Tryz.prog 101 #[PtrTo b,xv 5 ⟨#[]⟩ 0 (on:Int) (some ⟨bz,oz,none⟩) 1 c q] w fun e w'=>e=.returned (.tuple #[])∧BldT 70 [] N b (xs++(sgT (on:Int)++opd 6 ka oa (txX ⟨ka,sa,va,oa,ra,qa⟩))) w'∧Wrote N b w w'
  replace hlen:xs.length+(sgT (on:Int)++opd 6 ka oa (txX ⟨ka,sa,va,oa,ra,qa⟩)).length≤140737488355328:=hlen
  have HLN:=zh hlen
  have HIA:Hid (OpF ka sa va oa ra qa):=zh (operand_wx _ hIA)
  have HOA:=zh ha
  have HLO:Hid (lvO (on:Int)≤6):=zh (by omega)
  have HL6:=zh hl6
  have HT0:=zh t0_
  have HT1:=zh t1_
  have HGO:=zh hgo
  clear hlen hX hz ih hb hE hB hok hIA ha ho hlo ho15 hl6 t0_ t1_ hgo
  go_enter Tryz.func101,Tryz.ntmps101
  go_upto_region 1 with fail
  have hb1_:Blk w.heap.size [.int .i64 5,.string ⟨#[]⟩,.int .i16 0,.int .i64 (on:Int),.slice (some ⟨bz,oz,none⟩) 1 c,.int .i64 q] 35 (w.alloc (Obj.cells #[.int .i64 5,.string ⟨#[]⟩,.int .i16 0,.int .i64 (on:Int),.slice (some ⟨bz,oz,none⟩) 1 c,.int .i64 q] 35)):=Blk.new w _ _
  have hgV:Grew w (w.alloc (Obj.cells #[.int .i64 5,.string ⟨#[]⟩,.int .i16 0,.int .i64 (on:Int),.slice (some ⟨bz,oz,none⟩) 1 c,.int .i64 q] 35)):=(Grew.refl w).alloc _
  have hne_:w.heap.size≠b:=by have:=HB.out.lt;omega
  generalize (w.alloc (Obj.cells #[.int .i64 5,.string ⟨#[]⟩,.int .i16 0,.int .i64 (on:Int),.slice (some ⟨bz,oz,none⟩) 1 c,.int .i64 q] 35))=V0 at hb1_ hgV ⊢
  generalize w.heap.size=S at hb1_ hne_ ⊢
  have HW0:=zh (Wrote.of_grew (N:=N) (b:=b) hgV HNw.out)
  have HB0:=zh (HB.out.grew hgV)
  have HN0:=zh (Nat.le_trans HNw.out hgV.sz)
  have HX0:=zh hb1_
  have HNE:=zh hne_
  clear hb1_ hgV hne_
  have x0V0:V0.cell? ⟨S,0,none⟩=some (.int .i64 5):=HX0.out.cell 0
  have x1V0:V0.cell? ⟨S,1,none⟩=some (.string ⟨#[]⟩):=HX0.out.cell 1
  have x2V0:V0.cell? ⟨S,2,none⟩=some (.int .i16 0):=HX0.out.cell 2
  have x3V0:V0.cell? ⟨S,3,none⟩=some (.int .i64 (on:Int)):=HX0.out.cell 3
  have x4V0:V0.cell? ⟨S,4,none⟩=some (.slice (some ⟨bz,oz,none⟩) 1 c):=HX0.out.cell 4
  have x5V0:V0.cell? ⟨S,5,none⟩=some (.int .i64 q):=HX0.out.cell 5
  have bw_aV0:=HW0.out.bel
  have a0V0:V0.cell? ⟨bz,oz,none⟩=some (.int .i64 ka):=(by simpa [Nat.add_assoc] using below_cell bw_aV0 HLT.out (HCa.out 0 _ rfl))
  have a1V0:V0.cell? ⟨bz,oz+1,none⟩=some (.string sa):=(by simpa [Nat.add_assoc] using below_cell bw_aV0 HLT.out (HCa.out 1 _ rfl))
  have a2V0:V0.cell? ⟨bz,oz+2,none⟩=some (.int .i16 va):=(by simpa [Nat.add_assoc] using below_cell bw_aV0 HLT.out (HCa.out 2 _ rfl))
  have a3V0:V0.cell? ⟨bz,oz+3,none⟩=some (.int .i64 oa):=(by simpa [Nat.add_assoc] using below_cell bw_aV0 HLT.out (HCa.out 3 _ rfl))
  have a4V0:V0.cell? ⟨bz,oz+4,none⟩=some (.slice pa ra.length ca):=(by simpa [Nat.add_assoc] using below_cell bw_aV0 HLT.out (HCa.out 4 _ rfl))
  have a5V0:V0.cell? ⟨bz,oz+5,none⟩=some (.int .i64 qa):=(by simpa [Nat.add_assoc] using below_cell bw_aV0 HLT.out (HCa.out 5 _ rfl))
  have t0V:V0.cell? ⟨1,on * 2,none⟩=some (.string ⟨(sgT (on:Int)).toArray⟩):=below_cell HW0.out.bel HGO.out HT0.out
  have t1V:V0.cell? ⟨1,on * 2+1,none⟩=some (.int .i64 (lvO (on:Int))):=below_cell HW0.out.bel HGO.out HT1.out
  have b3_:1 < V0.heap.size:=World.block_lt_of_cell? _ _ t0V
  go_upto_region 14 with fail
  have hb1_:Blk V0.heap.size [.string ⟨(sgT (on:Int)).toArray⟩,.int .i64 (lvO (on:Int))] 151 (V0.alloc (Obj.cells #[.string ⟨(sgT (on:Int)).toArray⟩,.int .i64 (lvO (on:Int))] 151)):=Blk.new V0 _ _
  have hgV:Grew V0 (V0.alloc (Obj.cells #[.string ⟨(sgT (on:Int)).toArray⟩,.int .i64 (lvO (on:Int))] 151)):=(Grew.refl V0).alloc _
  have hne_:V0.heap.size≠b:=by have:=HB0.out.lt;omega
  generalize (V0.alloc (Obj.cells #[.string ⟨(sgT (on:Int)).toArray⟩,.int .i64 (lvO (on:Int))] 151))=V1 at hb1_ hgV ⊢
  generalize V0.heap.size=O at hb1_ hne_ ⊢
  have HW1:=zh (HW0.out.grew hgV HNw.out)
  have HB1:=zh (HB0.out.grew hgV)
  have HN1:=zh (Nat.le_trans HN0.out hgV.sz)
  have HX1:=zh (HX0.out.grew hgV)
  have HO1:=zh hb1_
  have HNO:=zh hne_
  clear hb1_ hgV hne_
  have y0V1:V1.cell? ⟨O,0,none⟩=some (.string ⟨(sgT (on:Int)).toArray⟩):=HO1.out.cell 0
  have y1V1:V1.cell? ⟨O,1,none⟩=some (.int .i64 (lvO (on:Int))):=HO1.out.cell 1
  have x0V1:V1.cell? ⟨S,0,none⟩=some (.int .i64 5):=HX1.out.cell 0
  have x1V1:V1.cell? ⟨S,1,none⟩=some (.string ⟨#[]⟩):=HX1.out.cell 1
  have x2V1:V1.cell? ⟨S,2,none⟩=some (.int .i16 0):=HX1.out.cell 2
  have x3V1:V1.cell? ⟨S,3,none⟩=some (.int .i64 (on:Int)):=HX1.out.cell 3
  have x4V1:V1.cell? ⟨S,4,none⟩=some (.slice (some ⟨bz,oz,none⟩) 1 c):=HX1.out.cell 4
  have x5V1:V1.cell? ⟨S,5,none⟩=some (.int .i64 q):=HX1.out.cell 5
  go_upto_region 15 with (go_at_call 93;(with_reducible refine(wstr_any btB N b xs (sgT (on:Int)) V1 HB1.out (by have h_:=HLN.out;first | omega | (simp only [app_list,List.length_append,List.length_cons,List.length_nil] at h_ ⊢;omega) | (simp only [app_list,List.length_append,List.length_cons,List.length_nil] at h_ ⊢;done) | (simp [app_list,List.length_append] at h_ ⊢;omega)) HN1.out).mono ?_);rintro e V2 ⟨⟨v_1,rfl⟩,hb_,hw_⟩;have HW2:=zh (HW1.out.trans hw_);have HB2:=zh hb_;have HN2:=zh (Nat.le_trans HN1.out hw_.bel.size);have HX2:=zh (HX1.out.wrote hw_ HNE.out (by decide));have HO2:=zh (HO1.out.wrote hw_ HNO.out (by decide));clear hb_ hw_)
  have d3:Atv ⟨S,3,none⟩ (.int .i64 (on:Int)) V2.drew:=(HX2.out.grew (Grew.refl _).drw).atv 3 rfl
  have d4:Atv ⟨S,4,none⟩ (.slice (some ⟨bz,oz,none⟩) 1 c) V2.drew:=(HX2.out.grew (Grew.refl _).drw).atv 4 rfl
  have l0:Atv ⟨O,0,none⟩ (.string ⟨(sgT (on:Int)).toArray⟩) V2.drew:=(HO2.out.grew (Grew.refl _).drw).atv 0 rfl
  have l1:Atv ⟨O,1,none⟩ (.int .i64 (lvO (on:Int))) V2.drew:=(HO2.out.grew (Grew.refl _).drw).atv 1 rfl
  have bw_:Below N w V2.drew:=Below.drew HW2.out.bel
  have a0:Atv ⟨bz,oz+0 * 6,none⟩ (.int .i64 ka) V2.drew:=below_cell bw_ HLT.out (HCa.out 0 _ rfl)
  have a1:Atv ⟨bz,oz+0 * 6+1,none⟩ (.string sa) V2.drew:=below_cell bw_ HLT.out (HCa.out 1 _ rfl)
  have a2:Atv ⟨bz,oz+0 * 6+2,none⟩ (.int .i16 va) V2.drew:=below_cell bw_ HLT.out (HCa.out 2 _ rfl)
  have a3:Atv ⟨bz,oz+0 * 6+3,none⟩ (.int .i64 oa) V2.drew:=below_cell bw_ HLT.out (HCa.out 3 _ rfl)
  have a4:Atv ⟨bz,oz+0 * 6+4,none⟩ (.slice pa ra.length ca) V2.drew:=below_cell bw_ HLT.out (HCa.out 4 _ rfl)
  have a5:Atv ⟨bz,oz+0 * 6+5,none⟩ (.int .i64 qa) V2.drew:=below_cell bw_ HLT.out (HCa.out 5 _ rfl)
  refine wp_grew_tail 7 [some 55,some 56,some 57,some 58,some 59,some 60,some 61] (Zfg (Zfe (Zfc (Zfb (Zfa (Ztc (Ztb (Zta (Zfe (Zfd (Zfc (Zfb [])))))))))))) [fun v _=>v=.pointer (some ⟨b,0,none⟩),fun v _=>v=.pointer (some ⟨S,4,none⟩),fun v _=>v=.slice (some ⟨bz,oz,none⟩) (1) (c),fun v _=>v=.pointer (some ⟨bz,oz+0 * 6,none⟩),fun v _=>v=.agg #[.int .i64 (ka),.string sa,.int .i16 (va),.int .i64 (oa),.slice pa ra.length ca,.int .i64 (qa)],fun v _=>v=.pointer (some ⟨O,1,none⟩),fun v _=>v=.int .i64 (lvO (on:Int))] (by kernel_rfl) (by kernel_rfl) (by kernel_rfl) rfl ?_ ⟨?_,?_,?_,?_,?_,?_,?_,trivial⟩ ?_
  ·exact⟨Zi,Zi,Zi,Zi,Zi,Zi,Zi,trivial⟩
  ·intro u w hR hd;exact runs_mv (ev rfl) Zr
  ·intro u w hR hd;exact rn_fld_35_4 (ev rfl) Zr
  ·intro u w hR hd;exact rn_ld_33 (ev (hd.1 rfl)) (d4.kept hR) Zr
  ·intro u w hR hd;exact rn_idx_33 (0) (ev (hd.1 rfl)) rfl (by omega) Zr
  ·intro u w hR hd;exact rn_ld_35 (ev (hd.1 rfl)) (a0.kept hR) (a1.kept hR) (a2.kept hR) (a3.kept hR) (a4.kept hR) (a5.kept hR) Zr
  ·intro u w hR hd;exact rn_fld_151_1 (ev rfl) Zr
  ·intro u w hR hd;exact rn_ld_3 (ev (hd.1 rfl)) (l1.kept hR) Zr
  ·intro u w5 hR5 h
   have e0:u 55=PtrTo b:=h 0 (by decide)
   have e4:u 59=.agg #[.int .i64 (ka),.string sa,.int .i16 (va),.int .i64 (oa),.slice pa ra.length ca,.int .i64 (qa)]:=h 4 (by decide)
   have e6:u 61=.int .i64 (lvO (on:Int)):=h 6 (by decide)
   have g5:Grew V2 w5:=(Grew.refl V2).drw.trans hR5
   have HW5:=zh (HW2.out.grew g5 HNw.out)
   have HB5:=zh (HB2.out.grew g5)
   have HN5:=zh (Nat.le_trans HN2.out g5.sz)
   have HX5:=zh (HX2.out.grew g5)
   have HO5:=zh (HO2.out.grew g5)
   refine wpAny_one (i:=7) (some 62) (by kernel_rfl) rfl rfl rfl (runs_c3 en_wo (ev e0) (ev e4) (ev e6) ((HIA.out (lvO (on:Int)) N b (xs++sgT (on:Int)) B w5 pa ca HB5.out HN5.out HBN.out (HAa.out.below HBN.out HW5.out.bel) HZa.out (HE.out.wrote HW5.out) HOA.out (by rw [HL6.out];exact(by have h_:=HLN.out;first | omega | (simp only [app_list,List.length_append,List.length_cons,List.length_nil] at h_ ⊢;omega) | (simp only [app_list,List.length_append,List.length_cons,List.length_nil] at h_ ⊢;done) | (simp [app_list,List.length_append] at h_ ⊢;omega)))).mono ?_))
   rintro e_ V3 ⟨rfl,hb_,hw_⟩
   refine⟨_,rfl,?_⟩
   refine wpAny_done (by kernel_rfl) ?_ _
   simp only [zz1,zz2,zz3,Act.put,mixA,mixL,zz9,zz0,zz4,zz5,zz6]
   try simp only [Nat.zero_add,Nat.reduceAdd]
   have HW3:=zh (HW5.out.trans hw_)
   have HB3:=zh hb_
   have HN3:=zh (Nat.le_trans HN5.out hw_.bel.size)
   have HX3:=zh (HX5.out.wrote hw_ HNE.out (by decide))
   have HO3:=zh (HO5.out.wrote hw_ HNO.out (by decide))
   clear h hR5 g5 hb_ hw_ e0 e4 e6 HW5 HB5 HN5 HX5 HO5 d3 d4 l0 l1 bw_ a0 a1 a2 a3 a4 a5
   generalize u 55=z55
   generalize u 56=z56
   generalize u 57=z57
   generalize u 58=z58
   generalize u 59=z59
   generalize u 60=z60
   generalize u 61=z61
   go_wp2
   go_end0
   exact⟨rfl,by have h_:=HB3.out;rw [HL6.out] at h_;rw [← List.append_assoc];exact h_,HW3.out⟩
 ·rw [tx6] at hlen ⊢
  have hIA:=ih a (by simp)
  have hIB:=ih b' (by simp)
  replace hX:XL B w p c [a,b']:=hX
  have ho15:1≤o∧o≤15:=by omega
  obtain ⟨bz,oz,pa,ca,rfl,hba,haa,hca⟩:=hX.get 0 (by simp)
  obtain ⟨bz1,oz1,pb,cb,he1,hbb,hab,hcb⟩:=hX.get 1 (by simp)
  obtain ⟨rfl,rfl⟩:bz=bz1∧oz=oz1:=by simpa using he1
  obtain ⟨ka,sa,va,oa,ra,qa⟩:=a
  replace haa:XL B w pa ca ra:=haa
  replace hba:B bz∧sa.size≤1048576∧va≤32767:=hba
  have HAa:=zh haa
  have HZa:=zh hba.2
  have hcapa:ra.length≤ca:=haa.cap.1
  have hmaxa:=haa.cap.2.1
  have HCa:Hid (∀i_ u_,(xdc ⟨ka,sa,va,oa,pa,ra.length,ca,qa⟩)[i_]?=some u_→w.cell? ⟨bz,oz+0 * 6+i_,none⟩=some u_):=zh hca
  obtain ⟨kb,sb,vb,ob,rb,qb⟩:=b'
  replace hab:XL B w pb cb rb:=hab
  replace hbb:B bz∧sb.size≤1048576∧vb≤32767:=hbb
  have HAb:=zh hab
  have HZb:=zh hbb.2
  have hcapb:rb.length≤cb:=hab.cap.1
  have hmaxb:=hab.cap.2.1
  have HCb:Hid (∀i_ u_,(xdc ⟨kb,sb,vb,ob,pb,rb.length,cb,qb⟩)[i_]?=some u_→w.cell? ⟨bz,oz+1 * 6+i_,none⟩=some u_):=zh hcb
  have HLT:Hid (bz < N):=zh (hB bz hba.1)
  clear haa hba hca hab hbb hcb
  obtain ⟨on,rfl⟩:∃m:Nat,o=(m:Int):=⟨o.toNat,by omega⟩
  have t0_:w.cell? ⟨1,on * 2,none⟩=some (.string ⟨(sgT (on:Int)).toArray⟩):=hE.env.op on (by omega) (by omega) 0 rfl
  have t1_:w.cell? ⟨1,on * 2+1,none⟩=some (.int .i64 (lvO (on:Int))):=hE.env.op on (by omega) (by omega) 1 rfl
  have hgo:1 < N:=hE.2 _ (by decide)
  have b1_:(on:Int) < 16:=by omega
  have b2_:(0:Int)≤(on:Int):=by omega
  have hl6:lvO (on:Int)=lvT (on:Int):=by rw [lvO,if_neg (by omega)]
  show Calls Tryz.prog 101 #[PtrTo b,xv 6 ⟨#[]⟩ 0 (on:Int) (some ⟨bz,oz,none⟩) 2 c q] w fun e w'=>e=.returned (.tuple #[])∧BldT 70 [] N b (xs++(((((opd (lfT (on:Int)) ka oa (txX ⟨ka,sa,va,oa,ra,qa⟩))++[32])++sgT (on:Int))++[32])++opd (lvT (on:Int)+1) kb ob (txX ⟨kb,sb,vb,ob,rb,qb⟩))) w'∧Wrote N b w w'
  replace hlen:xs.length+((((((opd (lfT (on:Int)) ka oa (txX ⟨ka,sa,va,oa,ra,qa⟩))++[32])++sgT (on:Int))++[32])++opd (lvT (on:Int)+1) kb ob (txX ⟨kb,sb,vb,ob,rb,qb⟩))).length≤140737488355328:=hlen
  have HLN:=zh hlen
  have HIA:Hid (OpF ka sa va oa ra qa):=zh (operand_wx _ hIA)
  have HIB:Hid (OpF kb sb vb ob rb qb):=zh (operand_wx _ hIB)
  have HOA:=zh ha
  have HOB:=zh hb'
  have hlv:=(opF_lv (opF_sg ho).1)
  have HLO:Hid (1≤lvO (on:Int)∧lvO (on:Int)≤6):=zh (by omega)
  have HL6:=zh hl6
  have HLF:Hid ((if lvO (on:Int)=3 then 4 else lvO (on:Int))=lfT (on:Int)):=zh (by rw [hl6,lfT])
  have HSG:Hid ((⟨(sgT (on:Int)).toArray⟩:ByteArray).data.toList.length=(sgT (on:Int)).length∧(⟨#[32]⟩:ByteArray).data.toList.length=1):=zh ⟨by simp,rfl⟩
  have hsg1:(⟨(sgT (on:Int)).toArray⟩:ByteArray).size≤2:=by have:=sgT_len (on:Int);show (sgT (on:Int)).toArray.size≤2;rw [List.size_toArray];exact this
  have HSZ:=zh hsg1
  have HT0:=zh t0_
  have HT1:=zh t1_
  have HGO:=zh hgo
  clear hlen hX hz ih hb hE hB hok hIA hIB ha hb' ho ho15 hl6 t0_ t1_ hgo hlv
  go_enter Tryz.func101,Tryz.ntmps101
  go_upto_region 1 with fail
  have hb1_:Blk w.heap.size [.int .i64 6,.string ⟨#[]⟩,.int .i16 0,.int .i64 (on:Int),.slice (some ⟨bz,oz,none⟩) 2 c,.int .i64 q] 35 (w.alloc (Obj.cells #[.int .i64 6,.string ⟨#[]⟩,.int .i16 0,.int .i64 (on:Int),.slice (some ⟨bz,oz,none⟩) 2 c,.int .i64 q] 35)):=Blk.new w _ _
  have hgV:Grew w (w.alloc (Obj.cells #[.int .i64 6,.string ⟨#[]⟩,.int .i16 0,.int .i64 (on:Int),.slice (some ⟨bz,oz,none⟩) 2 c,.int .i64 q] 35)):=(Grew.refl w).alloc _
  have hne_:w.heap.size≠b:=by have:=HB.out.lt;omega
  generalize (w.alloc (Obj.cells #[.int .i64 6,.string ⟨#[]⟩,.int .i16 0,.int .i64 (on:Int),.slice (some ⟨bz,oz,none⟩) 2 c,.int .i64 q] 35))=V0 at hb1_ hgV ⊢
  generalize w.heap.size=S at hb1_ hne_ ⊢
  have HW0:=zh (Wrote.of_grew (N:=N) (b:=b) hgV HNw.out)
  have HB0:=zh (HB.out.grew hgV)
  have HN0:=zh (Nat.le_trans HNw.out hgV.sz)
  have HX0:=zh hb1_
  have HNE:=zh hne_
  clear hb1_ hgV hne_
  have x0V0:V0.cell? ⟨S,0,none⟩=some (.int .i64 6):=HX0.out.cell 0
  have x1V0:V0.cell? ⟨S,1,none⟩=some (.string ⟨#[]⟩):=HX0.out.cell 1
  have x2V0:V0.cell? ⟨S,2,none⟩=some (.int .i16 0):=HX0.out.cell 2
  have x3V0:V0.cell? ⟨S,3,none⟩=some (.int .i64 (on:Int)):=HX0.out.cell 3
  have x4V0:V0.cell? ⟨S,4,none⟩=some (.slice (some ⟨bz,oz,none⟩) 2 c):=HX0.out.cell 4
  have x5V0:V0.cell? ⟨S,5,none⟩=some (.int .i64 q):=HX0.out.cell 5
  have bw_aV0:=HW0.out.bel
  have a0V0:V0.cell? ⟨bz,oz,none⟩=some (.int .i64 ka):=(by simpa [Nat.add_assoc] using below_cell bw_aV0 HLT.out (HCa.out 0 _ rfl))
  have a1V0:V0.cell? ⟨bz,oz+1,none⟩=some (.string sa):=(by simpa [Nat.add_assoc] using below_cell bw_aV0 HLT.out (HCa.out 1 _ rfl))
  have a2V0:V0.cell? ⟨bz,oz+2,none⟩=some (.int .i16 va):=(by simpa [Nat.add_assoc] using below_cell bw_aV0 HLT.out (HCa.out 2 _ rfl))
  have a3V0:V0.cell? ⟨bz,oz+3,none⟩=some (.int .i64 oa):=(by simpa [Nat.add_assoc] using below_cell bw_aV0 HLT.out (HCa.out 3 _ rfl))
  have a4V0:V0.cell? ⟨bz,oz+4,none⟩=some (.slice pa ra.length ca):=(by simpa [Nat.add_assoc] using below_cell bw_aV0 HLT.out (HCa.out 4 _ rfl))
  have a5V0:V0.cell? ⟨bz,oz+5,none⟩=some (.int .i64 qa):=(by simpa [Nat.add_assoc] using below_cell bw_aV0 HLT.out (HCa.out 5 _ rfl))
  have bw_bV0:=HW0.out.bel
  have b0V0:V0.cell? ⟨bz,oz+6,none⟩=some (.int .i64 kb):=(by simpa [Nat.add_assoc] using below_cell bw_bV0 HLT.out (HCb.out 0 _ rfl))
  have b1V0:V0.cell? ⟨bz,oz+7,none⟩=some (.string sb):=(by simpa [Nat.add_assoc] using below_cell bw_bV0 HLT.out (HCb.out 1 _ rfl))
  have b2V0:V0.cell? ⟨bz,oz+8,none⟩=some (.int .i16 vb):=(by simpa [Nat.add_assoc] using below_cell bw_bV0 HLT.out (HCb.out 2 _ rfl))
  have b3V0:V0.cell? ⟨bz,oz+9,none⟩=some (.int .i64 ob):=(by simpa [Nat.add_assoc] using below_cell bw_bV0 HLT.out (HCb.out 3 _ rfl))
  have b4V0:V0.cell? ⟨bz,oz+10,none⟩=some (.slice pb rb.length cb):=(by simpa [Nat.add_assoc] using below_cell bw_bV0 HLT.out (HCb.out 4 _ rfl))
  have b5V0:V0.cell? ⟨bz,oz+11,none⟩=some (.int .i64 qb):=(by simpa [Nat.add_assoc] using below_cell bw_bV0 HLT.out (HCb.out 5 _ rfl))
  have t0V:V0.cell? ⟨1,on * 2,none⟩=some (.string ⟨(sgT (on:Int)).toArray⟩):=below_cell HW0.out.bel HGO.out HT0.out
  have t1V:V0.cell? ⟨1,on * 2+1,none⟩=some (.int .i64 (lvO (on:Int))):=below_cell HW0.out.bel HGO.out HT1.out
  have b3_:1 < V0.heap.size:=World.block_lt_of_cell? _ _ t0V
  clear hsg1
  go_upto_region 18 with fail
  have hb1_:Blk V0.heap.size [.string ⟨(sgT (on:Int)).toArray⟩,.int .i64 (lvO (on:Int))] 151 (V0.alloc (Obj.cells #[.string ⟨(sgT (on:Int)).toArray⟩,.int .i64 (lvO (on:Int))] 151)):=Blk.new V0 _ _
  have hgV:Grew V0 (V0.alloc (Obj.cells #[.string ⟨(sgT (on:Int)).toArray⟩,.int .i64 (lvO (on:Int))] 151)):=(Grew.refl V0).alloc _
  have hne_:V0.heap.size≠b:=by have:=HB0.out.lt;omega
  generalize (V0.alloc (Obj.cells #[.string ⟨(sgT (on:Int)).toArray⟩,.int .i64 (lvO (on:Int))] 151))=V1 at hb1_ hgV ⊢
  generalize V0.heap.size=O at hb1_ hne_ ⊢
  have HW1:=zh (HW0.out.grew hgV HNw.out)
  have HB1:=zh (HB0.out.grew hgV)
  have HN1:=zh (Nat.le_trans HN0.out hgV.sz)
  have HX1:=zh (HX0.out.grew hgV)
  have HO1:=zh hb1_
  have HNO:=zh hne_
  clear hb1_ hgV hne_
  have d3:Atv ⟨S,3,none⟩ (.int .i64 (on:Int)) V1.drew:=(HX1.out.grew (Grew.refl _).drw).atv 3 rfl
  have d4:Atv ⟨S,4,none⟩ (.slice (some ⟨bz,oz,none⟩) 2 c) V1.drew:=(HX1.out.grew (Grew.refl _).drw).atv 4 rfl
  have l0:Atv ⟨O,0,none⟩ (.string ⟨(sgT (on:Int)).toArray⟩) V1.drew:=(HO1.out.grew (Grew.refl _).drw).atv 0 rfl
  have l1:Atv ⟨O,1,none⟩ (.int .i64 (lvO (on:Int))) V1.drew:=(HO1.out.grew (Grew.refl _).drw).atv 1 rfl
  have bw_:Below N w V1.drew:=Below.drew HW1.out.bel
  have a0:Atv ⟨bz,oz+0 * 6,none⟩ (.int .i64 ka) V1.drew:=below_cell bw_ HLT.out (HCa.out 0 _ rfl)
  have a1:Atv ⟨bz,oz+0 * 6+1,none⟩ (.string sa) V1.drew:=below_cell bw_ HLT.out (HCa.out 1 _ rfl)
  have a2:Atv ⟨bz,oz+0 * 6+2,none⟩ (.int .i16 va) V1.drew:=below_cell bw_ HLT.out (HCa.out 2 _ rfl)
  have a3:Atv ⟨bz,oz+0 * 6+3,none⟩ (.int .i64 oa) V1.drew:=below_cell bw_ HLT.out (HCa.out 3 _ rfl)
  have a4:Atv ⟨bz,oz+0 * 6+4,none⟩ (.slice pa ra.length ca) V1.drew:=below_cell bw_ HLT.out (HCa.out 4 _ rfl)
  have a5:Atv ⟨bz,oz+0 * 6+5,none⟩ (.int .i64 qa) V1.drew:=below_cell bw_ HLT.out (HCa.out 5 _ rfl)
  have b0:Atv ⟨bz,oz+1 * 6,none⟩ (.int .i64 kb) V1.drew:=below_cell bw_ HLT.out (HCb.out 0 _ rfl)
  have b1:Atv ⟨bz,oz+1 * 6+1,none⟩ (.string sb) V1.drew:=below_cell bw_ HLT.out (HCb.out 1 _ rfl)
  have b2:Atv ⟨bz,oz+1 * 6+2,none⟩ (.int .i16 vb) V1.drew:=below_cell bw_ HLT.out (HCb.out 2 _ rfl)
  have b3:Atv ⟨bz,oz+1 * 6+3,none⟩ (.int .i64 ob) V1.drew:=below_cell bw_ HLT.out (HCb.out 3 _ rfl)
  have b4:Atv ⟨bz,oz+1 * 6+4,none⟩ (.slice pb rb.length cb) V1.drew:=below_cell bw_ HLT.out (HCb.out 4 _ rfl)
  have b5:Atv ⟨bz,oz+1 * 6+5,none⟩ (.int .i64 qb) V1.drew:=below_cell bw_ HLT.out (HCb.out 5 _ rfl)
  refine wp_grew_tail 7 [some 69,some 70,some 71,some 72,some 73,some 74,some 75] (Zfg (Zfg (Zfc (Zfa (Ztc (Ztb (Zta (Zfe [])))))))) [fun v _=>v=.pointer (some ⟨b,0,none⟩),fun v _=>v=.pointer (some ⟨S,4,none⟩),fun v _=>v=.slice (some ⟨bz,oz,none⟩) (2) (c),fun v _=>v=.pointer (some ⟨bz,oz+0 * 6,none⟩),fun v _=>v=.agg #[.int .i64 (ka),.string sa,.int .i16 (va),.int .i64 (oa),.slice pa ra.length ca,.int .i64 (qa)],fun v _=>v=.agg #[.string ⟨(sgT (on:Int)).toArray⟩,.int .i64 (lvO (on:Int))],fun v _=>v=.int .i64 (lfT (on:Int))] (by kernel_rfl) (by kernel_rfl) (by kernel_rfl) rfl ?_ ⟨?_,?_,?_,?_,?_,?_,?_,trivial⟩ ?_
  ·exact⟨Zi,Zi,Zi,Zi,Zi,Zi,Zi,trivial⟩
  ·intro u w hR hd;exact runs_mv (ev rfl) Zr
  ·intro u w hR hd;exact rn_fld_35_4 (ev rfl) Zr
  ·intro u w hR hd;exact rn_ld_33 (ev (hd.1 rfl)) (d4.kept hR) Zr
  ·intro u w hR hd;exact rn_idx_33 (0) (ev (hd.1 rfl)) rfl (by omega) Zr
  ·intro u w hR hd;exact rn_ld_35 (ev (hd.1 rfl)) (a0.kept hR) (a1.kept hR) (a2.kept hR) (a3.kept hR) (a4.kept hR) (a5.kept hR) Zr
  ·intro u w hR hd;exact rn_ld_151 (ev rfl) (l0.kept hR) (l1.kept hR) Zr
  ·intro u w hR hd;exact runs_c1 en_ll (ev (hd.1 rfl)) (callp (fun _ e=>e) ((least_any _ _ _ (by have h_:=HLO.out;omega)).mono fun e w9 h=>⟨h.1.trans (congrArg (fun z=>Ending.returned (.int .i64 z)) HLF.out),h.2⟩))
  ·intro u w5 hR5 h
   have e0:u 69=PtrTo b:=h 0 (by decide)
   have e4:u 73=.agg #[.int .i64 (ka),.string sa,.int .i16 (va),.int .i64 (oa),.slice pa ra.length ca,.int .i64 (qa)]:=h 4 (by decide)
   have e6:u 75=.int .i64 (lfT (on:Int)):=h 6 (by decide)
   have g5:Grew V1 w5:=(Grew.refl V1).drw.trans hR5
   have HW5:=zh (HW1.out.grew g5 HNw.out)
   have HB5:=zh (HB1.out.grew g5)
   have HN5:=zh (Nat.le_trans HN1.out g5.sz)
   have HX5:=zh (HX1.out.grew g5)
   have HO5:=zh (HO1.out.grew g5)
   refine wpAny_one (i:=7) (some 76) (by kernel_rfl) rfl rfl rfl (runs_c3 en_wo (ev e0) (ev e4) (ev e6) ((HIA.out (lfT (on:Int)) N b xs B w5 pa ca HB5.out HN5.out HBN.out (HAa.out.below HBN.out HW5.out.bel) HZa.out (HE.out.wrote HW5.out) HOA.out (by have h_:=HLN.out;first | omega | (simp only [app_list,List.length_append,List.length_cons,List.length_nil] at h_ ⊢;omega) | (simp only [app_list,List.length_append,List.length_cons,List.length_nil] at h_ ⊢;done) | (simp [app_list,List.length_append] at h_ ⊢;omega))).mono ?_))
   rintro e_ V2 ⟨rfl,hb_,hw_⟩
   refine⟨_,rfl,?_⟩
   refine wpAny_done (by kernel_rfl) ?_ _
   simp only [zz1,zz2,zz3,Act.put,mixA,mixL,zz9,zz0,zz4,zz5,zz6]
   try simp only [Nat.zero_add,Nat.reduceAdd]
   have HW2:=zh (HW5.out.trans hw_)
   have HB2:=zh hb_
   have HN2:=zh (Nat.le_trans HN5.out hw_.bel.size)
   have HX2:=zh (HX5.out.wrote hw_ HNE.out (by decide))
   have HO2:=zh (HO5.out.wrote hw_ HNO.out (by decide))
   clear h hR5 g5 hb_ hw_ e0 e4 e6 HW5 HB5 HN5 HX5 HO5 d3 d4 l0 l1 bw_ a0 a1 a2 a3 a4 a5 b0 b1 b2 b3 b4 b5
   generalize u 69=z69
   generalize u 70=z70
   generalize u 71=z71
   generalize u 72=z72
   generalize u 73=z73
   generalize u 74=z74
   generalize u 75=z75
   have y0V2:V2.cell? ⟨O,0,none⟩=some (.string ⟨(sgT (on:Int)).toArray⟩):=HO2.out.cell 0
   have y1V2:V2.cell? ⟨O,1,none⟩=some (.int .i64 (lvO (on:Int))):=HO2.out.cell 1

   have hsg1:=HSZ.out
   generalize hsg:(⟨(sgT (on:Int)).toArray⟩:ByteArray)=sg_ at y0V2 hsg1
   have HSG2:Hid (sg_.data.toList.length=(sgT (on:Int)).length∧(⟨#[32]⟩:ByteArray).data.toList.length=1):=zh (hsg ▸ HSG.out)
   have HSGE:=zh hsg
   clear hsg
   go_upto_region 20 with (go_at_call 93;(with_reducible refine(wstrS_any btB N b (xs++opd (lfT (on:Int)) ka oa (txX ⟨ka,sa,va,oa,ra,qa⟩)) ((⟨#[32]⟩:ByteArray)++sg_++⟨#[32]⟩) V2 HB2.out (by have h_:=HLN.out;have h2_:=HSG2.out;simp only [app_list,List.length_append,List.length_cons,List.length_nil] at h_ h2_ ⊢;omega) HN2.out).mono ?_);rintro e V3 ⟨⟨v_1,rfl⟩,hb_,hw_⟩;have HW3:=zh (HW2.out.trans hw_);have HB3:=zh hb_;have HN3:=zh (Nat.le_trans HN2.out hw_.bel.size);have HX3:=zh (HX2.out.wrote hw_ HNE.out (by decide));have HO3:=zh (HO2.out.wrote hw_ HNO.out (by decide));clear hb_ hw_)
   obtain rfl:=HSGE.out
   have d3:Atv ⟨S,3,none⟩ (.int .i64 (on:Int)) V3.drew:=(HX3.out.grew (Grew.refl _).drw).atv 3 rfl
   have d4:Atv ⟨S,4,none⟩ (.slice (some ⟨bz,oz,none⟩) 2 c) V3.drew:=(HX3.out.grew (Grew.refl _).drw).atv 4 rfl
   have l0:Atv ⟨O,0,none⟩ (.string ⟨(sgT (on:Int)).toArray⟩) V3.drew:=(HO3.out.grew (Grew.refl _).drw).atv 0 rfl
   have l1:Atv ⟨O,1,none⟩ (.int .i64 (lvO (on:Int))) V3.drew:=(HO3.out.grew (Grew.refl _).drw).atv 1 rfl
   have bw_:Below N w V3.drew:=Below.drew HW3.out.bel
   have a0:Atv ⟨bz,oz+0 * 6,none⟩ (.int .i64 ka) V3.drew:=below_cell bw_ HLT.out (HCa.out 0 _ rfl)
   have a1:Atv ⟨bz,oz+0 * 6+1,none⟩ (.string sa) V3.drew:=below_cell bw_ HLT.out (HCa.out 1 _ rfl)
   have a2:Atv ⟨bz,oz+0 * 6+2,none⟩ (.int .i16 va) V3.drew:=below_cell bw_ HLT.out (HCa.out 2 _ rfl)
   have a3:Atv ⟨bz,oz+0 * 6+3,none⟩ (.int .i64 oa) V3.drew:=below_cell bw_ HLT.out (HCa.out 3 _ rfl)
   have a4:Atv ⟨bz,oz+0 * 6+4,none⟩ (.slice pa ra.length ca) V3.drew:=below_cell bw_ HLT.out (HCa.out 4 _ rfl)
   have a5:Atv ⟨bz,oz+0 * 6+5,none⟩ (.int .i64 qa) V3.drew:=below_cell bw_ HLT.out (HCa.out 5 _ rfl)
   have b0:Atv ⟨bz,oz+1 * 6,none⟩ (.int .i64 kb) V3.drew:=below_cell bw_ HLT.out (HCb.out 0 _ rfl)
   have b1:Atv ⟨bz,oz+1 * 6+1,none⟩ (.string sb) V3.drew:=below_cell bw_ HLT.out (HCb.out 1 _ rfl)
   have b2:Atv ⟨bz,oz+1 * 6+2,none⟩ (.int .i16 vb) V3.drew:=below_cell bw_ HLT.out (HCb.out 2 _ rfl)
   have b3:Atv ⟨bz,oz+1 * 6+3,none⟩ (.int .i64 ob) V3.drew:=below_cell bw_ HLT.out (HCb.out 3 _ rfl)
   have b4:Atv ⟨bz,oz+1 * 6+4,none⟩ (.slice pb rb.length cb) V3.drew:=below_cell bw_ HLT.out (HCb.out 4 _ rfl)
   have b5:Atv ⟨bz,oz+1 * 6+5,none⟩ (.int .i64 qb) V3.drew:=below_cell bw_ HLT.out (HCb.out 5 _ rfl)
   refine wp_grew_tail 8 [some 83,some 84,some 85,some 86,some 87,some 88,some 89,some 90] (Zfg (Zfg (Zfe (Zfb (Zfa (Ztd (Zfa []))))))) [fun v _=>v=.pointer (some ⟨b,0,none⟩),fun v _=>v=.pointer (some ⟨S,4,none⟩),fun v _=>v=.slice (some ⟨bz,oz,none⟩) (2) (c),fun v _=>v=.pointer (some ⟨bz,oz+1 * 6,none⟩),fun v _=>v=.agg #[.int .i64 (kb),.string sb,.int .i16 (vb),.int .i64 (ob),.slice pb rb.length cb,.int .i64 (qb)],fun v _=>v=.pointer (some ⟨O,1,none⟩),fun v _=>v=.int .i64 (lvO (on:Int)),fun v _=>v=.int .i64 ((lvO (on:Int))+(1))] (by kernel_rfl) (by kernel_rfl) (by kernel_rfl) rfl ?_ ⟨?_,?_,?_,?_,?_,?_,?_,?_,trivial⟩ ?_
   ·exact⟨Zi,Zi,Zi,Zi,Zi,Zi,Zi,Zi,trivial⟩
   ·intro u w hR hd;exact runs_mv (ev rfl) Zr
   ·intro u w hR hd;exact rn_fld_35_4 (ev rfl) Zr
   ·intro u w hR hd;exact rn_ld_33 (ev (hd.1 rfl)) (d4.kept hR) Zr
   ·intro u w hR hd;exact rn_idx_33 (1) (ev (hd.1 rfl)) rfl (by omega) Zr
   ·intro u w hR hd;exact rn_ld_35 (ev (hd.1 rfl)) (b0.kept hR) (b1.kept hR) (b2.kept hR) (b3.kept hR) (b4.kept hR) (b5.kept hR) Zr
   ·intro u w hR hd;exact rn_fld_151_1 (ev rfl) Zr
   ·intro u w hR hd;exact rn_ld_3 (ev (hd.1 rfl)) (l1.kept hR) Zr
   ·intro u w hR hd;exact rn_add_3 (ev (hd.1 rfl)) rfl (by have:=HLO.out;omega) Zr
   ·intro u w5 hR5 h
    have e0:u 83=PtrTo b:=h 0 (by decide)
    have e4:u 87=.agg #[.int .i64 (kb),.string sb,.int .i16 (vb),.int .i64 (ob),.slice pb rb.length cb,.int .i64 (qb)]:=h 4 (by decide)
    have e6:u 90=.int .i64 ((lvO (on:Int))+(1)):=h 7 (by decide)
    have g5:Grew V3 w5:=(Grew.refl V3).drw.trans hR5
    have HW5:=zh (HW3.out.grew g5 HNw.out)
    have HB5:=zh (HB3.out.grew g5)
    have HN5:=zh (Nat.le_trans HN3.out g5.sz)
    have HX5:=zh (HX3.out.grew g5)
    have HO5:=zh (HO3.out.grew g5)
    refine wpAny_one (i:=8) (some 91) (by kernel_rfl) rfl rfl rfl (runs_c3 en_wo (ev e0) (ev e4) (ev e6) ((HIB.out (lvO (on:Int)+1) N b ((xs++opd (lfT (on:Int)) ka oa (txX ⟨ka,sa,va,oa,ra,qa⟩))++((⟨#[32]⟩:ByteArray)++⟨(sgT (on:Int)).toArray⟩++⟨#[32]⟩).data.toList) B w5 pb cb HB5.out HN5.out HBN.out (HAb.out.below HBN.out HW5.out.bel) HZb.out (HE.out.wrote HW5.out) HOB.out (by rw [HL6.out];exact(by have h_:=HLN.out;have h2_:=HSG.out;simp only [app_list,List.length_append,List.length_cons,List.length_nil] at h_ h2_ ⊢;omega))).mono ?_))
    rintro e_ V4 ⟨rfl,hb_,hw_⟩
    refine⟨_,rfl,?_⟩
    refine wpAny_done (by kernel_rfl) ?_ _
    simp only [zz1,zz2,zz3,Act.put,mixA,mixL,zz9,zz0,zz4,zz5,zz6]
    try simp only [Nat.zero_add,Nat.reduceAdd]
    have HW4:=zh (HW5.out.trans hw_)
    have HB4:=zh hb_
    have HN4:=zh (Nat.le_trans HN5.out hw_.bel.size)
    have HX4:=zh (HX5.out.wrote hw_ HNE.out (by decide))
    have HO4:=zh (HO5.out.wrote hw_ HNO.out (by decide))
    clear h hR5 g5 hb_ hw_ e0 e4 e6 HW5 HB5 HN5 HX5 HO5 d3 d4 l0 l1 bw_ a0 a1 a2 a3 a4 a5 b0 b1 b2 b3 b4 b5
    generalize u 83=z83
    generalize u 84=z84
    generalize u 85=z85
    generalize u 86=z86
    generalize u 87=z87
    generalize u 88=z88
    generalize u 89=z89
    generalize u 90=z90
    go_wp2
    go_end0
    exact⟨rfl,by have h_:=HB4.out;rw [HL6.out] at h_;simpa [app_list,List.append_assoc] using h_,HW4.out⟩
set_option maxHeartbeats 8000000 in
theorem textP_any (x:Xp) (B:Nat→Prop) (w:World) (p:Option Addr) (c:Nat) (hB:∀i,B i→i < w.heap.size) (hX:XL B w p c x.ar) (hz:x.s.size≤1048576∧x.v≤32767) (hE:Env w) (hok:okX x=true) (hlen:(txX x).length≤140737488355328) :
 Calls Tryz.prog 49 #[xv x.k x.s x.v x.o p x.ar.length c x.q] w fun e w'=>e=.returned (.string ⟨(txX x).toArray⟩)∧Grew w w':=by
 obtain ⟨N,hN⟩:∃N,w.heap.size=N:=⟨_,rfl⟩
 rw [hN] at hB
 have HE:Hid (EnvB N w):=zh (hN ▸ EnvB.of hE)
 have HXL:=zh hX
 have HBN:=zh hB
 have HZ:=zh hz
 have HOK:=zh hok
 have HLN:=zh hlen
 have hcap:=hX.cap.1
 have hmax:=hX.cap.2.1
 have HNS:=zh hN
 clear hE hX hB hz hok hlen hN
 go_enter Tryz.func49,Tryz.ntmps49
 go_upto_region 2 with fail
 have hb1_:Blk w.heap.size [.int .i64 x.k,.string x.s,.int .i16 x.v,.int .i64 x.o,.slice p x.ar.length c,.int .i64 x.q] 35 (w.alloc (Obj.cells #[.int .i64 x.k,.string x.s,.int .i16 x.v,.int .i64 x.o,.slice p x.ar.length c,.int .i64 x.q] 35)):=Blk.new w _ _
 have hgV:Grew w (w.alloc (Obj.cells #[.int .i64 x.k,.string x.s,.int .i16 x.v,.int .i64 x.o,.slice p x.ar.length c,.int .i64 x.q] 35)):=(Grew.refl w).alloc _
 have hVs:(w.alloc (Obj.cells #[.int .i64 x.k,.string x.s,.int .i16 x.v,.int .i64 x.o,.slice p x.ar.length c,.int .i64 x.q] 35)).heap.size=w.heap.size+1:=by rw [alloc_sz]
 generalize (w.alloc (Obj.cells #[.int .i64 x.k,.string x.s,.int .i16 x.v,.int .i64 x.o,.slice p x.ar.length c,.int .i64 x.q] 35))=V at hb1_ hgV hVs ⊢
 have hS:w.heap.size < V.heap.size:=hb1_.lt
 have hN:=HNS.out
 generalize w.heap.size=S at hb1_ hS hN hVs ⊢
 have hbd:BldT 70 [] N V.heap.size [] (V.alloc (Obj.cells #[.pointer none,.slice none 0 0] 70)):=BldT.made N V (by omega) _ rfl
 have hgW:Grew V (V.alloc (Obj.cells #[.pointer none,.slice none 0 0] 70)):=(Grew.refl V).alloc _
 have hbS:=hb1_.grew hgW
 have hgT:=hgV.trans hgW
 have hne_:S≠V.heap.size:=by omega
 generalize (V.alloc (Obj.cells #[.pointer none,.slice none 0 0] 70))=V0 at hbd hgW hbS hgT ⊢
 have hNb:N≤V.heap.size:=by omega
 have hN0:N≤V0.heap.size:=Nat.le_trans hNb hgW.sz
 rw [hVs] at hbd hne_ hNb
 clear hVs
 generalize S+1=b at hbd hne_ hNb ⊢
 have HB0:=zh hbd
 have HN0:=zh hN0
 have HX0:=zh hbS
 have HW0:Hid (Wrote N b w V0):=zh (Wrote.of_grew hgT (Nat.le_of_eq HNS.out.symm))
 have HGT:=zh hgT
 have q0V0:V0.cell? ⟨S,0,none⟩=some (.int .i64 x.k):=HX0.out.cell 0
 have q1V0:V0.cell? ⟨S,1,none⟩=some (.string x.s):=HX0.out.cell 1
 have q2V0:V0.cell? ⟨S,2,none⟩=some (.int .i16 x.v):=HX0.out.cell 2
 have q3V0:V0.cell? ⟨S,3,none⟩=some (.int .i64 x.o):=HX0.out.cell 3
 have q4V0:V0.cell? ⟨S,4,none⟩=some (.slice p x.ar.length c):=HX0.out.cell 4
 have q5V0:V0.cell? ⟨S,5,none⟩=some (.int .i64 x.q):=HX0.out.cell 5
 clear hb1_ hgV hS hbd hgW hbS hgT hne_ hNb hN0 hN
 go_wp2_with (first
  | (go_at_call 101;(with_reducible refine(wx_any x N b [] B V0 p c HB0.out HN0.out HBN.out (HXL.out.below HBN.out HW0.out.bel) HZ.out (HE.out.wrote HW0.out) HOK.out (by have h_:=HLN.out;simpa using h_)).mono ?_);rintro e V1 ⟨rfl,hb_,hw_⟩;have HW1:=zh (HW0.out.trans hw_);have HB1:=zh hb_;have HN1:=zh (Nat.le_trans HN0.out hw_.bel.size);clear hb_ hw_)
  | (go_at_call 45;(with_reducible refine(str_any N b ([]++txX x) V1 HB1.out HN1.out).mono ?_);rintro e V2 ⟨rfl,hw_⟩;have HW2:=zh (HW1.out.bel.trans hw_);clear hw_))
 go_ret
 exact⟨rfl,by have h_:=HW2.out;rw [← HNS.out] at h_;exact h_⟩
set_option maxHeartbeats 8000000 in
theorem exprP_any (x:Xp) (B:Nat→Prop) (w:World) (p:Option Addr) (c:Nat) (hB:∀i,B i→i < w.heap.size) (hX:XL B w p c x.ar) (hz:x.s.size≤1048576∧x.v≤32767) (hE:Env w) (hn:nX x≤1048576) :
 Calls Tryz.prog 16 #[xv x.k x.s x.v x.o p x.ar.length c x.q] w fun e w'=>e=.returned (.string (if okX x=true then ⟨(txX x).toArray⟩ else ⟨#[]⟩))∧Grew w w':=by
 have hcap:=hX.cap.1
 have hmax:=hX.cap.2.1
 have HF:=zh (fun W (hW:Grew w W)=>formX_any x B W p c hz (hX.kept hW) (hE.grew hW))
 cases hok:okX x with
 | true =>
   rw [if_pos rfl]
   have hlen:(txX x).length≤140737488355328:=by have:=txX_len x hok (XL.fitX hz.2 hX);omega
   have HT:=zh (fun W (hW:Grew w W)=>textP_any x B W p c (fun i hi=>Nat.lt_of_lt_of_le (hB i hi) hW.sz) (hX.kept hW) hz (hE.grew hW) hok hlen)
   rw [hok] at HF
   clear hX hz hE hn hok hlen hB
   have HG1:=zh ((Grew.refl w).alloc (Obj.cells #[.int .i64 x.k,.string x.s,.int .i16 x.v,.int .i64 x.o,.slice p x.ar.length c,.int .i64 x.q] 35))
   go_enter Tryz.func16,Tryz.ntmps16
   go_wp2_with (first
    | (go_at_call 48;(with_reducible refine(HF.out _ HG1.out).mono ?_);rintro e w1 ⟨rfl,g1⟩;have HG:=zh (HG1.out.trans g1);have hbx:=(Blk.new w [.int .i64 x.k,.string x.s,.int .i16 x.v,.int .i64 x.o,.slice p x.ar.length c,.int .i64 x.q] 35).grew g1;have q0:w1.cell? ⟨w.heap.size,0,none⟩=some (.int .i64 x.k):=hbx.cell 0;have q1:w1.cell? ⟨w.heap.size,1,none⟩=some (.string x.s):=hbx.cell 1;have q2:w1.cell? ⟨w.heap.size,2,none⟩=some (.int .i16 x.v):=hbx.cell 2;have q3:w1.cell? ⟨w.heap.size,3,none⟩=some (.int .i64 x.o):=hbx.cell 3;have q4:w1.cell? ⟨w.heap.size,4,none⟩=some (.slice p x.ar.length c):=hbx.cell 4;have q5:w1.cell? ⟨w.heap.size,5,none⟩=some (.int .i64 x.q):=hbx.cell 5;clear g1 hbx)
    | (go_at_call 49;(with_reducible refine(HT.out _ HG.out).mono ?_);rintro e w2 ⟨rfl,g2⟩;have HG2:=zh (HG.out.trans g2);clear g2))
   go_ret
   exact⟨rfl,HG2.out⟩
 | false =>
   rw [if_neg (by simp)]
   rw [hok] at HF
   clear hX hz hE hn hok hB
   have HG1:=zh ((Grew.refl w).alloc (Obj.cells #[.int .i64 x.k,.string x.s,.int .i16 x.v,.int .i64 x.o,.slice p x.ar.length c,.int .i64 x.q] 35))
   go_enter Tryz.func16,Tryz.ntmps16
   go_wp2_with (go_at_call 48;(with_reducible refine(HF.out _ HG1.out).mono ?_);rintro e w1 ⟨rfl,g1⟩;have HG:=zh (HG1.out.trans g1);clear g1)
   go_ret
   exact⟨rfl,HG.out⟩
end Go.Proofs.YtcknpcbkofgdoaaGreatDoor
