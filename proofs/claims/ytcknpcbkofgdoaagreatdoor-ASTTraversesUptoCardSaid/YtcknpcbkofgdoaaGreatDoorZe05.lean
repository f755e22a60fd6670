/-
  LAYER 16 (ast), THE PROGRAM: formedStmt.
  LAYER 16 (ast), THE PROGRAM: formedTrigger, formedTask.
  LAYER 16 (ast), THE PROGRAM: WellFormed.
  LAYER 16 (ast), THE PROGRAM: total and greatest.
-/
import Derived.Test.YtcknpcbkofgdoaaGreatDoorZeShort
import Derived.Test.YtcknpcbkofgdoaaGreatDoorZe04
import Derived.Test.YtcknpcbkofgdoaaGreatDoorZe02
import Derived.Test.YtcknpcbkofgdoaaGreatDoorZe00
import Derived.Deep.LoopGhost
import Derived.Deep.Cut
import Derived.Test.YtcknpcbkofgdoaaGreatDoorZe01
import Derived.Shelf.Abstract
namespace Go.Proofs.YtcknpcbkofgdoaaGreatDoor
open Go Go.RowKit Go.IntWalk
set_option linter.unusedSimpArgs false
set_option linter.unusedVariables false
set_option maxRecDepth 8000
section
variable {dst:Option Tmp}{ty:TypeId}{pos:String}{after:Array Edge}{g:Option (Nat × Bool)}{a:Act}{w:World}{T:Value→World→Prop}
end
set_option maxHeartbeats 8000000 in
theorem formS_any:∀(x:Sm) (B:Nat→Prop) (w:World) (pa:Option Addr) (ca:Nat) (pb:Option Addr) (cb:Nat) (pe:Option Addr) (ce:Nat),x.s.size≤1048576→XL B w pa ca x.ar→SL B w pb cb x.b→SL B w pe ce x.e→Env w →
 Calls Tryz.prog 114 #[sv x.k x.s x.n pa x.ar.length ca pb x.b.length cb pe x.e.length ce x.q] w fun e w'=>e=.returned (.bool (okS x))∧Grew w w':=by
 intro x
 induction x using Sm.ind with
 | h kx sx nx rx yx ex qx ihb ihe =>
 intro B w pa ca pb cb pe ce hz hx hy he hE
 replace hz:sx.size≤1048576:=hz
 replace hx:XL B w pa ca rx:=hx
 replace hy:SL B w pb cb yx:=hy
 replace he:SL B w pe ce ex:=he
 show Calls Tryz.prog 114 #[sv kx sx nx pa rx.length ca pb yx.length cb pe ex.length ce qx] w fun e w'=>e=.returned (.bool (okS ⟨kx,sx,nx,rx,yx,ex,qx⟩))∧Grew w w'
 have hcap:rx.length≤ca∧yx.length≤cb∧ex.length≤ce:=⟨hx.cap.1,hy.cap.1,he.cap.1⟩
 have hmax:=And.intro hx.cap.2.1 (And.intro hy.cap.2.1 he.cap.2.1)
 by_cases h0:kx≤0
 ·rw [okS_out (.inl h0)]
  clear ihb ihe hx hy he hE
  go_enter Tryz.func114,Tryz.ntmps114
  go_wp2
  go_ret
  exact⟨rfl,(Grew.refl _).alloc _⟩
 by_cases h7:14≤kx
 ·rw [okS_out (.inr h7)]
  clear ihb ihe hx hy he hE
  go_enter Tryz.func114,Tryz.ntmps114
  go_wp2
  go_ret
  exact⟨rfl,(Grew.refl _).alloc _⟩
 ·obtain ⟨kn,rfl⟩:∃k:Nat,kx=(k:Int):=⟨kx.toNat,by omega⟩
  have hk1:1≤kn:=by omega
  have hk7:kn < 14:=by omega
  have HE:=zh hE
  have HNM:=zh (fun W (hW:Grew w W)=>name_any sx (ssR (kn:Int)).b hz W (HE.out.grew hW))
  have HEV:Hid (∀W,Grew w W→Calls Tryz.prog 100 #[.slice pa rx.length ca,.func (.func 48) #[] #[]] W fun e w'=>e=.returned (.bool (rx.all okX))∧Grew W w') :=
   zh (fun W hW=>everyX_any 48 #[] en_fx rx okX B W pa ca (hx.kept hW) (fun y _ p_ c_ W2 hy1 hy2 hW2=>formX_any y B W2 p_ c_ hy2 hy1 (HE.out.grew (hW.trans hW2))))
  have HEY:Hid (∀W,Grew w W→Calls Tryz.prog 113 #[.slice pb yx.length cb,.func (.func 114) #[] #[]] W fun e w'=>e=.returned (.bool (yx.all okS))∧Grew W w') :=
   zh (fun W hW=>everyS_any 114 #[] en_fs yx okS B W pb cb (hy.kept hW) (fun y hy' a1 a2 a3 a4 a5 a6 W2 q1 q2 q3 q4 hW2=>ihb y hy' B W2 a1 a2 a3 a4 a5 a6 q4 q1 q2 q3 (HE.out.grew (hW.trans hW2))))
  have HEE:Hid (∀W,Grew w W→Calls Tryz.prog 113 #[.slice pe ex.length ce,.func (.func 114) #[] #[]] W fun e w'=>e=.returned (.bool (ex.all okS))∧Grew W w') :=
   zh (fun W hW=>everyS_any 114 #[] en_fs ex okS B W pe ce (he.kept hW) (fun y hy' a1 a2 a3 a4 a5 a6 W2 q1 q2 q3 q4 hW2=>ihe y hy' B W2 a1 a2 a3 a4 a5 a6 q4 q1 q2 q3 (HE.out.grew (hW.trans hW2))))
  have hec:=fun j {v:Value}(hv:(ss5 (ssR (kn:Int)))[j]?=some v)=>hE.st kn hk7 j hv
  clear ihb ihe hx hy he hE h0 h7
  have h0:w.cell? ⟨3,kn * 5,none⟩=some (.bool (ssR (kn:Int)).b):=hec 0 rfl
  have h1:w.cell? ⟨3,kn * 5+1,none⟩=some (.int .i64 (ssR (kn:Int)).n):=hec 1 rfl
  have h2:w.cell? ⟨3,kn * 5+2,none⟩=some (.int .i64 (ssR (kn:Int)).a):=hec 2 rfl
  have h3:w.cell? ⟨3,kn * 5+3,none⟩=some (.bool (ssR (kn:Int)).y):=hec 3 rfl
  have h4:w.cell? ⟨3,kn * 5+4,none⟩=some (.bool (ssR (kn:Int)).e):=hec 4 rfl
  have b0:¬ (kn:Int)≤0:=by omega
  have b1:¬ (14:Int)≤(kn:Int):=by omega
  have b2:3 < w.heap.size:=World.block_lt_of_cell? _ _ h0
  have b3:(kn:Int) < (14:Int):=by omega
  have b4:(0:Int)≤(kn:Int):=by omega
  have HEQ:=zh (formS_eq kn hk1 hk7 sx nx qx rx yx ex)
  clear hec hk1 hk7 hz
  go_enter Tryz.func114,Tryz.ntmps114
  go_upto_region 4 with fail
  have hb1:Blk w.heap.size [.int .i64 (kn:Int),.string sx,.int .i64 nx,.slice pa rx.length ca,.slice pb yx.length cb,.slice pe ex.length ce,.int .i64 qx] 49 (w.alloc (Obj.cells #[.int .i64 (kn:Int),.string sx,.int .i64 nx,.slice pa rx.length ca,.slice pb yx.length cb,.slice pe ex.length ce,.int .i64 qx] 49)):=Blk.new w _ _
  have hb2:Blk (w.alloc (Obj.cells #[.int .i64 (kn:Int),.string sx,.int .i64 nx,.slice pa rx.length ca,.slice pb yx.length cb,.slice pe ex.length ce,.int .i64 qx] 49)).heap.size [.bool (ssR (kn:Int)).b,.int .i64 (ssR (kn:Int)).n,.int .i64 (ssR (kn:Int)).a,.bool (ssR (kn:Int)).y,.bool (ssR (kn:Int)).e] 164 ((w.alloc (Obj.cells #[.int .i64 (kn:Int),.string sx,.int .i64 nx,.slice pa rx.length ca,.slice pb yx.length cb,.slice pe ex.length ce,.int .i64 qx] 49)).alloc (Obj.cells #[.bool (ssR (kn:Int)).b,.int .i64 (ssR (kn:Int)).n,.int .i64 (ssR (kn:Int)).a,.bool (ssR (kn:Int)).y,.bool (ssR (kn:Int)).e] 164)):=Blk.new _ _ _
  have hb3:=hb1.grew ((Grew.refl _).alloc (Obj.cells #[.bool (ssR (kn:Int)).b,.int .i64 (ssR (kn:Int)).n,.int .i64 (ssR (kn:Int)).a,.bool (ssR (kn:Int)).y,.bool (ssR (kn:Int)).e] 164))
  have hgV:Grew w ((w.alloc (Obj.cells #[.int .i64 (kn:Int),.string sx,.int .i64 nx,.slice pa rx.length ca,.slice pb yx.length cb,.slice pe ex.length ce,.int .i64 qx] 49)).alloc (Obj.cells #[.bool (ssR (kn:Int)).b,.int .i64 (ssR (kn:Int)).n,.int .i64 (ssR (kn:Int)).a,.bool (ssR (kn:Int)).y,.bool (ssR (kn:Int)).e] 164)):=((Grew.refl w).alloc _).alloc _
  rw [alloc_sz] at hb2
  try rw [alloc_sz]
  generalize ((w.alloc (Obj.cells #[.int .i64 (kn:Int),.string sx,.int .i64 nx,.slice pa rx.length ca,.slice pb yx.length cb,.slice pe ex.length ce,.int .i64 qx] 49)).alloc (Obj.cells #[.bool (ssR (kn:Int)).b,.int .i64 (ssR (kn:Int)).n,.int .i64 (ssR (kn:Int)).a,.bool (ssR (kn:Int)).y,.bool (ssR (kn:Int)).e] 164))=V at hb2 hb3 hgV ⊢
  generalize w.heap.size+1=S at hb2 ⊢
  generalize w.heap.size=T at hb3 ⊢
  have HGV:=zh hgV
  have d0:Atv ⟨T,0,none⟩ (.int .i64 (kn:Int)) V:=hb3.atv 0 rfl
  have d1:Atv ⟨T,1,none⟩ (.string sx) V:=hb3.atv 1 rfl
  have d2:Atv ⟨T,2,none⟩ (.int .i64 nx) V:=hb3.atv 2 rfl
  have d3:Atv ⟨T,3,none⟩ (.slice pa rx.length ca) V:=hb3.atv 3 rfl
  have d4:Atv ⟨T,4,none⟩ (.slice pb yx.length cb) V:=hb3.atv 4 rfl
  have d5:Atv ⟨T,5,none⟩ (.slice pe ex.length ce) V:=hb3.atv 5 rfl
  have d6:Atv ⟨T,6,none⟩ (.int .i64 qx) V:=hb3.atv 6 rfl
  have e0:Atv ⟨S,0,none⟩ (.bool (ssR (kn:Int)).b) V:=hb2.atv 0 rfl
  have e1:Atv ⟨S,1,none⟩ (.int .i64 (ssR (kn:Int)).n) V:=hb2.atv 1 rfl
  have e2:Atv ⟨S,2,none⟩ (.int .i64 (ssR (kn:Int)).a) V:=hb2.atv 2 rfl
  have e3:Atv ⟨S,3,none⟩ (.bool (ssR (kn:Int)).y) V:=hb2.atv 3 rfl
  have e4:Atv ⟨S,4,none⟩ (.bool (ssR (kn:Int)).e) V:=hb2.atv 4 rfl
  clear hb1 hb2 hb3 hgV h0 h1 h2 h3 h4 b2
  refine wp_postsL [some 16,some 17,some 18,some 19,some 20,some 21,some 22,some 23,some 24,some 25,some 26,some 27,some 28,some 29,some 30,some 31,some 32,some 33,some 34,some 35,some 36,some 37,some 38,some 39,some 40,some 41,some 42,some 43,some 44,some 45,some 46,some 47,some 48,some 49,some 50,some 51,some 52,some 53,some 54,some 55,some 56,some 57,some 58,some 59,some 60,some 61,some 62,some 63,some 64,some 65,some 66,some 67,some 68,some 69,some 70,some 71,some 72,some 73,some 74,some 75,some 2] (Zfb (Zta (Zfd (Zfc (Zfa (Ztg (Zte (Ztd (Ztc []))))))))) [fun v _=>v=.pointer (some ⟨T,1,none⟩),fun v _=>v=.string sx,fun v _=>v=.pointer (some ⟨S,0,none⟩),fun v _=>v=.bool ((ssR (kn:Int)).b),fun v _=>v=.bool (if (ssR (kn:Int)).b then idn sx else decide (sx=⟨#[]⟩)),fun v _=>v=.bool (if (ssR (kn:Int)).b then idn sx else decide (sx=⟨#[]⟩)),fun v _=>Zg ((if (ssR (kn:Int)).b then idn sx else decide (sx=⟨#[]⟩))=true) (.pointer (some ⟨T,2,none⟩)) v,fun v _=>Zg ((if (ssR (kn:Int)).b then idn sx else decide (sx=⟨#[]⟩))=true) (.int .i64 (nx)) v,fun v _=>Zg ((if (ssR (kn:Int)).b then idn sx else decide (sx=⟨#[]⟩))=true) (.bool (decide ((0)≤(nx)))) v,fun v _=>v=.bool ((if (ssR (kn:Int)).b then idn sx else decide (sx=⟨#[]⟩))&&(decide ((0)≤(nx)))),fun v _=>v=.bool ((if (ssR (kn:Int)).b then idn sx else decide (sx=⟨#[]⟩))&&(decide ((0)≤(nx)))),fun v _=>Zg (((if (ssR (kn:Int)).b then idn sx else decide (sx=⟨#[]⟩))&&(decide ((0)≤(nx))))=true) (.pointer (some ⟨T,2,none⟩)) v,fun v _=>Zg (((if (ssR (kn:Int)).b then idn sx else decide (sx=⟨#[]⟩))&&(decide ((0)≤(nx))))=true) (.int .i64 (nx)) v,fun v _=>Zg (((if (ssR (kn:Int)).b then idn sx else decide (sx=⟨#[]⟩))&&(decide ((0)≤(nx))))=true) (.pointer (some ⟨S,1,none⟩)) v,fun v _=>Zg (((if (ssR (kn:Int)).b then idn sx else decide (sx=⟨#[]⟩))&&(decide ((0)≤(nx))))=true) (.int .i64 ((ssR (kn:Int)).n)) v,fun v _=>Zg (((if (ssR (kn:Int)).b then idn sx else decide (sx=⟨#[]⟩))&&(decide ((0)≤(nx))))=true) (.bool (decide ((nx)≤((ssR (kn:Int)).n)))) v,fun v _=>v=.bool (((if (ssR (kn:Int)).b then idn sx else decide (sx=⟨#[]⟩))&&(decide ((0)≤(nx))))&&(decide ((nx)≤((ssR (kn:Int)).n)))),fun v _=>v=.bool (((if (ssR (kn:Int)).b then idn sx else decide (sx=⟨#[]⟩))&&(decide ((0)≤(nx))))&&(decide ((nx)≤((ssR (kn:Int)).n)))),fun v _=>Zg ((((if (ssR (kn:Int)).b then idn sx else decide (sx=⟨#[]⟩))&&(decide ((0)≤(nx))))&&(decide ((nx)≤((ssR (kn:Int)).n))))=true) (.pointer (some ⟨T,3,none⟩)) v,fun v _=>Zg ((((if (ssR (kn:Int)).b then idn sx else decide (sx=⟨#[]⟩))&&(decide ((0)≤(nx))))&&(decide ((nx)≤((ssR (kn:Int)).n))))=true) (.slice pa (rx.length) (ca)) v,fun v _=>Zg ((((if (ssR (kn:Int)).b then idn sx else decide (sx=⟨#[]⟩))&&(decide ((0)≤(nx))))&&(decide ((nx)≤((ssR (kn:Int)).n))))=true) (.int .i64 (((rx.length:Nat):Int))) v,fun v _=>Zg ((((if (ssR (kn:Int)).b then idn sx else decide (sx=⟨#[]⟩))&&(decide ((0)≤(nx))))&&(decide ((nx)≤((ssR (kn:Int)).n))))=true) (.pointer (some ⟨S,2,none⟩)) v,fun v _=>Zg ((((if (ssR (kn:Int)).b then idn sx else decide (sx=⟨#[]⟩))&&(decide ((0)≤(nx))))&&(decide ((nx)≤((ssR (kn:Int)).n))))=true) (.int .i64 ((ssR (kn:Int)).a)) v,fun v _=>Zg ((((if (ssR (kn:Int)).b then idn sx else decide (sx=⟨#[]⟩))&&(decide ((0)≤(nx))))&&(decide ((nx)≤((ssR (kn:Int)).n))))=true) (.bool ((((rx.length:Nat):Int))==((ssR (kn:Int)).a))) v,fun v _=>v=.bool ((((if (ssR (kn:Int)).b then idn sx else decide (sx=⟨#[]⟩))&&(decide ((0)≤(nx))))&&(decide ((nx)≤((ssR (kn:Int)).n))))&&((((rx.length:Nat):Int))==((ssR (kn:Int)).a))),fun v _=>v=.bool ((((if (ssR (kn:Int)).b then idn sx else decide (sx=⟨#[]⟩))&&(decide ((0)≤(nx))))&&(decide ((nx)≤((ssR (kn:Int)).n))))&&((((rx.length:Nat):Int))==((ssR (kn:Int)).a))),fun v _=>Zg (((((if (ssR (kn:Int)).b then idn sx else decide (sx=⟨#[]⟩))&&(decide ((0)≤(nx))))&&(decide ((nx)≤((ssR (kn:Int)).n))))&&((((rx.length:Nat):Int))==((ssR (kn:Int)).a)))=true) (.pointer (some ⟨S,3,none⟩)) v,fun v _=>Zg (((((if (ssR (kn:Int)).b then idn sx else decide (sx=⟨#[]⟩))&&(decide ((0)≤(nx))))&&(decide ((nx)≤((ssR (kn:Int)).n))))&&((((rx.length:Nat):Int))==((ssR (kn:Int)).a)))=true) (.bool ((ssR (kn:Int)).y)) v,fun v _=>Zg (((((if (ssR (kn:Int)).b then idn sx else decide (sx=⟨#[]⟩))&&(decide ((0)≤(nx))))&&(decide ((nx)≤((ssR (kn:Int)).n))))&&((((rx.length:Nat):Int))==((ssR (kn:Int)).a)))=true) (.bool ((ssR (kn:Int)).y)) v,fun v _=>Zg ((((((if (ssR (kn:Int)).b then idn sx else decide (sx=⟨#[]⟩))&&(decide ((0)≤(nx))))&&(decide ((nx)≤((ssR (kn:Int)).n))))&&((((rx.length:Nat):Int))==((ssR (kn:Int)).a)))=true)∧(((ssR (kn:Int)).y)=false)) (.pointer (some ⟨T,4,none⟩)) v,fun v _=>Zg ((((((if (ssR (kn:Int)).b then idn sx else decide (sx=⟨#[]⟩))&&(decide ((0)≤(nx))))&&(decide ((nx)≤((ssR (kn:Int)).n))))&&((((rx.length:Nat):Int))==((ssR (kn:Int)).a)))=true)∧(((ssR (kn:Int)).y)=false)) (.slice pb (yx.length) (cb)) v,fun v _=>Zg ((((((if (ssR (kn:Int)).b then idn sx else decide (sx=⟨#[]⟩))&&(decide ((0)≤(nx))))&&(decide ((nx)≤((ssR (kn:Int)).n))))&&((((rx.length:Nat):Int))==((ssR (kn:Int)).a)))=true)∧(((ssR (kn:Int)).y)=false)) (.int .i64 (((yx.length:Nat):Int))) v,fun v _=>Zg ((((((if (ssR (kn:Int)).b then idn sx else decide (sx=⟨#[]⟩))&&(decide ((0)≤(nx))))&&(decide ((nx)≤((ssR (kn:Int)).n))))&&((((rx.length:Nat):Int))==((ssR (kn:Int)).a)))=true)∧(((ssR (kn:Int)).y)=false)) (.bool ((((yx.length:Nat):Int))==(0))) v,fun v _=>Zg (((((if (ssR (kn:Int)).b then idn sx else decide (sx=⟨#[]⟩))&&(decide ((0)≤(nx))))&&(decide ((nx)≤((ssR (kn:Int)).n))))&&((((rx.length:Nat):Int))==((ssR (kn:Int)).a)))=true) (.bool (((ssR (kn:Int)).y)||((((yx.length:Nat):Int))==(0)))) v,fun v _=>v=.bool (((((if (ssR (kn:Int)).b then idn sx else decide (sx=⟨#[]⟩))&&(decide ((0)≤(nx))))&&(decide ((nx)≤((ssR (kn:Int)).n))))&&((((rx.length:Nat):Int))==((ssR (kn:Int)).a)))&&(((ssR (kn:Int)).y)||((((yx.length:Nat):Int))==(0)))),fun v _=>v=.bool (((((if (ssR (kn:Int)).b then idn sx else decide (sx=⟨#[]⟩))&&(decide ((0)≤(nx))))&&(decide ((nx)≤((ssR (kn:Int)).n))))&&((((rx.length:Nat):Int))==((ssR (kn:Int)).a)))&&(((ssR (kn:Int)).y)||((((yx.length:Nat):Int))==(0)))),fun v _=>Zg ((((((if (ssR (kn:Int)).b then idn sx else decide (sx=⟨#[]⟩))&&(decide ((0)≤(nx))))&&(decide ((nx)≤((ssR (kn:Int)).n))))&&((((rx.length:Nat):Int))==((ssR (kn:Int)).a)))&&(((ssR (kn:Int)).y)||((((yx.length:Nat):Int))==(0))))=true) (.pointer (some ⟨S,4,none⟩)) v,fun v _=>Zg ((((((if (ssR (kn:Int)).b then idn sx else decide (sx=⟨#[]⟩))&&(decide ((0)≤(nx))))&&(decide ((nx)≤((ssR (kn:Int)).n))))&&((((rx.length:Nat):Int))==((ssR (kn:Int)).a)))&&(((ssR (kn:Int)).y)||((((yx.length:Nat):Int))==(0))))=true) (.bool ((ssR (kn:Int)).e)) v,fun v _=>Zg ((((((if (ssR (kn:Int)).b then idn sx else decide (sx=⟨#[]⟩))&&(decide ((0)≤(nx))))&&(decide ((nx)≤((ssR (kn:Int)).n))))&&((((rx.length:Nat):Int))==((ssR (kn:Int)).a)))&&(((ssR (kn:Int)).y)||((((yx.length:Nat):Int))==(0))))=true) (.bool ((ssR (kn:Int)).e)) v,fun v _=>Zg (((((((if (ssR (kn:Int)).b then idn sx else decide (sx=⟨#[]⟩))&&(decide ((0)≤(nx))))&&(decide ((nx)≤((ssR (kn:Int)).n))))&&((((rx.length:Nat):Int))==((ssR (kn:Int)).a)))&&(((ssR (kn:Int)).y)||((((yx.length:Nat):Int))==(0))))=true)∧(((ssR (kn:Int)).e)=false)) (.pointer (some ⟨T,5,none⟩)) v,fun v _=>Zg (((((((if (ssR (kn:Int)).b then idn sx else decide (sx=⟨#[]⟩))&&(decide ((0)≤(nx))))&&(decide ((nx)≤((ssR (kn:Int)).n))))&&((((rx.length:Nat):Int))==((ssR (kn:Int)).a)))&&(((ssR (kn:Int)).y)||((((yx.length:Nat):Int))==(0))))=true)∧(((ssR (kn:Int)).e)=false)) (.slice pe (ex.length) (ce)) v,fun v _=>Zg (((((((if (ssR (kn:Int)).b then idn sx else decide (sx=⟨#[]⟩))&&(decide ((0)≤(nx))))&&(decide ((nx)≤((ssR (kn:Int)).n))))&&((((rx.length:Nat):Int))==((ssR (kn:Int)).a)))&&(((ssR (kn:Int)).y)||((((yx.length:Nat):Int))==(0))))=true)∧(((ssR (kn:Int)).e)=false)) (.int .i64 (((ex.length:Nat):Int))) v,fun v _=>Zg (((((((if (ssR (kn:Int)).b then idn sx else decide (sx=⟨#[]⟩))&&(decide ((0)≤(nx))))&&(decide ((nx)≤((ssR (kn:Int)).n))))&&((((rx.length:Nat):Int))==((ssR (kn:Int)).a)))&&(((ssR (kn:Int)).y)||((((yx.length:Nat):Int))==(0))))=true)∧(((ssR (kn:Int)).e)=false)) (.bool ((((ex.length:Nat):Int))==(0))) v,fun v _=>Zg ((((((if (ssR (kn:Int)).b then idn sx else decide (sx=⟨#[]⟩))&&(decide ((0)≤(nx))))&&(decide ((nx)≤((ssR (kn:Int)).n))))&&((((rx.length:Nat):Int))==((ssR (kn:Int)).a)))&&(((ssR (kn:Int)).y)||((((yx.length:Nat):Int))==(0))))=true) (.bool (((ssR (kn:Int)).e)||((((ex.length:Nat):Int))==(0)))) v,fun v _=>v=.bool ((((((if (ssR (kn:Int)).b then idn sx else decide (sx=⟨#[]⟩))&&(decide ((0)≤(nx))))&&(decide ((nx)≤((ssR (kn:Int)).n))))&&((((rx.length:Nat):Int))==((ssR (kn:Int)).a)))&&(((ssR (kn:Int)).y)||((((yx.length:Nat):Int))==(0))))&&(((ssR (kn:Int)).e)||((((ex.length:Nat):Int))==(0)))),fun v _=>v=.bool ((((((if (ssR (kn:Int)).b then idn sx else decide (sx=⟨#[]⟩))&&(decide ((0)≤(nx))))&&(decide ((nx)≤((ssR (kn:Int)).n))))&&((((rx.length:Nat):Int))==((ssR (kn:Int)).a)))&&(((ssR (kn:Int)).y)||((((yx.length:Nat):Int))==(0))))&&(((ssR (kn:Int)).e)||((((ex.length:Nat):Int))==(0)))),fun v _=>Zg (((((((if (ssR (kn:Int)).b then idn sx else decide (sx=⟨#[]⟩))&&(decide ((0)≤(nx))))&&(decide ((nx)≤((ssR (kn:Int)).n))))&&((((rx.length:Nat):Int))==((ssR (kn:Int)).a)))&&(((ssR (kn:Int)).y)||((((yx.length:Nat):Int))==(0))))&&(((ssR (kn:Int)).e)||((((ex.length:Nat):Int))==(0))))=true) (.pointer (some ⟨T,3,none⟩)) v,fun v _=>Zg (((((((if (ssR (kn:Int)).b then idn sx else decide (sx=⟨#[]⟩))&&(decide ((0)≤(nx))))&&(decide ((nx)≤((ssR (kn:Int)).n))))&&((((rx.length:Nat):Int))==((ssR (kn:Int)).a)))&&(((ssR (kn:Int)).y)||((((yx.length:Nat):Int))==(0))))&&(((ssR (kn:Int)).e)||((((ex.length:Nat):Int))==(0))))=true) (.slice pa (rx.length) (ca)) v,fun v _=>Zg (((((((if (ssR (kn:Int)).b then idn sx else decide (sx=⟨#[]⟩))&&(decide ((0)≤(nx))))&&(decide ((nx)≤((ssR (kn:Int)).n))))&&((((rx.length:Nat):Int))==((ssR (kn:Int)).a)))&&(((ssR (kn:Int)).y)||((((yx.length:Nat):Int))==(0))))&&(((ssR (kn:Int)).e)||((((ex.length:Nat):Int))==(0))))=true) (.bool (rx.all okX)) v,fun v _=>v=.bool (((((((if (ssR (kn:Int)).b then idn sx else decide (sx=⟨#[]⟩))&&(decide ((0)≤(nx))))&&(decide ((nx)≤((ssR (kn:Int)).n))))&&((((rx.length:Nat):Int))==((ssR (kn:Int)).a)))&&(((ssR (kn:Int)).y)||((((yx.length:Nat):Int))==(0))))&&(((ssR (kn:Int)).e)||((((ex.length:Nat):Int))==(0))))&&(rx.all okX)),fun v _=>v=.bool (((((((if (ssR (kn:Int)).b then idn sx else decide (sx=⟨#[]⟩))&&(decide ((0)≤(nx))))&&(decide ((nx)≤((ssR (kn:Int)).n))))&&((((rx.length:Nat):Int))==((ssR (kn:Int)).a)))&&(((ssR (kn:Int)).y)||((((yx.length:Nat):Int))==(0))))&&(((ssR (kn:Int)).e)||((((ex.length:Nat):Int))==(0))))&&(rx.all okX)),fun v _=>Zg ((((((((if (ssR (kn:Int)).b then idn sx else decide (sx=⟨#[]⟩))&&(decide ((0)≤(nx))))&&(decide ((nx)≤((ssR (kn:Int)).n))))&&((((rx.length:Nat):Int))==((ssR (kn:Int)).a)))&&(((ssR (kn:Int)).y)||((((yx.length:Nat):Int))==(0))))&&(((ssR (kn:Int)).e)||((((ex.length:Nat):Int))==(0))))&&(rx.all okX))=true) (.pointer (some ⟨T,4,none⟩)) v,fun v _=>Zg ((((((((if (ssR (kn:Int)).b then idn sx else decide (sx=⟨#[]⟩))&&(decide ((0)≤(nx))))&&(decide ((nx)≤((ssR (kn:Int)).n))))&&((((rx.length:Nat):Int))==((ssR (kn:Int)).a)))&&(((ssR (kn:Int)).y)||((((yx.length:Nat):Int))==(0))))&&(((ssR (kn:Int)).e)||((((ex.length:Nat):Int))==(0))))&&(rx.all okX))=true) (.slice pb (yx.length) (cb)) v,fun v _=>Zg ((((((((if (ssR (kn:Int)).b then idn sx else decide (sx=⟨#[]⟩))&&(decide ((0)≤(nx))))&&(decide ((nx)≤((ssR (kn:Int)).n))))&&((((rx.length:Nat):Int))==((ssR (kn:Int)).a)))&&(((ssR (kn:Int)).y)||((((yx.length:Nat):Int))==(0))))&&(((ssR (kn:Int)).e)||((((ex.length:Nat):Int))==(0))))&&(rx.all okX))=true) (.bool (yx.all okS)) v,fun v _=>v=.bool ((((((((if (ssR (kn:Int)).b then idn sx else decide (sx=⟨#[]⟩))&&(decide ((0)≤(nx))))&&(decide ((nx)≤((ssR (kn:Int)).n))))&&((((rx.length:Nat):Int))==((ssR (kn:Int)).a)))&&(((ssR (kn:Int)).y)||((((yx.length:Nat):Int))==(0))))&&(((ssR (kn:Int)).e)||((((ex.length:Nat):Int))==(0))))&&(rx.all okX))&&(yx.all okS)),fun v _=>v=.bool ((((((((if (ssR (kn:Int)).b then idn sx else decide (sx=⟨#[]⟩))&&(decide ((0)≤(nx))))&&(decide ((nx)≤((ssR (kn:Int)).n))))&&((((rx.length:Nat):Int))==((ssR (kn:Int)).a)))&&(((ssR (kn:Int)).y)||((((yx.length:Nat):Int))==(0))))&&(((ssR (kn:Int)).e)||((((ex.length:Nat):Int))==(0))))&&(rx.all okX))&&(yx.all okS)),fun v _=>Zg (((((((((if (ssR (kn:Int)).b then idn sx else decide (sx=⟨#[]⟩))&&(decide ((0)≤(nx))))&&(decide ((nx)≤((ssR (kn:Int)).n))))&&((((rx.length:Nat):Int))==((ssR (kn:Int)).a)))&&(((ssR (kn:Int)).y)||((((yx.length:Nat):Int))==(0))))&&(((ssR (kn:Int)).e)||((((ex.length:Nat):Int))==(0))))&&(rx.all okX))&&(yx.all okS))=true) (.pointer (some ⟨T,5,none⟩)) v,fun v _=>Zg (((((((((if (ssR (kn:Int)).b then idn sx else decide (sx=⟨#[]⟩))&&(decide ((0)≤(nx))))&&(decide ((nx)≤((ssR (kn:Int)).n))))&&((((rx.length:Nat):Int))==((ssR (kn:Int)).a)))&&(((ssR (kn:Int)).y)||((((yx.length:Nat):Int))==(0))))&&(((ssR (kn:Int)).e)||((((ex.length:Nat):Int))==(0))))&&(rx.all okX))&&(yx.all okS))=true) (.slice pe (ex.length) (ce)) v,fun v _=>Zg (((((((((if (ssR (kn:Int)).b then idn sx else decide (sx=⟨#[]⟩))&&(decide ((0)≤(nx))))&&(decide ((nx)≤((ssR (kn:Int)).n))))&&((((rx.length:Nat):Int))==((ssR (kn:Int)).a)))&&(((ssR (kn:Int)).y)||((((yx.length:Nat):Int))==(0))))&&(((ssR (kn:Int)).e)||((((ex.length:Nat):Int))==(0))))&&(rx.all okX))&&(yx.all okS))=true) (.bool (ex.all okS)) v,fun v _=>v=.bool (((((((((if (ssR (kn:Int)).b then idn sx else decide (sx=⟨#[]⟩))&&(decide ((0)≤(nx))))&&(decide ((nx)≤((ssR (kn:Int)).n))))&&((((rx.length:Nat):Int))==((ssR (kn:Int)).a)))&&(((ssR (kn:Int)).y)||((((yx.length:Nat):Int))==(0))))&&(((ssR (kn:Int)).e)||((((ex.length:Nat):Int))==(0))))&&(rx.all okX))&&(yx.all okS))&&(ex.all okS)),fun v _=>v=.bool (((((((((if (ssR (kn:Int)).b then idn sx else decide (sx=⟨#[]⟩))&&(decide ((0)≤(nx))))&&(decide ((nx)≤((ssR (kn:Int)).n))))&&((((rx.length:Nat):Int))==((ssR (kn:Int)).a)))&&(((ssR (kn:Int)).y)||((((yx.length:Nat):Int))==(0))))&&(((ssR (kn:Int)).e)||((((ex.length:Nat):Int))==(0))))&&(rx.all okX))&&(yx.all okS))&&(ex.all okS))] (by kernel_rfl) rfl ?_ ⟨?_,?_,?_,?_,?_,?_,?_,?_,?_,?_,?_,?_,?_,?_,?_,?_,?_,?_,?_,?_,?_,?_,?_,?_,?_,?_,?_,?_,?_,?_,?_,?_,?_,?_,?_,?_,?_,?_,?_,?_,?_,?_,?_,?_,?_,?_,?_,?_,?_,?_,?_,?_,?_,?_,?_,?_,?_,?_,?_,?_,?_,trivial⟩ ?_
  ·exact⟨Zi,Zi,Zi,Zi,Zi,Zi,Zi,Zi,Zi,Zi,Zi,Zi,Zi,Zi,Zi,Zi,Zi,Zi,Zi,Zi,Zi,Zi,Zi,Zi,Zi,Zi,Zi,Zi,Zi,Zi,Zi,Zi,Zi,Zi,Zi,Zi,Zi,Zi,Zi,Zi,Zi,Zi,Zi,Zi,Zi,Zi,Zi,Zi,Zi,Zi,Zi,Zi,Zi,Zi,Zi,Zi,Zi,Zi,Zi,Zi,Zi,trivial⟩
  ·intro u w hR hd;exact rn_fld_49_1 (ev rfl) Zr
  ·intro u w hR hd;exact rn_ld_9 (ev (hd.1 rfl)) (d1.kept hR) Zr
  ·intro u w hR hd;exact rn_fld_164_0 (ev rfl) Zr
  ·intro u w hR hd;exact rn_ld_4 (ev (hd.1 rfl)) (e0.kept hR) Zr
  ·intro u w hR hd;exact runs_c2 en_nm (ev (hd.1 rfl)) (ev (hd.2.1 rfl)) (callp (fun _ e=>e) (HNM.out _ (HGV.out.trans hR)))
  ·intro u w hR hd;exact runs_mv (ev (hd.1 rfl)) Zr
  ·intro u w hR hd;exact⟨fun hg=>have hG:=Zh (hd.1 rfl) hg;rn_fld_49_2 (ev rfl) (Zs hG),Zn (hd.1 rfl)⟩
  ·intro u w hR hd;exact⟨fun hg=>have hG:=Zh (hd.2.1 rfl) hg;rn_ld_3 (ev ((hd.1 rfl).1 hG)) (d2.kept hR) (Zs hG),Zn (hd.2.1 rfl)⟩
  ·intro u w hR hd;exact⟨fun hg=>have hG:=Zh (hd.2.1 rfl) hg;rn_leq_3 rfl (ev ((hd.1 rfl).1 hG)) (Zs hG),Zn (hd.2.1 rfl)⟩
  ·intro u w hR hd;exact runs_an (ev (hd.1 rfl)) (fun hb=>ev ((hd.2.1 rfl).1 hb)) Zr
  ·intro u w hR hd;exact runs_mv (ev (hd.1 rfl)) Zr
  ·intro u w hR hd;exact⟨fun hg=>have hG:=Zh (hd.1 rfl) hg;rn_fld_49_2 (ev rfl) (Zs hG),Zn (hd.1 rfl)⟩
  ·intro u w hR hd;exact⟨fun hg=>have hG:=Zh (hd.2.1 rfl) hg;rn_ld_3 (ev ((hd.1 rfl).1 hG)) (d2.kept hR) (Zs hG),Zn (hd.2.1 rfl)⟩
  ·intro u w hR hd;exact⟨fun hg=>have hG:=Zh (hd.1 rfl) hg;rn_fld_164_1 (ev rfl) (Zs hG),Zn (hd.1 rfl)⟩
  ·intro u w hR hd;exact⟨fun hg=>have hG:=Zh (hd.2.1 rfl) hg;rn_ld_3 (ev ((hd.1 rfl).1 hG)) (e1.kept hR) (Zs hG),Zn (hd.2.1 rfl)⟩
  ·intro u w hR hd;exact⟨fun hg=>have hG:=Zh (hd.2.2.1 rfl) hg;rn_leq_3 (ev ((hd.1 rfl).1 hG)) (ev ((hd.2.1 rfl).1 hG)) (Zs hG),Zn (hd.2.2.1 rfl)⟩
  ·intro u w hR hd;exact runs_an (ev (hd.1 rfl)) (fun hb=>ev ((hd.2.1 rfl).1 hb)) Zr
  ·intro u w hR hd;exact runs_mv (ev (hd.1 rfl)) Zr
  ·intro u w hR hd;exact⟨fun hg=>have hG:=Zh (hd.1 rfl) hg;rn_fld_49_3 (ev rfl) (Zs hG),Zn (hd.1 rfl)⟩
  ·intro u w hR hd;exact⟨fun hg=>have hG:=Zh (hd.2.1 rfl) hg;rn_ld_33 (ev ((hd.1 rfl).1 hG)) (d3.kept hR) (Zs hG),Zn (hd.2.1 rfl)⟩
  ·intro u w hR hd;exact⟨fun hg=>have hG:=Zh (hd.2.1 rfl) hg;rn_len_33 (ev ((hd.1 rfl).1 hG)) (Zs hG),Zn (hd.2.1 rfl)⟩
  ·intro u w hR hd;exact⟨fun hg=>have hG:=Zh (hd.1 rfl) hg;rn_fld_164_2 (ev rfl) (Zs hG),Zn (hd.1 rfl)⟩
  ·intro u w hR hd;exact⟨fun hg=>have hG:=Zh (hd.2.1 rfl) hg;rn_ld_3 (ev ((hd.1 rfl).1 hG)) (e2.kept hR) (Zs hG),Zn (hd.2.1 rfl)⟩
  ·intro u w hR hd;exact⟨fun hg=>have hG:=Zh (hd.2.2.1 rfl) hg;rn_eql_3 (ev ((hd.1 rfl).1 hG)) (ev ((hd.2.1 rfl).1 hG)) (Zs hG),Zn (hd.2.2.1 rfl)⟩
  ·intro u w hR hd;exact runs_an (ev (hd.1 rfl)) (fun hb=>ev ((hd.2.1 rfl).1 hb)) Zr
  ·intro u w hR hd;exact runs_mv (ev (hd.1 rfl)) Zr
  ·intro u w hR hd;exact⟨fun hg=>have hG:=Zh (hd.1 rfl) hg;rn_fld_164_3 (ev rfl) (Zs hG),Zn (hd.1 rfl)⟩
  ·intro u w hR hd;exact⟨fun hg=>have hG:=Zh (hd.2.1 rfl) hg;rn_ld_4 (ev ((hd.1 rfl).1 hG)) (e3.kept hR) (Zs hG),Zn (hd.2.1 rfl)⟩
  ·intro u w hR hd;exact⟨fun hg=>have hG:=Zh (hd.2.1 rfl) hg;runs_mv (ev ((hd.1 rfl).1 hG)) (Zs hG),Zn (hd.2.1 rfl)⟩
  ·intro u w hR hd;exact⟨fun hg=>have hP:(((((if (ssR (kn:Int)).b then idn sx else decide (sx=⟨#[]⟩))&&(decide ((0)≤(nx))))&&(decide ((nx)≤((ssR (kn:Int)).n))))&&((((rx.length:Nat):Int))==((ssR (kn:Int)).a)))=true):=Classical.byContradiction (fun hnp=>absurd (((hd.1 rfl).2 hnp).symm.trans hg) (fun h=>by first | cases h | (simp [undef] at h)));have hG:((((((if (ssR (kn:Int)).b then idn sx else decide (sx=⟨#[]⟩))&&(decide ((0)≤(nx))))&&(decide ((nx)≤((ssR (kn:Int)).n))))&&((((rx.length:Nat):Int))==((ssR (kn:Int)).a)))=true)∧(((ssR (kn:Int)).y)=false)):=⟨hP,Value.bool.inj (((hd.1 rfl).1 hP).symm.trans hg)⟩;rn_fld_49_4 (ev rfl) (Zs hG),fun hn=>⟨fun hG=>absurd (((hd.1 rfl).1 hG.1).trans (congrArg Value.bool hG.2)) hn,fun _=>rfl⟩⟩
  ·intro u w hR hd;exact⟨fun hg=>have hP:(((((if (ssR (kn:Int)).b then idn sx else decide (sx=⟨#[]⟩))&&(decide ((0)≤(nx))))&&(decide ((nx)≤((ssR (kn:Int)).n))))&&((((rx.length:Nat):Int))==((ssR (kn:Int)).a)))=true):=Classical.byContradiction (fun hnp=>absurd (((hd.2.1 rfl).2 hnp).symm.trans hg) (fun h=>by first | cases h | (simp [undef] at h)));have hG:((((((if (ssR (kn:Int)).b then idn sx else decide (sx=⟨#[]⟩))&&(decide ((0)≤(nx))))&&(decide ((nx)≤((ssR (kn:Int)).n))))&&((((rx.length:Nat):Int))==((ssR (kn:Int)).a)))=true)∧(((ssR (kn:Int)).y)=false)):=⟨hP,Value.bool.inj (((hd.2.1 rfl).1 hP).symm.trans hg)⟩;rn_ld_40 (ev ((hd.1 rfl).1 hG)) (d4.kept hR) (Zs hG),fun hn=>⟨fun hG=>absurd (((hd.2.1 rfl).1 hG.1).trans (congrArg Value.bool hG.2)) hn,fun _=>rfl⟩⟩
  ·intro u w hR hd;exact⟨fun hg=>have hP:(((((if (ssR (kn:Int)).b then idn sx else decide (sx=⟨#[]⟩))&&(decide ((0)≤(nx))))&&(decide ((nx)≤((ssR (kn:Int)).n))))&&((((rx.length:Nat):Int))==((ssR (kn:Int)).a)))=true):=Classical.byContradiction (fun hnp=>absurd (((hd.2.1 rfl).2 hnp).symm.trans hg) (fun h=>by first | cases h | (simp [undef] at h)));have hG:((((((if (ssR (kn:Int)).b then idn sx else decide (sx=⟨#[]⟩))&&(decide ((0)≤(nx))))&&(decide ((nx)≤((ssR (kn:Int)).n))))&&((((rx.length:Nat):Int))==((ssR (kn:Int)).a)))=true)∧(((ssR (kn:Int)).y)=false)):=⟨hP,Value.bool.inj (((hd.2.1 rfl).1 hP).symm.trans hg)⟩;rn_len_40 (ev ((hd.1 rfl).1 hG)) (Zs hG),fun hn=>⟨fun hG=>absurd (((hd.2.1 rfl).1 hG.1).trans (congrArg Value.bool hG.2)) hn,fun _=>rfl⟩⟩
  ·intro u w hR hd;exact⟨fun hg=>have hP:(((((if (ssR (kn:Int)).b then idn sx else decide (sx=⟨#[]⟩))&&(decide ((0)≤(nx))))&&(decide ((nx)≤((ssR (kn:Int)).n))))&&((((rx.length:Nat):Int))==((ssR (kn:Int)).a)))=true):=Classical.byContradiction (fun hnp=>absurd (((hd.2.1 rfl).2 hnp).symm.trans hg) (fun h=>by first | cases h | (simp [undef] at h)));have hG:((((((if (ssR (kn:Int)).b then idn sx else decide (sx=⟨#[]⟩))&&(decide ((0)≤(nx))))&&(decide ((nx)≤((ssR (kn:Int)).n))))&&((((rx.length:Nat):Int))==((ssR (kn:Int)).a)))=true)∧(((ssR (kn:Int)).y)=false)):=⟨hP,Value.bool.inj (((hd.2.1 rfl).1 hP).symm.trans hg)⟩;rn_eql_3 (ev ((hd.1 rfl).1 hG)) rfl (Zs hG),fun hn=>⟨fun hG=>absurd (((hd.2.1 rfl).1 hG.1).trans (congrArg Value.bool hG.2)) hn,fun _=>rfl⟩⟩
  ·intro u w hR hd;exact⟨fun hg=>have hG:=Zh (hd.2.2.1 rfl) hg;runs_or2 (ev ((hd.1 rfl).1 hG)) (fun hb=>ev ((hd.2.1 rfl).1 ⟨hG,hb⟩)) (Zs hG),Zn (hd.2.2.1 rfl)⟩
  ·intro u w hR hd;exact runs_an (ev (hd.1 rfl)) (fun hb=>ev ((hd.2.1 rfl).1 hb)) Zr
  ·intro u w hR hd;exact runs_mv (ev (hd.1 rfl)) Zr
  ·intro u w hR hd;exact⟨fun hg=>have hG:=Zh (hd.1 rfl) hg;rn_fld_164_4 (ev rfl) (Zs hG),Zn (hd.1 rfl)⟩
  ·intro u w hR hd;exact⟨fun hg=>have hG:=Zh (hd.2.1 rfl) hg;rn_ld_4 (ev ((hd.1 rfl).1 hG)) (e4.kept hR) (Zs hG),Zn (hd.2.1 rfl)⟩
  ·intro u w hR hd;exact⟨fun hg=>have hG:=Zh (hd.2.1 rfl) hg;runs_mv (ev ((hd.1 rfl).1 hG)) (Zs hG),Zn (hd.2.1 rfl)⟩
  ·intro u w hR hd;exact⟨fun hg=>have hP:((((((if (ssR (kn:Int)).b then idn sx else decide (sx=⟨#[]⟩))&&(decide ((0)≤(nx))))&&(decide ((nx)≤((ssR (kn:Int)).n))))&&((((rx.length:Nat):Int))==((ssR (kn:Int)).a)))&&(((ssR (kn:Int)).y)||((((yx.length:Nat):Int))==(0))))=true):=Classical.byContradiction (fun hnp=>absurd (((hd.1 rfl).2 hnp).symm.trans hg) (fun h=>by first | cases h | (simp [undef] at h)));have hG:(((((((if (ssR (kn:Int)).b then idn sx else decide (sx=⟨#[]⟩))&&(decide ((0)≤(nx))))&&(decide ((nx)≤((ssR (kn:Int)).n))))&&((((rx.length:Nat):Int))==((ssR (kn:Int)).a)))&&(((ssR (kn:Int)).y)||((((yx.length:Nat):Int))==(0))))=true)∧(((ssR (kn:Int)).e)=false)):=⟨hP,Value.bool.inj (((hd.1 rfl).1 hP).symm.trans hg)⟩;rn_fld_49_5 (ev rfl) (Zs hG),fun hn=>⟨fun hG=>absurd (((hd.1 rfl).1 hG.1).trans (congrArg Value.bool hG.2)) hn,fun _=>rfl⟩⟩
  ·intro u w hR hd;exact⟨fun hg=>have hP:((((((if (ssR (kn:Int)).b then idn sx else decide (sx=⟨#[]⟩))&&(decide ((0)≤(nx))))&&(decide ((nx)≤((ssR (kn:Int)).n))))&&((((rx.length:Nat):Int))==((ssR (kn:Int)).a)))&&(((ssR (kn:Int)).y)||((((yx.length:Nat):Int))==(0))))=true):=Classical.byContradiction (fun hnp=>absurd (((hd.2.1 rfl).2 hnp).symm.trans hg) (fun h=>by first | cases h | (simp [undef] at h)));have hG:(((((((if (ssR (kn:Int)).b then idn sx else decide (sx=⟨#[]⟩))&&(decide ((0)≤(nx))))&&(decide ((nx)≤((ssR (kn:Int)).n))))&&((((rx.length:Nat):Int))==((ssR (kn:Int)).a)))&&(((ssR (kn:Int)).y)||((((yx.length:Nat):Int))==(0))))=true)∧(((ssR (kn:Int)).e)=false)):=⟨hP,Value.bool.inj (((hd.2.1 rfl).1 hP).symm.trans hg)⟩;rn_ld_40 (ev ((hd.1 rfl).1 hG)) (d5.kept hR) (Zs hG),fun hn=>⟨fun hG=>absurd (((hd.2.1 rfl).1 hG.1).trans (congrArg Value.bool hG.2)) hn,fun _=>rfl⟩⟩
  ·intro u w hR hd;exact⟨fun hg=>have hP:((((((if (ssR (kn:Int)).b then idn sx else decide (sx=⟨#[]⟩))&&(decide ((0)≤(nx))))&&(decide ((nx)≤((ssR (kn:Int)).n))))&&((((rx.length:Nat):Int))==((ssR (kn:Int)).a)))&&(((ssR (kn:Int)).y)||((((yx.length:Nat):Int))==(0))))=true):=Classical.byContradiction (fun hnp=>absurd (((hd.2.1 rfl).2 hnp).symm.trans hg) (fun h=>by first | cases h | (simp [undef] at h)));have hG:(((((((if (ssR (kn:Int)).b then idn sx else decide (sx=⟨#[]⟩))&&(decide ((0)≤(nx))))&&(decide ((nx)≤((ssR (kn:Int)).n))))&&((((rx.length:Nat):Int))==((ssR (kn:Int)).a)))&&(((ssR (kn:Int)).y)||((((yx.length:Nat):Int))==(0))))=true)∧(((ssR (kn:Int)).e)=false)):=⟨hP,Value.bool.inj (((hd.2.1 rfl).1 hP).symm.trans hg)⟩;rn_len_40 (ev ((hd.1 rfl).1 hG)) (Zs hG),fun hn=>⟨fun hG=>absurd (((hd.2.1 rfl).1 hG.1).trans (congrArg Value.bool hG.2)) hn,fun _=>rfl⟩⟩
  ·intro u w hR hd;exact⟨fun hg=>have hP:((((((if (ssR (kn:Int)).b then idn sx else decide (sx=⟨#[]⟩))&&(decide ((0)≤(nx))))&&(decide ((nx)≤((ssR (kn:Int)).n))))&&((((rx.length:Nat):Int))==((ssR (kn:Int)).a)))&&(((ssR (kn:Int)).y)||((((yx.length:Nat):Int))==(0))))=true):=Classical.byContradiction (fun hnp=>absurd (((hd.2.1 rfl).2 hnp).symm.trans hg) (fun h=>by first | cases h | (simp [undef] at h)));have hG:(((((((if (ssR (kn:Int)).b then idn sx else decide (sx=⟨#[]⟩))&&(decide ((0)≤(nx))))&&(decide ((nx)≤((ssR (kn:Int)).n))))&&((((rx.length:Nat):Int))==((ssR (kn:Int)).a)))&&(((ssR (kn:Int)).y)||((((yx.length:Nat):Int))==(0))))=true)∧(((ssR (kn:Int)).e)=false)):=⟨hP,Value.bool.inj (((hd.2.1 rfl).1 hP).symm.trans hg)⟩;rn_eql_3 (ev ((hd.1 rfl).1 hG)) rfl (Zs hG),fun hn=>⟨fun hG=>absurd (((hd.2.1 rfl).1 hG.1).trans (congrArg Value.bool hG.2)) hn,fun _=>rfl⟩⟩
  ·intro u w hR hd;exact⟨fun hg=>have hG:=Zh (hd.2.2.1 rfl) hg;runs_or2 (ev ((hd.1 rfl).1 hG)) (fun hb=>ev ((hd.2.1 rfl).1 ⟨hG,hb⟩)) (Zs hG),Zn (hd.2.2.1 rfl)⟩
  ·intro u w hR hd;exact runs_an (ev (hd.1 rfl)) (fun hb=>ev ((hd.2.1 rfl).1 hb)) Zr
  ·intro u w hR hd;exact runs_mv (ev (hd.1 rfl)) Zr
  ·intro u w hR hd;exact⟨fun hg=>have hG:=Zh (hd.1 rfl) hg;rn_fld_49_3 (ev rfl) (Zs hG),Zn (hd.1 rfl)⟩
  ·intro u w hR hd;exact⟨fun hg=>have hG:=Zh (hd.2.1 rfl) hg;rn_ld_33 (ev ((hd.1 rfl).1 hG)) (d3.kept hR) (Zs hG),Zn (hd.2.1 rfl)⟩
  ·intro u w hR hd;exact⟨fun hg=>have hG:=Zh (hd.2.1 rfl) hg;runs_c2 en_evX (ev ((hd.1 rfl).1 hG)) rfl (callp (fun _ e=>⟨fun _=>e,fun hn=>absurd hG hn⟩) (HEV.out _ (HGV.out.trans hR))),Zn (hd.2.1 rfl)⟩
  ·intro u w hR hd;exact runs_an (ev (hd.1 rfl)) (fun hb=>ev ((hd.2.1 rfl).1 hb)) Zr
  ·intro u w hR hd;exact runs_mv (ev (hd.1 rfl)) Zr
  ·intro u w hR hd;exact⟨fun hg=>have hG:=Zh (hd.1 rfl) hg;rn_fld_49_4 (ev rfl) (Zs hG),Zn (hd.1 rfl)⟩
  ·intro u w hR hd;exact⟨fun hg=>have hG:=Zh (hd.2.1 rfl) hg;rn_ld_40 (ev ((hd.1 rfl).1 hG)) (d4.kept hR) (Zs hG),Zn (hd.2.1 rfl)⟩
  ·intro u w hR hd;exact⟨fun hg=>have hG:=Zh (hd.2.1 rfl) hg;runs_c2 en_evS (ev ((hd.1 rfl).1 hG)) rfl (callp (fun _ e=>⟨fun _=>e,fun hn=>absurd hG hn⟩) (HEY.out _ (HGV.out.trans hR))),Zn (hd.2.1 rfl)⟩
  ·intro u w hR hd;exact runs_an (ev (hd.1 rfl)) (fun hb=>ev ((hd.2.1 rfl).1 hb)) Zr
  ·intro u w hR hd;exact runs_mv (ev (hd.1 rfl)) Zr
  ·intro u w hR hd;exact⟨fun hg=>have hG:=Zh (hd.1 rfl) hg;rn_fld_49_5 (ev rfl) (Zs hG),Zn (hd.1 rfl)⟩
  ·intro u w hR hd;exact⟨fun hg=>have hG:=Zh (hd.2.1 rfl) hg;rn_ld_40 (ev ((hd.1 rfl).1 hG)) (d5.kept hR) (Zs hG),Zn (hd.2.1 rfl)⟩
  ·intro u w hR hd;exact⟨fun hg=>have hG:=Zh (hd.2.1 rfl) hg;runs_c2 en_evS (ev ((hd.1 rfl).1 hG)) rfl (callp (fun _ e=>⟨fun _=>e,fun hn=>absurd hG hn⟩) (HEE.out _ (HGV.out.trans hR))),Zn (hd.2.1 rfl)⟩
  ·intro u w hR hd;exact runs_an (ev (hd.1 rfl)) (fun hb=>ev ((hd.2.1 rfl).1 hb)) Zr
  ·intro u w hR hd;exact runs_mva (ev (hd.1 rfl)) Zr
  ·intro u w4 hR hh
   have he:u 2=.bool (((((((((if (ssR (kn:Int)).b then idn sx else decide (sx=⟨#[]⟩))&&(decide ((0)≤(nx))))&&(decide ((nx)≤((ssR (kn:Int)).n))))&&((((rx.length:Nat):Int))==((ssR (kn:Int)).a)))&&(((ssR (kn:Int)).y)||((((yx.length:Nat):Int))==(0))))&&(((ssR (kn:Int)).e)||((((ex.length:Nat):Int))==(0))))&&(rx.all okX))&&(yx.all okS))&&(ex.all okS)):=hh 60 (by decide)
   rw [HEQ.out] at he
   simp only [mixA,mixL,zz9,zz0,he]
   have HG4:Hid (Grew w w4):=zh (HGV.out.trans hR)
   clear hh he hR d0 d1 d2 d3 d4 d5 d6 e0 e1 e2 e3 e4 HGV
   go_wp2
   go_ret
   exact⟨rfl,HG4.out⟩
section
variable {dst:Option Tmp}{ty:TypeId}{pos:String}{after:Array Edge}{g:Option (Nat × Bool)}{a:Act}{w:World}{T:Value→World→Prop}
theorem rn_ld_42 {x:Operand}{S o:Nat}{v0 v1 v2 v3 v4 v5 v6 v7:Value}(hx:a.eval x=.pointer (some ⟨S,o,none⟩)) (h0:w.cell? ⟨S,o,none⟩=some v0) (h1:w.cell? ⟨S,o+1,none⟩=some v1) (h2:w.cell? ⟨S,o+2,none⟩=some v2) (h3:w.cell? ⟨S,o+3,none⟩=some v3) (h4:w.cell? ⟨S,o+4,none⟩=some v4) (h5:w.cell? ⟨S,o+5,none⟩=some v5) (h6:w.cell? ⟨S,o+6,none⟩=some v6) (h7:w.cell? ⟨S,o+7,none⟩=some v7) (h:T (.agg #[v0,v1,v2,v3,v4,v5,v6,v7]) w):Runs Tryz.prog ⟨dst,.load 42 x,ty,pos,after,g⟩ a w T:=by
 refine Runs.value (v:=.agg #[v0,v1,v2,v3,v4,v5,v6,v7]) (w':=w) ?_ h
 simp only [execOp,hx]
 go_simp
end
theorem trig_eq (i n:Int) (h m:ByteArray):(if i=0 then (((idn h)&&(idn m))&&(num1 n 0)) else ((((num1 i 0)&&(decide ((h)=((⟨([]).toArray⟩:ByteArray)))))&&(decide ((m)=((⟨([]).toArray⟩:ByteArray)))))&&((n)==(0))))=tlT i h m n:=by
 have he0:(⟨([]:List UInt8).toArray⟩:ByteArray)=⟨#[]⟩:=rfl
 rw [tlT]
 split
 ·rfl
 ·simp only [num1,he0,beq_dec]
  generalize decide (h=⟨#[]⟩)=a
  generalize decide (m=⟨#[]⟩)=b
  rw [Bool.eq_iff_iff]
  cases a <;> cases b <;> simp <;> omega
theorem task_eq (s:ByteArray) (i d:Int) (h m:ByteArray) (n:Int) (y:List Sm) (q:Int):((((idn s)&&(tlT i h m n))&&(num1 d 0))&&(y.all okS))=okT ⟨s,i,d,h,m,n,y,q⟩:=by
 show _=(hdT s d y&&tlT i h m n)
 rw [hdT,okSs_lall]
 cases idn s <;> cases tlT i h m n <;> cases num1 d 0 <;> cases y.all okS <;> rfl
set_option maxHeartbeats 8000000 in
theorem trig_any (s:ByteArray) (i d:Int) (h m:ByteArray) (n:Int) (y:List Sm) (q:Int) (bp:Option Addr) (bc:Nat) (w:World) (hh:h.size≤1048576) (hm:m.size≤1048576) (hcap:y.length≤bc) (hmax:bc≤9223372036854775807) (hE:Env w) :
 Calls Tryz.prog 112 #[tv s i d h m n bp y.length bc q] w fun e w'=>e=.returned (.bool (tlT i h m n))∧Grew w w':=by
 have HE:=zh hE
 have HIh:=zh (fun W (hW:Grew w W)=>isid_any h hh W (HE.out.grew hW))
 have HIm:=zh (fun W (hW:Grew w W)=>isid_any m hm W (HE.out.grew hW))
 have hEQ:=trig_eq i n h m
 clear hE hh hm
 by_cases hi:i=0
 ·rw [if_pos hi] at hEQ
  have hi2:(i==0)=true:=by rw [hi];rfl
  clear hi
  have HEQ:=zh (hEQ)
  go_enter Tryz.func112,Tryz.ntmps112
  go_upto_region 2 with fail
  have hb1:Blk w.heap.size [.string s,.int .i64 i,.int .i64 d,.string h,.string m,.int .i64 n,.slice bp y.length bc,.int .i64 q] 42 (w.alloc (Obj.cells #[.string s,.int .i64 i,.int .i64 d,.string h,.string m,.int .i64 n,.slice bp y.length bc,.int .i64 q] 42)):=Blk.new w _ _
  have hgV:Grew w (w.alloc (Obj.cells #[.string s,.int .i64 i,.int .i64 d,.string h,.string m,.int .i64 n,.slice bp y.length bc,.int .i64 q] 42)):=(Grew.refl w).alloc _
  generalize (w.alloc (Obj.cells #[.string s,.int .i64 i,.int .i64 d,.string h,.string m,.int .i64 n,.slice bp y.length bc,.int .i64 q] 42))=V at hb1 hgV ⊢
  generalize w.heap.size=T at hb1 ⊢
  have HGV:=zh hgV
  have d0:Atv ⟨T,0,none⟩ (.string s) V:=hb1.atv 0 rfl
  have d1:Atv ⟨T,1,none⟩ (.int .i64 i) V:=hb1.atv 1 rfl
  have d2:Atv ⟨T,2,none⟩ (.int .i64 d) V:=hb1.atv 2 rfl
  have d3:Atv ⟨T,3,none⟩ (.string h) V:=hb1.atv 3 rfl
  have d4:Atv ⟨T,4,none⟩ (.string m) V:=hb1.atv 4 rfl
  have d5:Atv ⟨T,5,none⟩ (.int .i64 n) V:=hb1.atv 5 rfl
  have d6:Atv ⟨T,6,none⟩ (.slice bp y.length bc) V:=hb1.atv 6 rfl
  have d7:Atv ⟨T,7,none⟩ (.int .i64 q) V:=hb1.atv 7 rfl
  clear hb1 hgV
  refine wp_postsL [some 6,some 7,some 8,some 9,some 10,some 11,some 12,some 13,some 14,some 15,some 16,some 17,some 18,some 2] (Zfb (Zta (Zfb (Zfa (Ztd (Ztc (Zta (Zfe (Zfb []))))))))) [fun v _=>v=.pointer (some ⟨T,3,none⟩),fun v _=>v=.string h,fun v _=>v=.bool (idn h),fun v _=>v=.bool (idn h),fun v _=>Zg ((idn h)=true) (.pointer (some ⟨T,4,none⟩)) v,fun v _=>Zg ((idn h)=true) (.string m) v,fun v _=>Zg ((idn h)=true) (.bool (idn m)) v,fun v _=>v=.bool ((idn h)&&(idn m)),fun v _=>v=.bool ((idn h)&&(idn m)),fun v _=>Zg (((idn h)&&(idn m))=true) (.pointer (some ⟨T,5,none⟩)) v,fun v _=>Zg (((idn h)&&(idn m))=true) (.int .i64 (n)) v,fun v _=>Zg (((idn h)&&(idn m))=true) (.bool (num1 n 0)) v,fun v _=>v=.bool (((idn h)&&(idn m))&&(num1 n 0)),fun v _=>v=.bool (((idn h)&&(idn m))&&(num1 n 0))] (by kernel_rfl) rfl ?_ ⟨?_,?_,?_,?_,?_,?_,?_,?_,?_,?_,?_,?_,?_,?_,trivial⟩ ?_
  ·exact⟨Zi,Zi,Zi,Zi,Zi,Zi,Zi,Zi,Zi,Zi,Zi,Zi,Zi,Zi,trivial⟩
  ·intro u w hR hd;exact rn_fld_42_3 (ev rfl) Zr
  ·intro u w hR hd;exact rn_ld_9 (ev (hd.1 rfl)) (d3.kept hR) Zr
  ·intro u w hR hd;exact runs_c1 en_id (ev (hd.1 rfl)) (callp (fun _ e=>e) (HIh.out _ (HGV.out.trans hR)))
  ·intro u w hR hd;exact runs_mv (ev (hd.1 rfl)) Zr
  ·intro u w hR hd;exact⟨fun hg=>have hG:=Zh (hd.1 rfl) hg;rn_fld_42_4 (ev rfl) (Zs hG),Zn (hd.1 rfl)⟩
  ·intro u w hR hd;exact⟨fun hg=>have hG:=Zh (hd.2.1 rfl) hg;rn_ld_9 (ev ((hd.1 rfl).1 hG)) (d4.kept hR) (Zs hG),Zn (hd.2.1 rfl)⟩
  ·intro u w hR hd;exact⟨fun hg=>have hG:=Zh (hd.2.1 rfl) hg;runs_c1 en_id (ev ((hd.1 rfl).1 hG)) (callp (fun _ e=>⟨fun _=>e,fun hn=>absurd hG hn⟩) (HIm.out _ (HGV.out.trans hR))),Zn (hd.2.1 rfl)⟩
  ·intro u w hR hd;exact runs_an (ev (hd.1 rfl)) (fun hb=>ev ((hd.2.1 rfl).1 hb)) Zr
  ·intro u w hR hd;exact runs_mv (ev (hd.1 rfl)) Zr
  ·intro u w hR hd;exact⟨fun hg=>have hG:=Zh (hd.1 rfl) hg;rn_fld_42_5 (ev rfl) (Zs hG),Zn (hd.1 rfl)⟩
  ·intro u w hR hd;exact⟨fun hg=>have hG:=Zh (hd.2.1 rfl) hg;rn_ld_3 (ev ((hd.1 rfl).1 hG)) (d5.kept hR) (Zs hG),Zn (hd.2.1 rfl)⟩
  ·intro u w hR hd;exact⟨fun hg=>have hG:=Zh (hd.2.1 rfl) hg;runs_c1 en_nu (ev ((hd.1 rfl).1 hG)) (callp (fun _ e=>⟨fun _=>e,fun hn=>absurd hG hn⟩) ((isnum_any _ _).mono fun e w9 h=>⟨h.1,h.2 ▸ Grew.refl _⟩)),Zn (hd.2.1 rfl)⟩
  ·intro u w hR hd;exact runs_an (ev (hd.1 rfl)) (fun hb=>ev ((hd.2.1 rfl).1 hb)) Zr
  ·intro u w hR hd;exact runs_mva (ev (hd.1 rfl)) Zr
  ·intro u w4 hR hh
   have he:u 2=.bool (((idn h)&&(idn m))&&(num1 n 0)):=hh 13 (by decide)
   rw [HEQ.out] at he
   simp only [mixA,mixL,zz9,zz0,he]
   have HG4:Hid (Grew w w4):=zh (HGV.out.trans hR)
   clear hh he hR d0 d1 d2 d3 d4 d5 d6 d7 HGV
   go_wp2
   go_ret
   exact⟨rfl,HG4.out⟩
 ·rw [if_neg hi] at hEQ
  have hi2:(i==0)=false:=beq_eq_false_iff_ne.2 hi
  clear hi
  have HEQ:=zh (hEQ)
  go_enter Tryz.func112,Tryz.ntmps112
  go_upto_region 3 with fail
  have hb1:Blk w.heap.size [.string s,.int .i64 i,.int .i64 d,.string h,.string m,.int .i64 n,.slice bp y.length bc,.int .i64 q] 42 (w.alloc (Obj.cells #[.string s,.int .i64 i,.int .i64 d,.string h,.string m,.int .i64 n,.slice bp y.length bc,.int .i64 q] 42)):=Blk.new w _ _
  have hgV:Grew w (w.alloc (Obj.cells #[.string s,.int .i64 i,.int .i64 d,.string h,.string m,.int .i64 n,.slice bp y.length bc,.int .i64 q] 42)):=(Grew.refl w).alloc _
  generalize (w.alloc (Obj.cells #[.string s,.int .i64 i,.int .i64 d,.string h,.string m,.int .i64 n,.slice bp y.length bc,.int .i64 q] 42))=V at hb1 hgV ⊢
  generalize w.heap.size=T at hb1 ⊢
  have HGV:=zh hgV
  have d0:Atv ⟨T,0,none⟩ (.string s) V:=hb1.atv 0 rfl
  have d1:Atv ⟨T,1,none⟩ (.int .i64 i) V:=hb1.atv 1 rfl
  have d2:Atv ⟨T,2,none⟩ (.int .i64 d) V:=hb1.atv 2 rfl
  have d3:Atv ⟨T,3,none⟩ (.string h) V:=hb1.atv 3 rfl
  have d4:Atv ⟨T,4,none⟩ (.string m) V:=hb1.atv 4 rfl
  have d5:Atv ⟨T,5,none⟩ (.int .i64 n) V:=hb1.atv 5 rfl
  have d6:Atv ⟨T,6,none⟩ (.slice bp y.length bc) V:=hb1.atv 6 rfl
  have d7:Atv ⟨T,7,none⟩ (.int .i64 q) V:=hb1.atv 7 rfl
  clear hb1 hgV
  refine wp_postsL [some 19,some 20,some 21,some 22,some 23,some 24,some 25,some 26,some 27,some 28,some 29,some 30,some 31,some 32,some 33,some 34,some 35,some 36,some 2] (Zfb (Zta (Zfe (Zte (Ztb []))))) [fun v _=>v=.pointer (some ⟨T,1,none⟩),fun v _=>v=.int .i64 (i),fun v _=>v=.bool (num1 i 0),fun v _=>v=.bool (num1 i 0),fun v _=>Zg ((num1 i 0)=true) (.pointer (some ⟨T,3,none⟩)) v,fun v _=>Zg ((num1 i 0)=true) (.string h) v,fun v _=>Zg ((num1 i 0)=true) (.bool (decide ((h)=((⟨([]).toArray⟩:ByteArray))))) v,fun v _=>v=.bool ((num1 i 0)&&(decide ((h)=((⟨([]).toArray⟩:ByteArray))))),fun v _=>v=.bool ((num1 i 0)&&(decide ((h)=((⟨([]).toArray⟩:ByteArray))))),fun v _=>Zg (((num1 i 0)&&(decide ((h)=((⟨([]).toArray⟩:ByteArray)))))=true) (.pointer (some ⟨T,4,none⟩)) v,fun v _=>Zg (((num1 i 0)&&(decide ((h)=((⟨([]).toArray⟩:ByteArray)))))=true) (.string m) v,fun v _=>Zg (((num1 i 0)&&(decide ((h)=((⟨([]).toArray⟩:ByteArray)))))=true) (.bool (decide ((m)=((⟨([]).toArray⟩:ByteArray))))) v,fun v _=>v=.bool (((num1 i 0)&&(decide ((h)=((⟨([]).toArray⟩:ByteArray)))))&&(decide ((m)=((⟨([]).toArray⟩:ByteArray))))),fun v _=>v=.bool (((num1 i 0)&&(decide ((h)=((⟨([]).toArray⟩:ByteArray)))))&&(decide ((m)=((⟨([]).toArray⟩:ByteArray))))),fun v _=>Zg ((((num1 i 0)&&(decide ((h)=((⟨([]).toArray⟩:ByteArray)))))&&(decide ((m)=((⟨([]).toArray⟩:ByteArray)))))=true) (.pointer (some ⟨T,5,none⟩)) v,fun v _=>Zg ((((num1 i 0)&&(decide ((h)=((⟨([]).toArray⟩:ByteArray)))))&&(decide ((m)=((⟨([]).toArray⟩:ByteArray)))))=true) (.int .i64 (n)) v,fun v _=>Zg ((((num1 i 0)&&(decide ((h)=((⟨([]).toArray⟩:ByteArray)))))&&(decide ((m)=((⟨([]).toArray⟩:ByteArray)))))=true) (.bool ((n)==(0))) v,fun v _=>v=.bool ((((num1 i 0)&&(decide ((h)=((⟨([]).toArray⟩:ByteArray)))))&&(decide ((m)=((⟨([]).toArray⟩:ByteArray)))))&&((n)==(0))),fun v _=>v=.bool ((((num1 i 0)&&(decide ((h)=((⟨([]).toArray⟩:ByteArray)))))&&(decide ((m)=((⟨([]).toArray⟩:ByteArray)))))&&((n)==(0)))] (by kernel_rfl) rfl ?_ ⟨?_,?_,?_,?_,?_,?_,?_,?_,?_,?_,?_,?_,?_,?_,?_,?_,?_,?_,?_,trivial⟩ ?_
  ·exact⟨Zi,Zi,Zi,Zi,Zi,Zi,Zi,Zi,Zi,Zi,Zi,Zi,Zi,Zi,Zi,Zi,Zi,Zi,Zi,trivial⟩
  ·intro u w hR hd;exact rn_fld_42_1 (ev rfl) Zr
  ·intro u w hR hd;exact rn_ld_3 (ev (hd.1 rfl)) (d1.kept hR) Zr
  ·intro u w hR hd;exact runs_c1 en_nu (ev (hd.1 rfl)) (callp (fun _ e=>e) ((isnum_any _ _).mono fun e w9 h=>⟨h.1,h.2 ▸ Grew.refl _⟩))
  ·intro u w hR hd;exact runs_mv (ev (hd.1 rfl)) Zr
  ·intro u w hR hd;exact⟨fun hg=>have hG:=Zh (hd.1 rfl) hg;rn_fld_42_3 (ev rfl) (Zs hG),Zn (hd.1 rfl)⟩
  ·intro u w hR hd;exact⟨fun hg=>have hG:=Zh (hd.2.1 rfl) hg;rn_ld_9 (ev ((hd.1 rfl).1 hG)) (d3.kept hR) (Zs hG),Zn (hd.2.1 rfl)⟩
  ·intro u w hR hd;exact⟨fun hg=>have hG:=Zh (hd.2.1 rfl) hg;rn_eqs_9 (ev ((hd.1 rfl).1 hG)) rfl (Zs hG),Zn (hd.2.1 rfl)⟩
  ·intro u w hR hd;exact runs_an (ev (hd.1 rfl)) (fun hb=>ev ((hd.2.1 rfl).1 hb)) Zr
  ·intro u w hR hd;exact runs_mv (ev (hd.1 rfl)) Zr
  ·intro u w hR hd;exact⟨fun hg=>have hG:=Zh (hd.1 rfl) hg;rn_fld_42_4 (ev rfl) (Zs hG),Zn (hd.1 rfl)⟩
  ·intro u w hR hd;exact⟨fun hg=>have hG:=Zh (hd.2.1 rfl) hg;rn_ld_9 (ev ((hd.1 rfl).1 hG)) (d4.kept hR) (Zs hG),Zn (hd.2.1 rfl)⟩
  ·intro u w hR hd;exact⟨fun hg=>have hG:=Zh (hd.2.1 rfl) hg;rn_eqs_9 (ev ((hd.1 rfl).1 hG)) rfl (Zs hG),Zn (hd.2.1 rfl)⟩
  ·intro u w hR hd;exact runs_an (ev (hd.1 rfl)) (fun hb=>ev ((hd.2.1 rfl).1 hb)) Zr
  ·intro u w hR hd;exact runs_mv (ev (hd.1 rfl)) Zr
  ·intro u w hR hd;exact⟨fun hg=>have hG:=Zh (hd.1 rfl) hg;rn_fld_42_5 (ev rfl) (Zs hG),Zn (hd.1 rfl)⟩
  ·intro u w hR hd;exact⟨fun hg=>have hG:=Zh (hd.2.1 rfl) hg;rn_ld_3 (ev ((hd.1 rfl).1 hG)) (d5.kept hR) (Zs hG),Zn (hd.2.1 rfl)⟩
  ·intro u w hR hd;exact⟨fun hg=>have hG:=Zh (hd.2.1 rfl) hg;rn_eql_3 (ev ((hd.1 rfl).1 hG)) rfl (Zs hG),Zn (hd.2.1 rfl)⟩
  ·intro u w hR hd;exact runs_an (ev (hd.1 rfl)) (fun hb=>ev ((hd.2.1 rfl).1 hb)) Zr
  ·intro u w hR hd;exact runs_mva (ev (hd.1 rfl)) Zr
  ·intro u w4 hR hh
   have he:u 2=.bool ((((num1 i 0)&&(decide ((h)=((⟨([]).toArray⟩:ByteArray)))))&&(decide ((m)=((⟨([]).toArray⟩:ByteArray)))))&&((n)==(0))):=hh 18 (by decide)
   rw [HEQ.out] at he
   simp only [mixA,mixL,zz9,zz0,he]
   have HG4:Hid (Grew w w4):=zh (HGV.out.trans hR)
   clear hh he hR d0 d1 d2 d3 d4 d5 d6 d7 HGV
   go_wp2
   go_ret
   exact⟨rfl,HG4.out⟩
set_option maxHeartbeats 8000000 in
theorem formT_any (s:ByteArray) (i d:Int) (h m:ByteArray) (n:Int) (y:List Sm) (q:Int) (bp:Option Addr) (bc:Nat) (B:Nat→Prop) (w:World) (hs:s.size≤1048576) (hh:h.size≤1048576) (hm:m.size≤1048576) (hy:SL B w bp bc y) (hE:Env w) :
 Calls Tryz.prog 61 #[tv s i d h m n bp y.length bc q] w fun e w'=>e=.returned (.bool (okT ⟨s,i,d,h,m,n,y,q⟩))∧Grew w w':=by
 have HE:=zh hE
 have hcap:y.length≤bc:=hy.cap.1
 have hmax:=hy.cap.2.1
 have HIs:=zh (fun W (hW:Grew w W)=>isid_any s hs W (HE.out.grew hW))
 have HTG:=zh (fun W (hW:Grew w W)=>trig_any s i d h m n y q bp bc W hh hm hcap hmax (HE.out.grew hW))
 have HEY:Hid (∀W,Grew w W→Calls Tryz.prog 113 #[.slice bp y.length bc,.func (.func 114) #[] #[]] W fun e w'=>e=.returned (.bool (y.all okS))∧Grew W w') :=
  zh (fun W hW=>everyS_any 114 #[] en_fs y okS B W bp bc (hy.kept hW) (fun z hz a1 a2 a3 a4 a5 a6 W2 q1 q2 q3 q4 hW2=>formS_any z B W2 a1 a2 a3 a4 a5 a6 q4 q1 q2 q3 (HE.out.grew (hW.trans hW2))))
 have HEQ:=zh (task_eq s i d h m n y q)
 clear hE hs hh hm hy
 go_enter Tryz.func61,Tryz.ntmps61
 go_upto_region 1 with fail
 have hb1:Blk w.heap.size [.string s,.int .i64 i,.int .i64 d,.string h,.string m,.int .i64 n,.slice bp y.length bc,.int .i64 q] 42 (w.alloc (Obj.cells #[.string s,.int .i64 i,.int .i64 d,.string h,.string m,.int .i64 n,.slice bp y.length bc,.int .i64 q] 42)):=Blk.new w _ _
 have hgV:Grew w (w.alloc (Obj.cells #[.string s,.int .i64 i,.int .i64 d,.string h,.string m,.int .i64 n,.slice bp y.length bc,.int .i64 q] 42)):=(Grew.refl w).alloc _
 generalize (w.alloc (Obj.cells #[.string s,.int .i64 i,.int .i64 d,.string h,.string m,.int .i64 n,.slice bp y.length bc,.int .i64 q] 42))=V at hb1 hgV ⊢
 generalize w.heap.size=T at hb1 ⊢
 have HGV:=zh hgV
 have d0:Atv ⟨T,0,none⟩ (.string s) V:=hb1.atv 0 rfl
 have d1:Atv ⟨T,1,none⟩ (.int .i64 i) V:=hb1.atv 1 rfl
 have d2:Atv ⟨T,2,none⟩ (.int .i64 d) V:=hb1.atv 2 rfl
 have d3:Atv ⟨T,3,none⟩ (.string h) V:=hb1.atv 3 rfl
 have d4:Atv ⟨T,4,none⟩ (.string m) V:=hb1.atv 4 rfl
 have d5:Atv ⟨T,5,none⟩ (.int .i64 n) V:=hb1.atv 5 rfl
 have d6:Atv ⟨T,6,none⟩ (.slice bp y.length bc) V:=hb1.atv 6 rfl
 have d7:Atv ⟨T,7,none⟩ (.int .i64 q) V:=hb1.atv 7 rfl
 clear hb1 hgV
 refine wp_postsL [some 3,some 4,some 5,some 6,some 7,some 8,some 9,some 10,some 11,some 12,some 13,some 14,some 15,some 16,some 17,some 18,some 19,some 2] (Zfb (Zte (Ztb []))) [fun v _=>v=.pointer (some ⟨T,0,none⟩),fun v _=>v=.string s,fun v _=>v=.bool (idn s),fun v _=>v=.bool (idn s),fun v _=>Zg ((idn s)=true) (.agg #[.string s,.int .i64 (i),.int .i64 (d),.string h,.string m,.int .i64 (n),.slice bp (y.length) (bc),.int .i64 (q)]) v,fun v _=>Zg ((idn s)=true) (.bool (tlT i h m n)) v,fun v _=>v=.bool ((idn s)&&(tlT i h m n)),fun v _=>v=.bool ((idn s)&&(tlT i h m n)),fun v _=>Zg (((idn s)&&(tlT i h m n))=true) (.pointer (some ⟨T,2,none⟩)) v,fun v _=>Zg (((idn s)&&(tlT i h m n))=true) (.int .i64 (d)) v,fun v _=>Zg (((idn s)&&(tlT i h m n))=true) (.bool (num1 d 0)) v,fun v _=>v=.bool (((idn s)&&(tlT i h m n))&&(num1 d 0)),fun v _=>v=.bool (((idn s)&&(tlT i h m n))&&(num1 d 0)),fun v _=>Zg ((((idn s)&&(tlT i h m n))&&(num1 d 0))=true) (.pointer (some ⟨T,6,none⟩)) v,fun v _=>Zg ((((idn s)&&(tlT i h m n))&&(num1 d 0))=true) (.slice bp (y.length) (bc)) v,fun v _=>Zg ((((idn s)&&(tlT i h m n))&&(num1 d 0))=true) (.bool (y.all okS)) v,fun v _=>v=.bool ((((idn s)&&(tlT i h m n))&&(num1 d 0))&&(y.all okS)),fun v _=>v=.bool ((((idn s)&&(tlT i h m n))&&(num1 d 0))&&(y.all okS))] (by kernel_rfl) rfl ?_ ⟨?_,?_,?_,?_,?_,?_,?_,?_,?_,?_,?_,?_,?_,?_,?_,?_,?_,?_,trivial⟩ ?_
 ·exact⟨Zi,Zi,Zi,Zi,Zi,Zi,Zi,Zi,Zi,Zi,Zi,Zi,Zi,Zi,Zi,Zi,Zi,Zi,trivial⟩
 ·intro u w hR hd;exact rn_fld_42_0 (ev rfl) Zr
 ·intro u w hR hd;exact rn_ld_9 (ev (hd.1 rfl)) (d0.kept hR) Zr
 ·intro u w hR hd;exact runs_c1 en_id (ev (hd.1 rfl)) (callp (fun _ e=>e) (HIs.out _ (HGV.out.trans hR)))
 ·intro u w hR hd;exact runs_mv (ev (hd.1 rfl)) Zr
 ·intro u w hR hd;exact⟨fun hg=>have hG:=Zh (hd.1 rfl) hg;rn_ld_42 (ev rfl) (d0.kept hR) (d1.kept hR) (d2.kept hR) (d3.kept hR) (d4.kept hR) (d5.kept hR) (d6.kept hR) (d7.kept hR) (Zs hG),Zn (hd.1 rfl)⟩
 ·intro u w hR hd;exact⟨fun hg=>have hG:=Zh (hd.2.1 rfl) hg;runs_c1 en_tg (ev ((hd.1 rfl).1 hG)) (callp (fun _ e=>⟨fun _=>e,fun hn=>absurd hG hn⟩) (HTG.out _ (HGV.out.trans hR))),Zn (hd.2.1 rfl)⟩
 ·intro u w hR hd;exact runs_an (ev (hd.1 rfl)) (fun hb=>ev ((hd.2.1 rfl).1 hb)) Zr
 ·intro u w hR hd;exact runs_mv (ev (hd.1 rfl)) Zr
 ·intro u w hR hd;exact⟨fun hg=>have hG:=Zh (hd.1 rfl) hg;rn_fld_42_2 (ev rfl) (Zs hG),Zn (hd.1 rfl)⟩
 ·intro u w hR hd;exact⟨fun hg=>have hG:=Zh (hd.2.1 rfl) hg;rn_ld_3 (ev ((hd.1 rfl).1 hG)) (d2.kept hR) (Zs hG),Zn (hd.2.1 rfl)⟩
 ·intro u w hR hd;exact⟨fun hg=>have hG:=Zh (hd.2.1 rfl) hg;runs_c1 en_nu (ev ((hd.1 rfl).1 hG)) (callp (fun _ e=>⟨fun _=>e,fun hn=>absurd hG hn⟩) ((isnum_any _ _).mono fun e w9 h=>⟨h.1,h.2 ▸ Grew.refl _⟩)),Zn (hd.2.1 rfl)⟩
 ·intro u w hR hd;exact runs_an (ev (hd.1 rfl)) (fun hb=>ev ((hd.2.1 rfl).1 hb)) Zr
 ·intro u w hR hd;exact runs_mv (ev (hd.1 rfl)) Zr
 ·intro u w hR hd;exact⟨fun hg=>have hG:=Zh (hd.1 rfl) hg;rn_fld_42_6 (ev rfl) (Zs hG),Zn (hd.1 rfl)⟩
 ·intro u w hR hd;exact⟨fun hg=>have hG:=Zh (hd.2.1 rfl) hg;rn_ld_40 (ev ((hd.1 rfl).1 hG)) (d6.kept hR) (Zs hG),Zn (hd.2.1 rfl)⟩
 ·intro u w hR hd;exact⟨fun hg=>have hG:=Zh (hd.2.1 rfl) hg;runs_c2 en_evS (ev ((hd.1 rfl).1 hG)) rfl (callp (fun _ e=>⟨fun _=>e,fun hn=>absurd hG hn⟩) (HEY.out _ (HGV.out.trans hR))),Zn (hd.2.1 rfl)⟩
 ·intro u w hR hd;exact runs_an (ev (hd.1 rfl)) (fun hb=>ev ((hd.2.1 rfl).1 hb)) Zr
 ·intro u w hR hd;exact runs_mva (ev (hd.1 rfl)) Zr
 ·intro u w4 hR hh
  have he:u 2=.bool ((((idn s)&&(tlT i h m n))&&(num1 d 0))&&(y.all okS)):=hh 17 (by decide)
  rw [HEQ.out] at he
  simp only [mixA,mixL,zz9,zz0,he]
  have HG4:Hid (Grew w w4):=zh (HGV.out.trans hR)
  clear hh he hR d0 d1 d2 d3 d4 d5 d6 d7 HGV
  go_wp2
  go_ret
  exact⟨rfl,HG4.out⟩
section
variable {dst:Option Tmp}{ty:TypeId}{pos:String}{after:Array Edge}{g:Option (Nat × Bool)}{a:Act}{w:World}{T:Value→World→Prop}
theorem rn_fld_28_0 {x:Operand}{S o:Nat}(hx:a.eval x=.pointer (some ⟨S,o,none⟩)) (h:T (.pointer (some ⟨S,o,none⟩)) w):Runs Tryz.prog ⟨dst,.fieldAddr 28 x 0,ty,pos,after,g⟩ a w T:=by
 refine Runs.value (v:=.pointer (some ⟨S,o,none⟩)) (w':=w) ?_ h
 simp only [execOp,hx]
 go_simp
theorem rn_ld_22 {x:Operand}{q:Addr}{v:Value}(hx:a.eval x=.pointer (some q)) (hc:w.cell? q=some v) (h:T v w):Runs Tryz.prog ⟨dst,.load 22 x,ty,pos,after,g⟩ a w T:=by
 refine Runs.value (v:=v) (w':=w) ?_ h
 simp only [execOp,hx]
 go_simp
theorem rn_fld_28_1 {x:Operand}{S o:Nat}(hx:a.eval x=.pointer (some ⟨S,o,none⟩)) (h:T (.pointer (some ⟨S,o+1,none⟩)) w):Runs Tryz.prog ⟨dst,.fieldAddr 28 x 1,ty,pos,after,g⟩ a w T:=by
 refine Runs.value (v:=.pointer (some ⟨S,o+1,none⟩)) (w':=w) ?_ h
 simp only [execOp,hx]
 go_simp
theorem rn_ld_23 {x:Operand}{q:Addr}{v:Value}(hx:a.eval x=.pointer (some q)) (hc:w.cell? q=some v) (h:T v w):Runs Tryz.prog ⟨dst,.load 23 x,ty,pos,after,g⟩ a w T:=by
 refine Runs.value (v:=v) (w':=w) ?_ h
 simp only [execOp,hx]
 go_simp
theorem rn_fld_28_2 {x:Operand}{S o:Nat}(hx:a.eval x=.pointer (some ⟨S,o,none⟩)) (h:T (.pointer (some ⟨S,o+2,none⟩)) w):Runs Tryz.prog ⟨dst,.fieldAddr 28 x 2,ty,pos,after,g⟩ a w T:=by
 refine Runs.value (v:=.pointer (some ⟨S,o+2,none⟩)) (w':=w) ?_ h
 simp only [execOp,hx]
 go_simp
theorem rn_ld_24 {x:Operand}{q:Addr}{v:Value}(hx:a.eval x=.pointer (some q)) (hc:w.cell? q=some v) (h:T v w):Runs Tryz.prog ⟨dst,.load 24 x,ty,pos,after,g⟩ a w T:=by
 refine Runs.value (v:=v) (w':=w) ?_ h
 simp only [execOp,hx]
 go_simp
theorem rn_fld_28_3 {x:Operand}{S o:Nat}(hx:a.eval x=.pointer (some ⟨S,o,none⟩)) (h:T (.pointer (some ⟨S,o+3,none⟩)) w):Runs Tryz.prog ⟨dst,.fieldAddr 28 x 3,ty,pos,after,g⟩ a w T:=by
 refine Runs.value (v:=.pointer (some ⟨S,o+3,none⟩)) (w':=w) ?_ h
 simp only [execOp,hx]
 go_simp
theorem rn_fld_28_4 {x:Operand}{S o:Nat}(hx:a.eval x=.pointer (some ⟨S,o,none⟩)) (h:T (.pointer (some ⟨S,o+4,none⟩)) w):Runs Tryz.prog ⟨dst,.fieldAddr 28 x 4,ty,pos,after,g⟩ a w T:=by
 refine Runs.value (v:=.pointer (some ⟨S,o+4,none⟩)) (w':=w) ?_ h
 simp only [execOp,hx]
 go_simp
theorem rn_ld_25 {x:Operand}{q:Addr}{v:Value}(hx:a.eval x=.pointer (some q)) (hc:w.cell? q=some v) (h:T v w):Runs Tryz.prog ⟨dst,.load 25 x,ty,pos,after,g⟩ a w T:=by
 refine Runs.value (v:=v) (w':=w) ?_ h
 simp only [execOp,hx]
 go_simp
theorem rn_fld_28_5 {x:Operand}{S o:Nat}(hx:a.eval x=.pointer (some ⟨S,o,none⟩)) (h:T (.pointer (some ⟨S,o+5,none⟩)) w):Runs Tryz.prog ⟨dst,.fieldAddr 28 x 5,ty,pos,after,g⟩ a w T:=by
 refine Runs.value (v:=.pointer (some ⟨S,o+5,none⟩)) (w':=w) ?_ h
 simp only [execOp,hx]
 go_simp
theorem rn_ld_26 {x:Operand}{q:Addr}{v:Value}(hx:a.eval x=.pointer (some q)) (hc:w.cell? q=some v) (h:T v w):Runs Tryz.prog ⟨dst,.load 26 x,ty,pos,after,g⟩ a w T:=by
 refine Runs.value (v:=v) (w':=w) ?_ h
 simp only [execOp,hx]
 go_simp
end
set_option maxHeartbeats 8000000 in
theorem form_any (P:Pg) (B:Nat→Prop) (w:World) (cp gp sp op hp tp:Option Addr) (cc gc sc oc hc tc:Nat) (hpg:PgIn B w P cp gp sp op hp tp cc gc sc oc hc tc) (hE:Env w) :
 Calls Tryz.prog 18 #[pgv P cp gp sp op hp tp cc gc sc oc hc tc] w fun e w'=>e=.returned (.bool (okP P))∧Grew w w':=by
 obtain ⟨hcaps,hmaxs⟩:=hpg.caps
 obtain ⟨cs,gs,ss,os,hs,ts⟩:=P
 have HE:=zh hE
 have HPG:=zh hpg
 have hz:=hpg.sz
 dsimp only at hcaps hz
 obtain ⟨z1,z2,z3,z4,z5⟩:=hz
 have HC:Hid (∀W,Grew w W→Calls Tryz.prog 52 #[.slice cp cs.length cc,.func (.func 53) #[] #[]] W fun e w'=>e=.returned (.bool (cs.all (fun c:Cn=>okC c.s c.v)))∧Grew W w') :=
  zh (fun W hW=>everyC_any 53 #[] en_fc cs (fun c:Cn=>okC c.s c.v) B W _ _ (HPG.out.kept hW).cs.2 (fun y hy W2 hW2=>formC_any y.s y.v y.q W2 (z1 y hy).1 (HE.out.grew (hW.trans hW2))))
 have HGl:Hid (∀W,Grew w W→Calls Tryz.prog 54 #[.slice gp gs.length gc,.func (.func 55) #[] #[]] W fun e w'=>e=.returned (.bool (gs.all (fun c:Gl=>okG c.s c.l c.i)))∧Grew W w') :=
  zh (fun W hW=>everyG_any 55 #[] en_fg gs (fun c:Gl=>okG c.s c.l c.i) B W _ _ (HPG.out.kept hW).gs.2 (fun y hy W2 hW2=>formG_any y.s y.l y.i y.q W2 (z2 y hy).1 (HE.out.grew (hW.trans hW2))))
 have HS1:Hid (∀W,Grew w W→Calls Tryz.prog 56 #[.slice sp ss.length sc,.func (.func 57) #[] #[]] W fun e w'=>e=.returned (.bool (ss.all (fun s:ByteArray=>idn s)))∧Grew W w') :=
  zh (fun W hW=>everyN_any 57 #[] en_id ss (fun s:ByteArray=>idn s) B W _ _ (HPG.out.kept hW).ss.2 (fun y hy W2 hW2=>isid_any y (z3 y hy) W2 (HE.out.grew (hW.trans hW2))))
 have HS2:Hid (∀W,Grew w W→Calls Tryz.prog 56 #[.slice op os.length oc,.func (.func 57) #[] #[]] W fun e w'=>e=.returned (.bool (os.all (fun s:ByteArray=>idn s)))∧Grew W w') :=
  zh (fun W hW=>everyN_any 57 #[] en_id os (fun s:ByteArray=>idn s) B W _ _ (HPG.out.kept hW).os.2 (fun y hy W2 hW2=>isid_any y (z4 y hy) W2 (HE.out.grew (hW.trans hW2))))
 have HH:Hid (∀W,Grew w W→Calls Tryz.prog 58 #[.slice hp hs.length hc,.func (.func 59) #[] #[]] W fun e w'=>e=.returned (.bool (hs.all (fun c:Cn=>okH c.s c.v)))∧Grew W w') :=
  zh (fun W hW=>everyH_any 59 #[] en_fh hs (fun c:Cn=>okH c.s c.v) B W _ _ (HPG.out.kept hW).hs.2 (fun y hy W2 hW2=>formH_any y.s y.v y.q W2 (z5 y hy) (HE.out.grew (hW.trans hW2))))
 have HT:Hid (∀W,Grew w W→Calls Tryz.prog 60 #[.slice tp ts.length tc,.func (.func 61) #[] #[]] W fun e w'=>e=.returned (.bool (ts.all okT))∧Grew W w') :=
  zh (fun W hW=>everyT_any 61 #[] en_ft ts okT B W _ _ (HPG.out.kept hW).ts (fun y hy a1 a2 W2 q1 q2 hW2=>formT_any y.s y.p y.d y.c y.m y.w y.b y.q a1 a2 B W2 q2.1 q2.2.1 q2.2.2 q1 (HE.out.grew (hW.trans hW2))))
 have HEQ:Hid (((((((cs.all (fun c:Cn=>okC c.s c.v))&&(gs.all (fun c:Gl=>okG c.s c.l c.i)))&&(ss.all (fun s:ByteArray=>idn s)))&&(os.all (fun s:ByteArray=>idn s)))&&(hs.all (fun c:Cn=>okH c.s c.v)))&&(ts.all okT))=okP ⟨cs,gs,ss,os,hs,ts⟩):=zh (by
  show _=(okCs cs&&(okGs gs&&(okNs (ss++os)&&(okHs hs&&okTs ts))))
  rw [okNs,List.all_append,okCs,okGs,okHs,okTs]
  simp only [Bool.and_assoc])
 show Calls Tryz.prog 18 #[.agg #[.slice cp cs.length cc,.slice gp gs.length gc,.slice sp ss.length sc,.slice op os.length oc,.slice hp hs.length hc,.slice tp ts.length tc]] w fun e w'=>e=.returned (.bool (okP ⟨cs,gs,ss,os,hs,ts⟩))∧Grew w w'
 generalize okP ⟨cs,gs,ss,os,hs,ts⟩=b at HEQ ⊢
 clear hE hpg z1 z2 z3 z4 z5 HPG HE
 go_enter Tryz.func18,Tryz.ntmps18
 go_upto_region 1 with fail
 have hb1:Blk w.heap.size [.slice cp cs.length cc,.slice gp gs.length gc,.slice sp ss.length sc,.slice op os.length oc,.slice hp hs.length hc,.slice tp ts.length tc] 28 (w.alloc (Obj.cells #[.slice cp cs.length cc,.slice gp gs.length gc,.slice sp ss.length sc,.slice op os.length oc,.slice hp hs.length hc,.slice tp ts.length tc] 28)):=Blk.new w _ _
 have hgV:Grew w (w.alloc (Obj.cells #[.slice cp cs.length cc,.slice gp gs.length gc,.slice sp ss.length sc,.slice op os.length oc,.slice hp hs.length hc,.slice tp ts.length tc] 28)):=(Grew.refl w).alloc _
 generalize (w.alloc (Obj.cells #[.slice cp cs.length cc,.slice gp gs.length gc,.slice sp ss.length sc,.slice op os.length oc,.slice hp hs.length hc,.slice tp ts.length tc] 28))=V at hb1 hgV ⊢
 generalize w.heap.size=T at hb1 ⊢
 have HGV:=zh hgV
 have d0:Atv ⟨T,0,none⟩ (.slice cp cs.length cc) V:=hb1.atv 0 rfl
 have d1:Atv ⟨T,1,none⟩ (.slice gp gs.length gc) V:=hb1.atv 1 rfl
 have d2:Atv ⟨T,2,none⟩ (.slice sp ss.length sc) V:=hb1.atv 2 rfl
 have d3:Atv ⟨T,3,none⟩ (.slice op os.length oc) V:=hb1.atv 3 rfl
 have d4:Atv ⟨T,4,none⟩ (.slice hp hs.length hc) V:=hb1.atv 4 rfl
 have d5:Atv ⟨T,5,none⟩ (.slice tp ts.length tc) V:=hb1.atv 5 rfl
 clear hb1 hgV
 refine wp_postsL [some 3,some 4,some 5,some 6,some 7,some 8,some 9,some 10,some 11,some 12,some 13,some 14,some 15,some 16,some 17,some 18,some 19,some 20,some 21,some 22,some 23,some 24,some 25,some 26,some 27,some 28,some 29,some 30,some 2] (Zfb (Zte (Ztd (Ztc (Zta []))))) [fun v _=>v=.pointer (some ⟨T,0,none⟩),fun v _=>v=.slice cp (cs.length) (cc),fun v _=>v=.bool (cs.all (fun c:Cn=>okC c.s c.v)),fun v _=>v=.bool (cs.all (fun c:Cn=>okC c.s c.v)),fun v _=>Zg ((cs.all (fun c:Cn=>okC c.s c.v))=true) (.pointer (some ⟨T,1,none⟩)) v,fun v _=>Zg ((cs.all (fun c:Cn=>okC c.s c.v))=true) (.slice gp (gs.length) (gc)) v,fun v _=>Zg ((cs.all (fun c:Cn=>okC c.s c.v))=true) (.bool (gs.all (fun c:Gl=>okG c.s c.l c.i))) v,fun v _=>v=.bool ((cs.all (fun c:Cn=>okC c.s c.v))&&(gs.all (fun c:Gl=>okG c.s c.l c.i))),fun v _=>v=.bool ((cs.all (fun c:Cn=>okC c.s c.v))&&(gs.all (fun c:Gl=>okG c.s c.l c.i))),fun v _=>Zg (((cs.all (fun c:Cn=>okC c.s c.v))&&(gs.all (fun c:Gl=>okG c.s c.l c.i)))=true) (.pointer (some ⟨T,2,none⟩)) v,fun v _=>Zg (((cs.all (fun c:Cn=>okC c.s c.v))&&(gs.all (fun c:Gl=>okG c.s c.l c.i)))=true) (.slice sp (ss.length) (sc)) v,fun v _=>Zg (((cs.all (fun c:Cn=>okC c.s c.v))&&(gs.all (fun c:Gl=>okG c.s c.l c.i)))=true) (.bool (ss.all (fun s:ByteArray=>idn s))) v,fun v _=>v=.bool (((cs.all (fun c:Cn=>okC c.s c.v))&&(gs.all (fun c:Gl=>okG c.s c.l c.i)))&&(ss.all (fun s:ByteArray=>idn s))),fun v _=>v=.bool (((cs.all (fun c:Cn=>okC c.s c.v))&&(gs.all (fun c:Gl=>okG c.s c.l c.i)))&&(ss.all (fun s:ByteArray=>idn s))),fun v _=>Zg ((((cs.all (fun c:Cn=>okC c.s c.v))&&(gs.all (fun c:Gl=>okG c.s c.l c.i)))&&(ss.all (fun s:ByteArray=>idn s)))=true) (.pointer (some ⟨T,3,none⟩)) v,fun v _=>Zg ((((cs.all (fun c:Cn=>okC c.s c.v))&&(gs.all (fun c:Gl=>okG c.s c.l c.i)))&&(ss.all (fun s:ByteArray=>idn s)))=true) (.slice op (os.length) (oc)) v,fun v _=>Zg ((((cs.all (fun c:Cn=>okC c.s c.v))&&(gs.all (fun c:Gl=>okG c.s c.l c.i)))&&(ss.all (fun s:ByteArray=>idn s)))=true) (.bool (os.all (fun s:ByteArray=>idn s))) v,fun v _=>v=.bool ((((cs.all (fun c:Cn=>okC c.s c.v))&&(gs.all (fun c:Gl=>okG c.s c.l c.i)))&&(ss.all (fun s:ByteArray=>idn s)))&&(os.all (fun s:ByteArray=>idn s))),fun v _=>v=.bool ((((cs.all (fun c:Cn=>okC c.s c.v))&&(gs.all (fun c:Gl=>okG c.s c.l c.i)))&&(ss.all (fun s:ByteArray=>idn s)))&&(os.all (fun s:ByteArray=>idn s))),fun v _=>Zg (((((cs.all (fun c:Cn=>okC c.s c.v))&&(gs.all (fun c:Gl=>okG c.s c.l c.i)))&&(ss.all (fun s:ByteArray=>idn s)))&&(os.all (fun s:ByteArray=>idn s)))=true) (.pointer (some ⟨T,4,none⟩)) v,fun v _=>Zg (((((cs.all (fun c:Cn=>okC c.s c.v))&&(gs.all (fun c:Gl=>okG c.s c.l c.i)))&&(ss.all (fun s:ByteArray=>idn s)))&&(os.all (fun s:ByteArray=>idn s)))=true) (.slice hp (hs.length) (hc)) v,fun v _=>Zg (((((cs.all (fun c:Cn=>okC c.s c.v))&&(gs.all (fun c:Gl=>okG c.s c.l c.i)))&&(ss.all (fun s:ByteArray=>idn s)))&&(os.all (fun s:ByteArray=>idn s)))=true) (.bool (hs.all (fun c:Cn=>okH c.s c.v))) v,fun v _=>v=.bool (((((cs.all (fun c:Cn=>okC c.s c.v))&&(gs.all (fun c:Gl=>okG c.s c.l c.i)))&&(ss.all (fun s:ByteArray=>idn s)))&&(os.all (fun s:ByteArray=>idn s)))&&(hs.all (fun c:Cn=>okH c.s c.v))),fun v _=>v=.bool (((((cs.all (fun c:Cn=>okC c.s c.v))&&(gs.all (fun c:Gl=>okG c.s c.l c.i)))&&(ss.all (fun s:ByteArray=>idn s)))&&(os.all (fun s:ByteArray=>idn s)))&&(hs.all (fun c:Cn=>okH c.s c.v))),fun v _=>Zg ((((((cs.all (fun c:Cn=>okC c.s c.v))&&(gs.all (fun c:Gl=>okG c.s c.l c.i)))&&(ss.all (fun s:ByteArray=>idn s)))&&(os.all (fun s:ByteArray=>idn s)))&&(hs.all (fun c:Cn=>okH c.s c.v)))=true) (.pointer (some ⟨T,5,none⟩)) v,fun v _=>Zg ((((((cs.all (fun c:Cn=>okC c.s c.v))&&(gs.all (fun c:Gl=>okG c.s c.l c.i)))&&(ss.all (fun s:ByteArray=>idn s)))&&(os.all (fun s:ByteArray=>idn s)))&&(hs.all (fun c:Cn=>okH c.s c.v)))=true) (.slice tp (ts.length) (tc)) v,fun v _=>Zg ((((((cs.all (fun c:Cn=>okC c.s c.v))&&(gs.all (fun c:Gl=>okG c.s c.l c.i)))&&(ss.all (fun s:ByteArray=>idn s)))&&(os.all (fun s:ByteArray=>idn s)))&&(hs.all (fun c:Cn=>okH c.s c.v)))=true) (.bool (ts.all okT)) v,fun v _=>v=.bool ((((((cs.all (fun c:Cn=>okC c.s c.v))&&(gs.all (fun c:Gl=>okG c.s c.l c.i)))&&(ss.all (fun s:ByteArray=>idn s)))&&(os.all (fun s:ByteArray=>idn s)))&&(hs.all (fun c:Cn=>okH c.s c.v)))&&(ts.all okT)),fun v _=>v=.bool ((((((cs.all (fun c:Cn=>okC c.s c.v))&&(gs.all (fun c:Gl=>okG c.s c.l c.i)))&&(ss.all (fun s:ByteArray=>idn s)))&&(os.all (fun s:ByteArray=>idn s)))&&(hs.all (fun c:Cn=>okH c.s c.v)))&&(ts.all okT))] (by kernel_rfl) rfl ?_ ⟨?_,?_,?_,?_,?_,?_,?_,?_,?_,?_,?_,?_,?_,?_,?_,?_,?_,?_,?_,?_,?_,?_,?_,?_,?_,?_,?_,?_,?_,trivial⟩ ?_
 ·exact⟨Zi,Zi,Zi,Zi,Zi,Zi,Zi,Zi,Zi,Zi,Zi,Zi,Zi,Zi,Zi,Zi,Zi,Zi,Zi,Zi,Zi,Zi,Zi,Zi,Zi,Zi,Zi,Zi,Zi,trivial⟩
 ·intro u w hR hd;exact rn_fld_28_0 (ev rfl) Zr
 ·intro u w hR hd;exact rn_ld_22 (ev (hd.1 rfl)) (d0.kept hR) Zr
 ·intro u w hR hd;exact runs_c2 en_evC (ev (hd.1 rfl)) rfl (callp (fun _ e=>e) (HC.out _ (HGV.out.trans hR)))
 ·intro u w hR hd;exact runs_mv (ev (hd.1 rfl)) Zr
 ·intro u w hR hd;exact⟨fun hg=>have hG:=Zh (hd.1 rfl) hg;rn_fld_28_1 (ev rfl) (Zs hG),Zn (hd.1 rfl)⟩
 ·intro u w hR hd;exact⟨fun hg=>have hG:=Zh (hd.2.1 rfl) hg;rn_ld_23 (ev ((hd.1 rfl).1 hG)) (d1.kept hR) (Zs hG),Zn (hd.2.1 rfl)⟩
 ·intro u w hR hd;exact⟨fun hg=>have hG:=Zh (hd.2.1 rfl) hg;runs_c2 en_evG (ev ((hd.1 rfl).1 hG)) rfl (callp (fun _ e=>⟨fun _=>e,fun hn=>absurd hG hn⟩) (HGl.out _ (HGV.out.trans hR))),Zn (hd.2.1 rfl)⟩
 ·intro u w hR hd;exact runs_an (ev (hd.1 rfl)) (fun hb=>ev ((hd.2.1 rfl).1 hb)) Zr
 ·intro u w hR hd;exact runs_mv (ev (hd.1 rfl)) Zr
 ·intro u w hR hd;exact⟨fun hg=>have hG:=Zh (hd.1 rfl) hg;rn_fld_28_2 (ev rfl) (Zs hG),Zn (hd.1 rfl)⟩
 ·intro u w hR hd;exact⟨fun hg=>have hG:=Zh (hd.2.1 rfl) hg;rn_ld_24 (ev ((hd.1 rfl).1 hG)) (d2.kept hR) (Zs hG),Zn (hd.2.1 rfl)⟩
 ·intro u w hR hd;exact⟨fun hg=>have hG:=Zh (hd.2.1 rfl) hg;runs_c2 en_evN (ev ((hd.1 rfl).1 hG)) rfl (callp (fun _ e=>⟨fun _=>e,fun hn=>absurd hG hn⟩) (HS1.out _ (HGV.out.trans hR))),Zn (hd.2.1 rfl)⟩
 ·intro u w hR hd;exact runs_an (ev (hd.1 rfl)) (fun hb=>ev ((hd.2.1 rfl).1 hb)) Zr
 ·intro u w hR hd;exact runs_mv (ev (hd.1 rfl)) Zr
 ·intro u w hR hd;exact⟨fun hg=>have hG:=Zh (hd.1 rfl) hg;rn_fld_28_3 (ev rfl) (Zs hG),Zn (hd.1 rfl)⟩
 ·intro u w hR hd;exact⟨fun hg=>have hG:=Zh (hd.2.1 rfl) hg;rn_ld_24 (ev ((hd.1 rfl).1 hG)) (d3.kept hR) (Zs hG),Zn (hd.2.1 rfl)⟩
 ·intro u w hR hd;exact⟨fun hg=>have hG:=Zh (hd.2.1 rfl) hg;runs_c2 en_evN (ev ((hd.1 rfl).1 hG)) rfl (callp (fun _ e=>⟨fun _=>e,fun hn=>absurd hG hn⟩) (HS2.out _ (HGV.out.trans hR))),Zn (hd.2.1 rfl)⟩
 ·intro u w hR hd;exact runs_an (ev (hd.1 rfl)) (fun hb=>ev ((hd.2.1 rfl).1 hb)) Zr
 ·intro u w hR hd;exact runs_mv (ev (hd.1 rfl)) Zr
 ·intro u w hR hd;exact⟨fun hg=>have hG:=Zh (hd.1 rfl) hg;rn_fld_28_4 (ev rfl) (Zs hG),Zn (hd.1 rfl)⟩
 ·intro u w hR hd;exact⟨fun hg=>have hG:=Zh (hd.2.1 rfl) hg;rn_ld_25 (ev ((hd.1 rfl).1 hG)) (d4.kept hR) (Zs hG),Zn (hd.2.1 rfl)⟩
 ·intro u w hR hd;exact⟨fun hg=>have hG:=Zh (hd.2.1 rfl) hg;runs_c2 en_evH (ev ((hd.1 rfl).1 hG)) rfl (callp (fun _ e=>⟨fun _=>e,fun hn=>absurd hG hn⟩) (HH.out _ (HGV.out.trans hR))),Zn (hd.2.1 rfl)⟩
 ·intro u w hR hd;exact runs_an (ev (hd.1 rfl)) (fun hb=>ev ((hd.2.1 rfl).1 hb)) Zr
 ·intro u w hR hd;exact runs_mv (ev (hd.1 rfl)) Zr
 ·intro u w hR hd;exact⟨fun hg=>have hG:=Zh (hd.1 rfl) hg;rn_fld_28_5 (ev rfl) (Zs hG),Zn (hd.1 rfl)⟩
 ·intro u w hR hd;exact⟨fun hg=>have hG:=Zh (hd.2.1 rfl) hg;rn_ld_26 (ev ((hd.1 rfl).1 hG)) (d5.kept hR) (Zs hG),Zn (hd.2.1 rfl)⟩
 ·intro u w hR hd;exact⟨fun hg=>have hG:=Zh (hd.2.1 rfl) hg;runs_c2 en_evT (ev ((hd.1 rfl).1 hG)) rfl (callp (fun _ e=>⟨fun _=>e,fun hn=>absurd hG hn⟩) (HT.out _ (HGV.out.trans hR))),Zn (hd.2.1 rfl)⟩
 ·intro u w hR hd;exact runs_an (ev (hd.1 rfl)) (fun hb=>ev ((hd.2.1 rfl).1 hb)) Zr
 ·intro u w hR hd;exact runs_mva (ev (hd.1 rfl)) Zr
 ·intro u w4 hR hh
  have he:u 2=.bool ((((((cs.all (fun c:Cn=>okC c.s c.v))&&(gs.all (fun c:Gl=>okG c.s c.l c.i)))&&(ss.all (fun s:ByteArray=>idn s)))&&(os.all (fun s:ByteArray=>idn s)))&&(hs.all (fun c:Cn=>okH c.s c.v)))&&(ts.all okT)):=hh 28 (by decide)
  rw [HEQ.out] at he
  simp only [mixA,mixL,zz9,zz0,he]
  have HG4:Hid (Grew w w4):=zh (HGV.out.trans hR)
  clear hh he hR d0 d1 d2 d3 d4 d5 HGV
  go_wp2
  go_ret
  exact⟨rfl,HG4.out⟩
def sumF {α:Type}(F:α→Nat) (l:List α):Nat:=(l.map F).sum
def maxF {α:Type}(F:α→Nat) (l:List α):Nat:=l.foldr (fun x m=>max (F x) m) 0
section
variable {α:Type}{F:α→Nat}
theorem sumF_cons (x:α) (l:List α):sumF F (x :: l)=F x+sumF F l:=by rw [sumF,List.map_cons,List.sum_cons];rfl
theorem maxF_cons (x:α) (l:List α):maxF F (x :: l)=max (F x) (maxF F l):=rfl
theorem sumF_append (a b:List α):sumF F (a++b)=sumF F a+sumF F b:=by
 induction a with
 | nil=>simp [sumF]
 | cons x a ih=>rw [List.cons_append,sumF_cons,sumF_cons,ih,Nat.add_assoc]
theorem maxF_append (a b:List α):maxF F (a++b)=max (maxF F a) (maxF F b):=by
 induction a with
 | nil=>rw [List.nil_append];show _=max 0 _;rw [Nat.zero_max]
 | cons x a ih=>rw [List.cons_append,maxF_cons,maxF_cons,ih,Nat.max_assoc]
theorem sumF_snoc {l:List α}{j:Nat}{x:α}(h:l.take (j+1)=l.take j++[x]):sumF F (l.take (j+1))=sumF F (l.take j)+F x:=by
 rw [h,sumF_append,sumF_cons];rfl
theorem maxF_snoc {l:List α}{j:Nat}{x:α}(h:l.take (j+1)=l.take j++[x]):maxF F (l.take (j+1))=max (maxF F (l.take j)) (F x):=by
 rw [h,maxF_append,maxF_cons];show max _ (max _ 0)=_;rw [Nat.max_zero]
theorem sumF_take (l:List α) (n:Nat):sumF F (l.take n)≤sumF F l:=by
 have h:=sumF_append (F:=F) (l.take n) (l.drop n)
 rw [List.take_append_drop] at h
 omega
theorem maxF_le {l:List α}{B:Nat}(h:∀x ∈ l,F x≤B):maxF F l≤B:=by
 induction l with
 | nil=>exact Nat.zero_le _
 | cons x l ih =>
   have h1:=h x (List.mem_cons_self ..)
   have h2:=ih fun y hy=>h y (List.mem_cons_of_mem _ hy)
   rw [maxF_cons]
   omega
end
theorem nXs_sum:∀l:List Xp,nXs l=sumF nX l
 | []=>rfl
 | x :: l=>by rw [nXs,sumF_cons,nXs_sum l]
def zSm (x:Sm):Nat:=nS x+mS x
theorem zS_sum:∀l:List Sm,nSs l+mSs l=sumF zSm l
 | []=>rfl
 | x :: l=>by rw [nSs,mSs,sumF_cons,← zS_sum l,zSm];omega
theorem zT_sum:∀l:List Ta,zT l=sumF (fun t=>nSs t.b+mSs t.b) l
 | []=>rfl
 | x :: l=>by rw [zT,sumF_cons,zT_sum l]
theorem dXs_max:∀l:List Xp,dXs l=maxF dX l
 | []=>rfl
 | x :: l=>by rw [dXs,maxF_cons,dXs_max l]
theorem dSs_max:∀l:List Sm,dSs l=maxF dS l
 | []=>rfl
 | x :: l=>by rw [dSs,maxF_cons,dSs_max l]
theorem dT_max:∀l:List Ta,dT l=maxF (fun t=>dSs t.b) l
 | []=>rfl
 | x :: l=>by rw [dT,maxF_cons,dT_max l]
theorem runs_max3 {dst:Option Tmp}{pos:String}{after:Array Edge}{g:Option (Nat × Bool)}{a:Act}{w:World}{T:Value→World→Prop}{x y z:Operand}{b c d:Nat}(hx:a.eval x=.int .i64 (b:Int)) (hy:a.eval y=.int .i64 (c:Int)) (hz:a.eval z=.int .i64 (d:Int)) (h:T (.int .i64 ((max (max b c) d:Nat):Int)) w):Runs Tryz.prog ⟨dst,.call { callee:=.builtin .max,args:=#[x,y,z],argTypes:=#[3,3,3] },3,pos,after,g⟩ a w T:=by
 refine Runs.value (v:=.int .i64 ((max (max b c) d:Nat):Int)) (w':=w) ?_ h
 simp only [execOp,resolve,invoke,builtin]
 by_cases h1:b < c
 ·have e1:max b c=c:=by omega
  have h2:(b:Int) < (c:Int):=by omega
  rw [e1]
  by_cases h3:c < d
  ·have e2:max c d=d:=by omega
   have h4:(c:Int) < (d:Int):=by omega
   rw [e2]
   simp [hx,hy,hz,Result.andThen]
   go_simp
  ·have e2:max c d=c:=by omega
   have h4:¬ (c:Int) < (d:Int):=by omega
   rw [e2]
   simp [hx,hy,hz,Result.andThen]
   go_simp
 ·have e1:max b c=b:=by omega
  have h2:¬ (b:Int) < (c:Int):=by omega
  rw [e1]
  by_cases h3:b < d
  ·have e2:max b d=d:=by omega
   have h4:(b:Int) < (d:Int):=by omega
   rw [e2]
   simp [hx,hy,hz,Result.andThen]
   go_simp
  ·have e2:max b d=b:=by omega
   have h4:¬ (b:Int) < (d:Int):=by omega
   rw [e2]
   simp [hx,hy,hz,Result.andThen]
   go_simp
theorem en_ss:Enters Tryz.prog 84:=fun args w=>by go_simp
theorem en_xs:Enters Tryz.prog 122:=fun args w=>by go_simp
theorem en_ts:Enters Tryz.prog 82:=fun args w=>by go_simp
theorem en_sd:Enters Tryz.prog 88:=fun args w=>by go_simp
theorem en_xd:Enters Tryz.prog 124:=fun args w=>by go_simp
theorem en_td:Enters Tryz.prog 86:=fun args w=>by go_simp
theorem en_toX:Enters Tryz.prog 121:=fun args w=>by go_simp
theorem en_toS:Enters Tryz.prog 83:=fun args w=>by go_simp
theorem en_grX:Enters Tryz.prog 123:=fun args w=>by go_simp
theorem en_grS:Enters Tryz.prog 87:=fun args w=>by go_simp
set_option maxHeartbeats 8000000 in
theorem totalX_any (g:FuncId) (cb:Array Value) (eg:∀args w,(callFunc g args).run Tryz.prog w=.ok (.enter g args) w) (l:List Xp) (F:Xp→Nat) (B:Nat→Prop) (w:World) (p:Option Addr) (c:Nat) (hx:XL B w p c l) (hB:sumF F l≤4194304)
 (hf:∀x ∈ l,∀(p_:Option Addr) (c_:Nat) (W:World),XL B W p_ c_ x.ar→x.s.size≤1048576∧x.v≤32767→Grew w W→Calls Tryz.prog g (#[xv x.k x.s x.v x.o p_ x.ar.length c_ x.q]++cb) W fun e w'=>e=.returned (.int .i64 (F x:Nat))∧Grew W w') :
 Calls Tryz.prog 121 #[.slice p l.length c,.func (.func g) #[] cb] w fun e w'=>e=.returned (.int .i64 (sumF F l:Nat))∧Grew w w':=by
 have HX:=zh hx
 have HF:=zh hf
 have HB:=zh hB
 have hcap:l.length≤c:=hx.cap.1
 have hmax:=hx.cap.2.1
 clear hx hf hB
 go_enter Tryz.func121,Tryz.ntmps121
 go_wp2
 go_loopg [5,7,10] l.length (fun gg sv_ xv_ iv wr=>∃(j s:Nat),sv_=.int .i64 (s:Int)∧iv=.int .i64 (j:Int)∧j≤l.length∧gg=l.length - j∧Hid (s=sumF F (l.take j))∧Hid (Grew w wr))
 case atStart=>exact⟨0,0,rfl,rfl,Nat.zero_le _,rfl,zh rfl,zh (Grew.refl _)⟩
 case round =>
  obtain ⟨j,s,rfl,rfl,hj,rfl,HS,HG⟩:=hrel
  by_cases hlt:j < l.length
  ·
   obtain ⟨bz,oz,pz,cz,rfl,hbz,haz,hcz⟩:=HX.out.get j hlt
   have hmz:=List.getElem_mem hlt
   have hnz:=nXs_mem hmz
   have htz:=List.take_succ_eq_append_getElem hlt
   have HLz:=zh (Nat.succ_le_of_lt hlt)
   generalize l[j]=xz at *
   obtain ⟨kz,sz,vz,o_z,rz,qz⟩:=xz
   replace hbz:sz.size≤1048576∧vz≤32767:=hbz.2
   have HTz:=zh htz
   have HAz:Hid (XL B w pz cz rz):=zh haz
   have hcapz:rz.length≤cz:=haz.cap.1
   have hmaxz:=haz.cap.2.1
   replace hcz:∀i_ u_,(xdc ⟨kz,sz,vz,o_z,pz,rz.length,cz,qz⟩)[i_]?=some u_→wr.cell? ⟨bz,oz+j * 6+i_,none⟩=some u_:=fun i_ u_ h_=>Atv.kept (hcz i_ u_ h_) HG.out
   have cz0:wr.cell? ⟨bz,oz+j * 6,none⟩=some (.int .i64 kz):=by simpa using hcz 0 _ rfl
   have cz1:wr.cell? ⟨bz,oz+j * 6+1,none⟩=some (.string sz):=hcz 1 _ rfl
   have cz2:wr.cell? ⟨bz,oz+j * 6+2,none⟩=some (.int .i16 vz):=hcz 2 _ rfl
   have cz3:wr.cell? ⟨bz,oz+j * 6+3,none⟩=some (.int .i64 o_z):=hcz 3 _ rfl
   have cz4:wr.cell? ⟨bz,oz+j * 6+4,none⟩=some (.slice pz rz.length cz):=hcz 4 _ rfl
   have cz5:wr.cell? ⟨bz,oz+j * 6+5,none⟩=some (.int .i64 qz):=hcz 5 _ rfl
   clear hcz haz htz
   obtain ⟨d,hd⟩:∃d,F ⟨kz,sz,vz,o_z,rz,qz⟩=d:=⟨_,rfl⟩
   have HD:=zh hd
   have HC:=zh (fun W (hW:Grew w W)=>(show Calls Tryz.prog g (#[xv kz sz vz o_z pz rz.length cz qz]++cb) W fun e w'=>e=.returned (.int .i64 (d:Nat))∧Grew W w' from hd ▸ HF.out ⟨kz,sz,vz,o_z,rz,qz⟩ hmz pz cz _ (HAz.out.kept hW) hbz hW))
   have hsd:s≤4194304∧d≤4194304:=by have h1:=sumF_take (F:=F) l (j+1);rw [sumF_snoc HTz.out,← HS.out,hd] at h1;have:=HB.out;omega
   obtain ⟨hs1,hd1⟩:=hsd
   clear hmz hd HF HB
   go_wp2_with (go_at_fn g;refine(HC.out _ (HG.out.alloc _)).mono ?_;rintro e w1 ⟨rfl,g1⟩;have HG1:=zh ((HG.out.alloc _).trans g1);clear g1)
   all_goals
    go_roundg (l.length - (j+1))
    case measure=>have:=HLz.out;omega
    case rel=>exact⟨j+1,_,by go_num,by go_num,HLz.out,rfl,zh (by rw [sumF_snoc HTz.out,← HS.out,HD.out]),HG1⟩
  ·obtain rfl:j=l.length:=by omega
   rw [List.take_length] at HS
   go_wp2
   go_ret
   exact⟨congrArg (fun z:Nat=>Ending.returned (.int .i64 (z:Int))) HS.out,HG.out⟩
set_option maxHeartbeats 8000000 in
theorem greatX_any (g:FuncId) (cb:Array Value) (eg:∀args w,(callFunc g args).run Tryz.prog w=.ok (.enter g args) w) (l:List Xp) (F:Xp→Nat) (B:Nat→Prop) (w:World) (p:Option Addr) (c:Nat) (hx:XL B w p c l) (hB:∀x ∈ l,F x≤4194304)
 (hf:∀x ∈ l,∀(p_:Option Addr) (c_:Nat) (W:World),XL B W p_ c_ x.ar→x.s.size≤1048576∧x.v≤32767→Grew w W→Calls Tryz.prog g (#[xv x.k x.s x.v x.o p_ x.ar.length c_ x.q]++cb) W fun e w'=>e=.returned (.int .i64 (F x:Nat))∧Grew W w') :
 Calls Tryz.prog 123 #[.slice p l.length c,.func (.func g) #[] cb] w fun e w'=>e=.returned (.int .i64 (maxF F l:Nat))∧Grew w w':=by
 have HX:=zh hx
 have HF:=zh hf
 have HB:=zh hB
 have hcap:l.length≤c:=hx.cap.1
 have hmax:=hx.cap.2.1
 clear hx hf hB
 go_enter Tryz.func123,Tryz.ntmps123
 go_wp2
 go_loopg [5,7,10] l.length (fun gg sv_ xv_ iv wr=>∃(j s:Nat),sv_=.int .i64 (s:Int)∧iv=.int .i64 (j:Int)∧j≤l.length∧gg=l.length - j∧Hid (s=maxF F (l.take j))∧Hid (Grew w wr))
 case atStart=>exact⟨0,0,rfl,rfl,Nat.zero_le _,rfl,zh rfl,zh (Grew.refl _)⟩
 case round =>
  obtain ⟨j,s,rfl,rfl,hj,rfl,HS,HG⟩:=hrel
  by_cases hlt:j < l.length
  ·
   obtain ⟨bz,oz,pz,cz,rfl,hbz,haz,hcz⟩:=HX.out.get j hlt
   have hmz:=List.getElem_mem hlt
   have hnz:=nXs_mem hmz
   have htz:=List.take_succ_eq_append_getElem hlt
   have HLz:=zh (Nat.succ_le_of_lt hlt)
   generalize l[j]=xz at *
   obtain ⟨kz,sz,vz,o_z,rz,qz⟩:=xz
   replace hbz:sz.size≤1048576∧vz≤32767:=hbz.2
   have HTz:=zh htz
   have HAz:Hid (XL B w pz cz rz):=zh haz
   have hcapz:rz.length≤cz:=haz.cap.1
   have hmaxz:=haz.cap.2.1
   replace hcz:∀i_ u_,(xdc ⟨kz,sz,vz,o_z,pz,rz.length,cz,qz⟩)[i_]?=some u_→wr.cell? ⟨bz,oz+j * 6+i_,none⟩=some u_:=fun i_ u_ h_=>Atv.kept (hcz i_ u_ h_) HG.out
   have cz0:wr.cell? ⟨bz,oz+j * 6,none⟩=some (.int .i64 kz):=by simpa using hcz 0 _ rfl
   have cz1:wr.cell? ⟨bz,oz+j * 6+1,none⟩=some (.string sz):=hcz 1 _ rfl
   have cz2:wr.cell? ⟨bz,oz+j * 6+2,none⟩=some (.int .i16 vz):=hcz 2 _ rfl
   have cz3:wr.cell? ⟨bz,oz+j * 6+3,none⟩=some (.int .i64 o_z):=hcz 3 _ rfl
   have cz4:wr.cell? ⟨bz,oz+j * 6+4,none⟩=some (.slice pz rz.length cz):=hcz 4 _ rfl
   have cz5:wr.cell? ⟨bz,oz+j * 6+5,none⟩=some (.int .i64 qz):=hcz 5 _ rfl
   clear hcz haz htz
   obtain ⟨d,hd⟩:∃d,F ⟨kz,sz,vz,o_z,rz,qz⟩=d:=⟨_,rfl⟩
   have HD:=zh hd
   have HC:=zh (fun W (hW:Grew w W)=>(show Calls Tryz.prog g (#[xv kz sz vz o_z pz rz.length cz qz]++cb) W fun e w'=>e=.returned (.int .i64 (d:Nat))∧Grew W w' from hd ▸ HF.out ⟨kz,sz,vz,o_z,rz,qz⟩ hmz pz cz _ (HAz.out.kept hW) hbz hW))
   have hsd:s≤4194304∧d≤4194304:=⟨by rw [HS.out];exact maxF_le fun x hx=>HB.out x (List.mem_of_mem_take hx),hd ▸ HB.out _ hmz⟩
   obtain ⟨hs1,hd1⟩:=hsd
   clear hmz hd HF HB
   go_wp2_with (go_at_fn g;refine(HC.out _ (HG.out.alloc _)).mono ?_;rintro e w1 ⟨rfl,g1⟩;have HG1:=zh ((HG.out.alloc _).trans g1);clear g1)
   all_goals
    go_roundg (l.length - (j+1))
    case measure=>have:=HLz.out;omega
    case rel=>exact⟨j+1,max s d,congrArg (Value.int .i64) (by omega),by go_num,HLz.out,rfl,zh (by rw [maxF_snoc HTz.out,← HS.out,HD.out]),HG1⟩
  ·obtain rfl:j=l.length:=by omega
   rw [List.take_length] at HS
   go_wp2
   go_ret
   exact⟨congrArg (fun z:Nat=>Ending.returned (.int .i64 (z:Int))) HS.out,HG.out⟩
set_option maxHeartbeats 8000000 in
theorem totalS_any (g:FuncId) (cb:Array Value) (eg:∀args w,(callFunc g args).run Tryz.prog w=.ok (.enter g args) w) (l:List Sm) (F:Sm→Nat) (B:Nat→Prop) (w:World) (p:Option Addr) (c:Nat) (hx:SL B w p c l) (hB:sumF F l≤4194304)
 (hf:∀x ∈ l,∀(pa_:Option Addr) (ca_:Nat) (pb_:Option Addr) (cb_:Nat) (pe_:Option Addr) (ce_:Nat) (W:World),XL B W pa_ ca_ x.ar→SL B W pb_ cb_ x.b→SL B W pe_ ce_ x.e→x.s.size≤1048576→Grew w W→Calls Tryz.prog g (#[sv x.k x.s x.n pa_ x.ar.length ca_ pb_ x.b.length cb_ pe_ x.e.length ce_ x.q]++cb) W fun e w'=>e=.returned (.int .i64 (F x:Nat))∧Grew W w') :
 Calls Tryz.prog 83 #[.slice p l.length c,.func (.func g) #[] cb] w fun e w'=>e=.returned (.int .i64 (sumF F l:Nat))∧Grew w w':=by
 have HX:=zh hx
 have HF:=zh hf
 have HB:=zh hB
 have hcap:l.length≤c:=hx.cap.1
 have hmax:=hx.cap.2.1
 clear hx hf hB
 go_enter Tryz.func83,Tryz.ntmps83
 go_wp2
 go_loopg [5,7,10] l.length (fun gg sv_ xv_ iv wr=>∃(j s:Nat),sv_=.int .i64 (s:Int)∧iv=.int .i64 (j:Int)∧j≤l.length∧gg=l.length - j∧Hid (s=sumF F (l.take j))∧Hid (Grew w wr))
 case atStart=>exact⟨0,0,rfl,rfl,Nat.zero_le _,rfl,zh rfl,zh (Grew.refl _)⟩
 case round =>
  obtain ⟨j,s,rfl,rfl,hj,rfl,HS,HG⟩:=hrel
  by_cases hlt:j < l.length
  ·
   obtain ⟨bz,oz,paz,caz,pbz,cbz,pez,cez,rfl,hbz,haz,hboz,helz,hcz⟩:=HX.out.get j hlt
   have hmz:=List.getElem_mem hlt
   have hnz:=nSs_mem hmz
   have htz:=List.take_succ_eq_append_getElem hlt
   have HLz:=zh (Nat.succ_le_of_lt hlt)
   generalize l[j]=xz at *
   obtain ⟨kz,sz,nz,rz,yz,ez,qz⟩:=xz
   replace hbz:sz.size≤1048576:=hbz.2
   have HTz:=zh htz
   have HAz:Hid (XL B w paz caz rz):=zh haz
   have HYz:Hid (SL B w pbz cbz yz):=zh hboz
   have HEz:Hid (SL B w pez cez ez):=zh helz
   have hcapz:rz.length≤caz∧yz.length≤cbz∧ez.length≤cez:=⟨haz.cap.1,hboz.cap.1,helz.cap.1⟩
   have hmaxz:=And.intro haz.cap.2.1 (And.intro hboz.cap.2.1 helz.cap.2.1)
   replace hcz:∀i_ u_,(sdc ⟨kz,sz,nz,paz,rz.length,caz,pbz,yz.length,cbz,pez,ez.length,cez,qz⟩)[i_]?=some u_→wr.cell? ⟨bz,oz+j * 7+i_,none⟩=some u_:=fun i_ u_ h_=>Atv.kept (hcz i_ u_ h_) HG.out
   have cz0:wr.cell? ⟨bz,oz+j * 7,none⟩=some (.int .i64 kz):=by simpa using hcz 0 _ rfl
   have cz1:wr.cell? ⟨bz,oz+j * 7+1,none⟩=some (.string sz):=hcz 1 _ rfl
   have cz2:wr.cell? ⟨bz,oz+j * 7+2,none⟩=some (.int .i64 nz):=hcz 2 _ rfl
   have cz3:wr.cell? ⟨bz,oz+j * 7+3,none⟩=some (.slice paz rz.length caz):=hcz 3 _ rfl
   have cz4:wr.cell? ⟨bz,oz+j * 7+4,none⟩=some (.slice pbz yz.length cbz):=hcz 4 _ rfl
   have cz5:wr.cell? ⟨bz,oz+j * 7+5,none⟩=some (.slice pez ez.length cez):=hcz 5 _ rfl
   have cz6:wr.cell? ⟨bz,oz+j * 7+6,none⟩=some (.int .i64 qz):=hcz 6 _ rfl
   clear hcz haz hboz helz htz
   obtain ⟨d,hd⟩:∃d,F ⟨kz,sz,nz,rz,yz,ez,qz⟩=d:=⟨_,rfl⟩
   have HD:=zh hd
   have HC:=zh (fun W (hW:Grew w W)=>(show Calls Tryz.prog g (#[sv kz sz nz paz rz.length caz pbz yz.length cbz pez ez.length cez qz]++cb) W fun e w'=>e=.returned (.int .i64 (d:Nat))∧Grew W w' from hd ▸ HF.out ⟨kz,sz,nz,rz,yz,ez,qz⟩ hmz paz caz pbz cbz pez cez _ (HAz.out.kept hW) (HYz.out.kept hW) (HEz.out.kept hW) hbz hW))
   have hsd:s≤4194304∧d≤4194304:=by have h1:=sumF_take (F:=F) l (j+1);rw [sumF_snoc HTz.out,← HS.out,hd] at h1;have:=HB.out;omega
   obtain ⟨hs1,hd1⟩:=hsd
   clear hmz hd HF HB
   go_wp2_with (go_at_fn g;refine(HC.out _ (HG.out.alloc _)).mono ?_;rintro e w1 ⟨rfl,g1⟩;have HG1:=zh ((HG.out.alloc _).trans g1);clear g1)
   all_goals
    go_roundg (l.length - (j+1))
    case measure=>have:=HLz.out;omega
    case rel=>exact⟨j+1,_,by go_num,by go_num,HLz.out,rfl,zh (by rw [sumF_snoc HTz.out,← HS.out,HD.out]),HG1⟩
  ·obtain rfl:j=l.length:=by omega
   rw [List.take_length] at HS
   go_wp2
   go_ret
   exact⟨congrArg (fun z:Nat=>Ending.returned (.int .i64 (z:Int))) HS.out,HG.out⟩
set_option maxHeartbeats 8000000 in
theorem greatS_any (g:FuncId) (cb:Array Value) (eg:∀args w,(callFunc g args).run Tryz.prog w=.ok (.enter g args) w) (l:List Sm) (F:Sm→Nat) (B:Nat→Prop) (w:World) (p:Option Addr) (c:Nat) (hx:SL B w p c l) (hB:∀x ∈ l,F x≤4194304)
 (hf:∀x ∈ l,∀(pa_:Option Addr) (ca_:Nat) (pb_:Option Addr) (cb_:Nat) (pe_:Option Addr) (ce_:Nat) (W:World),XL B W pa_ ca_ x.ar→SL B W pb_ cb_ x.b→SL B W pe_ ce_ x.e→x.s.size≤1048576→Grew w W→Calls Tryz.prog g (#[sv x.k x.s x.n pa_ x.ar.length ca_ pb_ x.b.length cb_ pe_ x.e.length ce_ x.q]++cb) W fun e w'=>e=.returned (.int .i64 (F x:Nat))∧Grew W w') :
 Calls Tryz.prog 87 #[.slice p l.length c,.func (.func g) #[] cb] w fun e w'=>e=.returned (.int .i64 (maxF F l:Nat))∧Grew w w':=by
 have HX:=zh hx
 have HF:=zh hf
 have HB:=zh hB
 have hcap:l.length≤c:=hx.cap.1
 have hmax:=hx.cap.2.1
 clear hx hf hB
 go_enter Tryz.func87,Tryz.ntmps87
 go_wp2
 go_loopg [5,7,10] l.length (fun gg sv_ xv_ iv wr=>∃(j s:Nat),sv_=.int .i64 (s:Int)∧iv=.int .i64 (j:Int)∧j≤l.length∧gg=l.length - j∧Hid (s=maxF F (l.take j))∧Hid (Grew w wr))
 case atStart=>exact⟨0,0,rfl,rfl,Nat.zero_le _,rfl,zh rfl,zh (Grew.refl _)⟩
 case round =>
  obtain ⟨j,s,rfl,rfl,hj,rfl,HS,HG⟩:=hrel
  by_cases hlt:j < l.length
  ·
   obtain ⟨bz,oz,paz,caz,pbz,cbz,pez,cez,rfl,hbz,haz,hboz,helz,hcz⟩:=HX.out.get j hlt
   have hmz:=List.getElem_mem hlt
   have hnz:=nSs_mem hmz
   have htz:=List.take_succ_eq_append_getElem hlt
   have HLz:=zh (Nat.succ_le_of_lt hlt)
   generalize l[j]=xz at *
   obtain ⟨kz,sz,nz,rz,yz,ez,qz⟩:=xz
   replace hbz:sz.size≤1048576:=hbz.2
   have HTz:=zh htz
   have HAz:Hid (XL B w paz caz rz):=zh haz
   have HYz:Hid (SL B w pbz cbz yz):=zh hboz
   have HEz:Hid (SL B w pez cez ez):=zh helz
   have hcapz:rz.length≤caz∧yz.length≤cbz∧ez.length≤cez:=⟨haz.cap.1,hboz.cap.1,helz.cap.1⟩
   have hmaxz:=And.intro haz.cap.2.1 (And.intro hboz.cap.2.1 helz.cap.2.1)
   replace hcz:∀i_ u_,(sdc ⟨kz,sz,nz,paz,rz.length,caz,pbz,yz.length,cbz,pez,ez.length,cez,qz⟩)[i_]?=some u_→wr.cell? ⟨bz,oz+j * 7+i_,none⟩=some u_:=fun i_ u_ h_=>Atv.kept (hcz i_ u_ h_) HG.out
   have cz0:wr.cell? ⟨bz,oz+j * 7,none⟩=some (.int .i64 kz):=by simpa using hcz 0 _ rfl
   have cz1:wr.cell? ⟨bz,oz+j * 7+1,none⟩=some (.string sz):=hcz 1 _ rfl
   have cz2:wr.cell? ⟨bz,oz+j * 7+2,none⟩=some (.int .i64 nz):=hcz 2 _ rfl
   have cz3:wr.cell? ⟨bz,oz+j * 7+3,none⟩=some (.slice paz rz.length caz):=hcz 3 _ rfl
   have cz4:wr.cell? ⟨bz,oz+j * 7+4,none⟩=some (.slice pbz yz.length cbz):=hcz 4 _ rfl
   have cz5:wr.cell? ⟨bz,oz+j * 7+5,none⟩=some (.slice pez ez.length cez):=hcz 5 _ rfl
   have cz6:wr.cell? ⟨bz,oz+j * 7+6,none⟩=some (.int .i64 qz):=hcz 6 _ rfl
   clear hcz haz hboz helz htz
   obtain ⟨d,hd⟩:∃d,F ⟨kz,sz,nz,rz,yz,ez,qz⟩=d:=⟨_,rfl⟩
   have HD:=zh hd
   have HC:=zh (fun W (hW:Grew w W)=>(show Calls Tryz.prog g (#[sv kz sz nz paz rz.length caz pbz yz.length cbz pez ez.length cez qz]++cb) W fun e w'=>e=.returned (.int .i64 (d:Nat))∧Grew W w' from hd ▸ HF.out ⟨kz,sz,nz,rz,yz,ez,qz⟩ hmz paz caz pbz cbz pez cez _ (HAz.out.kept hW) (HYz.out.kept hW) (HEz.out.kept hW) hbz hW))
   have hsd:s≤4194304∧d≤4194304:=⟨by rw [HS.out];exact maxF_le fun x hx=>HB.out x (List.mem_of_mem_take hx),hd ▸ HB.out _ hmz⟩
   obtain ⟨hs1,hd1⟩:=hsd
   clear hmz hd HF HB
   go_wp2_with (go_at_fn g;refine(HC.out _ (HG.out.alloc _)).mono ?_;rintro e w1 ⟨rfl,g1⟩;have HG1:=zh ((HG.out.alloc _).trans g1);clear g1)
   all_goals
    go_roundg (l.length - (j+1))
    case measure=>have:=HLz.out;omega
    case rel=>exact⟨j+1,max s d,congrArg (Value.int .i64) (by omega),by go_num,HLz.out,rfl,zh (by rw [maxF_snoc HTz.out,← HS.out,HD.out]),HG1⟩
  ·obtain rfl:j=l.length:=by omega
   rw [List.take_length] at HS
   go_wp2
   go_ret
   exact⟨congrArg (fun z:Nat=>Ending.returned (.int .i64 (z:Int))) HS.out,HG.out⟩
set_option maxHeartbeats 8000000 in
theorem totalT_any (g:FuncId) (cb:Array Value) (eg:∀args w,(callFunc g args).run Tryz.prog w=.ok (.enter g args) w) (l:List Ta) (F:Ta→Nat) (B:Nat→Prop) (w:World) (p:Option Addr) (c:Nat) (hx:TL B w p c l) (hB:sumF F l≤4194304)
 (hf:∀x ∈ l,∀(pb_:Option Addr) (cb_:Nat) (W:World),SL B W pb_ cb_ x.b→x.s.size≤1048576∧x.c.size≤1048576∧x.m.size≤1048576→Grew w W→Calls Tryz.prog g (#[tv x.s x.p x.d x.c x.m x.w pb_ x.b.length cb_ x.q]++cb) W fun e w'=>e=.returned (.int .i64 (F x:Nat))∧Grew W w') :
 Calls Tryz.prog 81 #[.slice p l.length c,.func (.func g) #[] cb] w fun e w'=>e=.returned (.int .i64 (sumF F l:Nat))∧Grew w w':=by
 have HX:=zh hx
 have HF:=zh hf
 have HB:=zh hB
 have hcap:l.length≤c:=hx.cap.1
 have hmax:=hx.cap.2.1
 clear hx hf hB
 go_enter Tryz.func81,Tryz.ntmps81
 go_wp2
 go_loopg [5,7,10] l.length (fun gg sv_ xv_ iv wr=>∃(j s:Nat),sv_=.int .i64 (s:Int)∧iv=.int .i64 (j:Int)∧j≤l.length∧gg=l.length - j∧Hid (s=sumF F (l.take j))∧Hid (Grew w wr))
 case atStart=>exact⟨0,0,rfl,rfl,Nat.zero_le _,rfl,zh rfl,zh (Grew.refl _)⟩
 case round =>
  obtain ⟨j,s,rfl,rfl,hj,rfl,HS,HG⟩:=hrel
  by_cases hlt:j < l.length
  ·
   obtain ⟨bz,oz,pbz,cbz,rfl,hbz,hboz,hcz⟩:=HX.out.get j hlt
   have hmz:=List.getElem_mem hlt
   have htz:=List.take_succ_eq_append_getElem hlt
   have HLz:=zh (Nat.succ_le_of_lt hlt)
   generalize l[j]=xz at *
   obtain ⟨sz,iz,dz,hz,mz,nz,yz,qz⟩:=xz
   replace hbz:sz.size≤1048576∧hz.size≤1048576∧mz.size≤1048576:=hbz.2
   have HTz:=zh htz
   have HYz:Hid (SL B w pbz cbz yz):=zh hboz
   have hcapz:yz.length≤cbz:=hboz.cap.1
   have hmaxz:=hboz.cap.2.1
   replace hcz:∀i_ u_,(tdc ⟨sz,iz,dz,hz,mz,nz,pbz,yz.length,cbz,qz⟩)[i_]?=some u_→wr.cell? ⟨bz,oz+j * 8+i_,none⟩=some u_:=fun i_ u_ h_=>Atv.kept (hcz i_ u_ h_) HG.out
   have cz0:wr.cell? ⟨bz,oz+j * 8,none⟩=some (.string sz):=by simpa using hcz 0 _ rfl
   have cz1:wr.cell? ⟨bz,oz+j * 8+1,none⟩=some (.int .i64 iz):=hcz 1 _ rfl
   have cz2:wr.cell? ⟨bz,oz+j * 8+2,none⟩=some (.int .i64 dz):=hcz 2 _ rfl
   have cz3:wr.cell? ⟨bz,oz+j * 8+3,none⟩=some (.string hz):=hcz 3 _ rfl
   have cz4:wr.cell? ⟨bz,oz+j * 8+4,none⟩=some (.string mz):=hcz 4 _ rfl
   have cz5:wr.cell? ⟨bz,oz+j * 8+5,none⟩=some (.int .i64 nz):=hcz 5 _ rfl
   have cz6:wr.cell? ⟨bz,oz+j * 8+6,none⟩=some (.slice pbz yz.length cbz):=hcz 6 _ rfl
   have cz7:wr.cell? ⟨bz,oz+j * 8+7,none⟩=some (.int .i64 qz):=hcz 7 _ rfl
   clear hcz hboz htz
   obtain ⟨d,hd⟩:∃d,F ⟨sz,iz,dz,hz,mz,nz,yz,qz⟩=d:=⟨_,rfl⟩
   have HD:=zh hd
   have HC:=zh (fun W (hW:Grew w W)=>(show Calls Tryz.prog g (#[tv sz iz dz hz mz nz pbz yz.length cbz qz]++cb) W fun e w'=>e=.returned (.int .i64 (d:Nat))∧Grew W w' from hd ▸ HF.out ⟨sz,iz,dz,hz,mz,nz,yz,qz⟩ hmz pbz cbz _ (HYz.out.kept hW) hbz hW))
   have hsd:s≤4194304∧d≤4194304:=by have h1:=sumF_take (F:=F) l (j+1);rw [sumF_snoc HTz.out,← HS.out,hd] at h1;have:=HB.out;omega
   obtain ⟨hs1,hd1⟩:=hsd
   clear hmz hd HF HB
   go_wp2_with (go_at_fn g;refine(HC.out _ (HG.out.alloc _)).mono ?_;rintro e w1 ⟨rfl,g1⟩;have HG1:=zh ((HG.out.alloc _).trans g1);clear g1)
   all_goals
    go_roundg (l.length - (j+1))
    case measure=>have:=HLz.out;omega
    case rel=>exact⟨j+1,_,by go_num,by go_num,HLz.out,rfl,zh (by rw [sumF_snoc HTz.out,← HS.out,HD.out]),HG1⟩
  ·obtain rfl:j=l.length:=by omega
   rw [List.take_length] at HS
   go_wp2
   go_ret
   exact⟨congrArg (fun z:Nat=>Ending.returned (.int .i64 (z:Int))) HS.out,HG.out⟩
set_option maxHeartbeats 8000000 in
theorem greatT_any (g:FuncId) (cb:Array Value) (eg:∀args w,(callFunc g args).run Tryz.prog w=.ok (.enter g args) w) (l:List Ta) (F:Ta→Nat) (B:Nat→Prop) (w:World) (p:Option Addr) (c:Nat) (hx:TL B w p c l) (hB:∀x ∈ l,F x≤4194304)
 (hf:∀x ∈ l,∀(pb_:Option Addr) (cb_:Nat) (W:World),SL B W pb_ cb_ x.b→x.s.size≤1048576∧x.c.size≤1048576∧x.m.size≤1048576→Grew w W→Calls Tryz.prog g (#[tv x.s x.p x.d x.c x.m x.w pb_ x.b.length cb_ x.q]++cb) W fun e w'=>e=.returned (.int .i64 (F x:Nat))∧Grew W w') :
 Calls Tryz.prog 85 #[.slice p l.length c,.func (.func g) #[] cb] w fun e w'=>e=.returned (.int .i64 (maxF F l:Nat))∧Grew w w':=by
 have HX:=zh hx
 have HF:=zh hf
 have HB:=zh hB
 have hcap:l.length≤c:=hx.cap.1
 have hmax:=hx.cap.2.1
 clear hx hf hB
 go_enter Tryz.func85,Tryz.ntmps85
 go_wp2
 go_loopg [5,7,10] l.length (fun gg sv_ xv_ iv wr=>∃(j s:Nat),sv_=.int .i64 (s:Int)∧iv=.int .i64 (j:Int)∧j≤l.length∧gg=l.length - j∧Hid (s=maxF F (l.take j))∧Hid (Grew w wr))
 case atStart=>exact⟨0,0,rfl,rfl,Nat.zero_le _,rfl,zh rfl,zh (Grew.refl _)⟩
 case round =>
  obtain ⟨j,s,rfl,rfl,hj,rfl,HS,HG⟩:=hrel
  by_cases hlt:j < l.length
  ·
   obtain ⟨bz,oz,pbz,cbz,rfl,hbz,hboz,hcz⟩:=HX.out.get j hlt
   have hmz:=List.getElem_mem hlt
   have htz:=List.take_succ_eq_append_getElem hlt
   have HLz:=zh (Nat.succ_le_of_lt hlt)
   generalize l[j]=xz at *
   obtain ⟨sz,iz,dz,hz,mz,nz,yz,qz⟩:=xz
   replace hbz:sz.size≤1048576∧hz.size≤1048576∧mz.size≤1048576:=hbz.2
   have HTz:=zh htz
   have HYz:Hid (SL B w pbz cbz yz):=zh hboz
   have hcapz:yz.length≤cbz:=hboz.cap.1
   have hmaxz:=hboz.cap.2.1
   replace hcz:∀i_ u_,(tdc ⟨sz,iz,dz,hz,mz,nz,pbz,yz.length,cbz,qz⟩)[i_]?=some u_→wr.cell? ⟨bz,oz+j * 8+i_,none⟩=some u_:=fun i_ u_ h_=>Atv.kept (hcz i_ u_ h_) HG.out
   have cz0:wr.cell? ⟨bz,oz+j * 8,none⟩=some (.string sz):=by simpa using hcz 0 _ rfl
   have cz1:wr.cell? ⟨bz,oz+j * 8+1,none⟩=some (.int .i64 iz):=hcz 1 _ rfl
   have cz2:wr.cell? ⟨bz,oz+j * 8+2,none⟩=some (.int .i64 dz):=hcz 2 _ rfl
   have cz3:wr.cell? ⟨bz,oz+j * 8+3,none⟩=some (.string hz):=hcz 3 _ rfl
   have cz4:wr.cell? ⟨bz,oz+j * 8+4,none⟩=some (.string mz):=hcz 4 _ rfl
   have cz5:wr.cell? ⟨bz,oz+j * 8+5,none⟩=some (.int .i64 nz):=hcz 5 _ rfl
   have cz6:wr.cell? ⟨bz,oz+j * 8+6,none⟩=some (.slice pbz yz.length cbz):=hcz 6 _ rfl
   have cz7:wr.cell? ⟨bz,oz+j * 8+7,none⟩=some (.int .i64 qz):=hcz 7 _ rfl
   clear hcz hboz htz
   obtain ⟨d,hd⟩:∃d,F ⟨sz,iz,dz,hz,mz,nz,yz,qz⟩=d:=⟨_,rfl⟩
   have HD:=zh hd
   have HC:=zh (fun W (hW:Grew w W)=>(show Calls Tryz.prog g (#[tv sz iz dz hz mz nz pbz yz.length cbz qz]++cb) W fun e w'=>e=.returned (.int .i64 (d:Nat))∧Grew W w' from hd ▸ HF.out ⟨sz,iz,dz,hz,mz,nz,yz,qz⟩ hmz pbz cbz _ (HYz.out.kept hW) hbz hW))
   have hsd:s≤4194304∧d≤4194304:=⟨by rw [HS.out];exact maxF_le fun x hx=>HB.out x (List.mem_of_mem_take hx),hd ▸ HB.out _ hmz⟩
   obtain ⟨hs1,hd1⟩:=hsd
   clear hmz hd HF HB
   go_wp2_with (go_at_fn g;refine(HC.out _ (HG.out.alloc _)).mono ?_;rintro e w1 ⟨rfl,g1⟩;have HG1:=zh ((HG.out.alloc _).trans g1);clear g1)
   all_goals
    go_roundg (l.length - (j+1))
    case measure=>have:=HLz.out;omega
    case rel=>exact⟨j+1,max s d,congrArg (Value.int .i64) (by omega),by go_num,HLz.out,rfl,zh (by rw [maxF_snoc HTz.out,← HS.out,HD.out]),HG1⟩
  ·obtain rfl:j=l.length:=by omega
   rw [List.take_length] at HS
   go_wp2
   go_ret
   exact⟨congrArg (fun z:Nat=>Ending.returned (.int .i64 (z:Int))) HS.out,HG.out⟩
end Go.Proofs.YtcknpcbkofgdoaaGreatDoor
