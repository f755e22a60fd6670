/-
  LAYER 16 (ast), THE PROGRAM: formedExpr.
  LAYER 16 (ast), THE PROGRAM: what formedStmt says.
  LAYER 16 (ast), THE PROGRAM: formedStmt.
  LAYER 16 (ast), THE PROGRAM: formedTrigger, formedTask.
-/
import Derived.Test.YtcknpcbkofgdoaaGreatDoorZcShort
import Derived.Test.YtcknpcbkofgdoaaGreatDoorZc03
import Derived.Test.YtcknpcbkofgdoaaGreatDoorZc00
import Derived.Deep.LoopGhost
import Derived.Deep.Cut
import Derived.Test.YtcknpcbkofgdoaaGreatDoorZc01
namespace Go.Proofs.YtcknpcbkofgdoaaGreatDoor
open Go Go.RowKit Go.IntWalk
set_option linter.unusedSimpArgs false
set_option linter.unusedVariables false
set_option maxRecDepth 8000
section
variable {dst:Option Tmp}{ty:TypeId}{pos:String}{after:Array Edge}{g:Option (Nat × Bool)}{a:Act}{w:World}{T:Value→World→Prop}
theorem rn_fld_117_0 {x:Operand}{S o:Nat}(hx:a.eval x=.pointer (some ⟨S,o,none⟩)) (h:T (.pointer (some ⟨S,o,none⟩)) w):Runs Tryz.prog ⟨dst,.fieldAddr 117 x 0,ty,pos,after,g⟩ a w T:=by
 refine Runs.value (v:=.pointer (some ⟨S,o,none⟩)) (w':=w) ?_ h
 simp only [execOp,hx]
 go_simp
theorem rn_leq_32 {o1 o2:Operand}{b c:Int}(hx:a.eval o1=.int .i16 b) (hy:a.eval o2=.int .i16 c) (h:T (.bool (decide (b≤c))) w):Runs Tryz.prog ⟨dst,.binOp .leq 32 o1 o2 32,ty,pos,after,g⟩ a w T:=by
 refine Runs.value (v:=.bool (decide (b≤c))) (w':=w) ?_ h
 simp only [execOp,hx,hy]
 go_simp
theorem rn_fld_117_1 {x:Operand}{S o:Nat}(hx:a.eval x=.pointer (some ⟨S,o,none⟩)) (h:T (.pointer (some ⟨S,o+1,none⟩)) w):Runs Tryz.prog ⟨dst,.fieldAddr 117 x 1,ty,pos,after,g⟩ a w T:=by
 refine Runs.value (v:=.pointer (some ⟨S,o+1,none⟩)) (w':=w) ?_ h
 simp only [execOp,hx]
 go_simp
theorem rn_fld_117_2 {x:Operand}{S o:Nat}(hx:a.eval x=.pointer (some ⟨S,o,none⟩)) (h:T (.pointer (some ⟨S,o+2,none⟩)) w):Runs Tryz.prog ⟨dst,.fieldAddr 117 x 2,ty,pos,after,g⟩ a w T:=by
 refine Runs.value (v:=.pointer (some ⟨S,o+2,none⟩)) (w':=w) ?_ h
 simp only [execOp,hx]
 go_simp
theorem rn_leq_3 {o1 o2:Operand}{b c:Int}(hx:a.eval o1=.int .i64 b) (hy:a.eval o2=.int .i64 c) (h:T (.bool (decide (b≤c))) w):Runs Tryz.prog ⟨dst,.binOp .leq 3 o1 o2 3,ty,pos,after,g⟩ a w T:=by
 refine Runs.value (v:=.bool (decide (b≤c))) (w':=w) ?_ h
 simp only [execOp,hx,hy]
 go_simp
theorem rn_fld_117_3 {x:Operand}{S o:Nat}(hx:a.eval x=.pointer (some ⟨S,o,none⟩)) (h:T (.pointer (some ⟨S,o+3,none⟩)) w):Runs Tryz.prog ⟨dst,.fieldAddr 117 x 3,ty,pos,after,g⟩ a w T:=by
 refine Runs.value (v:=.pointer (some ⟨S,o+3,none⟩)) (w':=w) ?_ h
 simp only [execOp,hx]
 go_simp
theorem rn_fld_117_4 {x:Operand}{S o:Nat}(hx:a.eval x=.pointer (some ⟨S,o,none⟩)) (h:T (.pointer (some ⟨S,o+4,none⟩)) w):Runs Tryz.prog ⟨dst,.fieldAddr 117 x 4,ty,pos,after,g⟩ a w T:=by
 refine Runs.value (v:=.pointer (some ⟨S,o+4,none⟩)) (w':=w) ?_ h
 simp only [execOp,hx]
 go_simp
theorem rn_fld_164_0 {x:Operand}{S o:Nat}(hx:a.eval x=.pointer (some ⟨S,o,none⟩)) (h:T (.pointer (some ⟨S,o,none⟩)) w):Runs Tryz.prog ⟨dst,.fieldAddr 164 x 0,ty,pos,after,g⟩ a w T:=by
 refine Runs.value (v:=.pointer (some ⟨S,o,none⟩)) (w':=w) ?_ h
 simp only [execOp,hx]
 go_simp
theorem rn_fld_164_1 {x:Operand}{S o:Nat}(hx:a.eval x=.pointer (some ⟨S,o,none⟩)) (h:T (.pointer (some ⟨S,o+1,none⟩)) w):Runs Tryz.prog ⟨dst,.fieldAddr 164 x 1,ty,pos,after,g⟩ a w T:=by
 refine Runs.value (v:=.pointer (some ⟨S,o+1,none⟩)) (w':=w) ?_ h
 simp only [execOp,hx]
 go_simp
theorem rn_fld_164_2 {x:Operand}{S o:Nat}(hx:a.eval x=.pointer (some ⟨S,o,none⟩)) (h:T (.pointer (some ⟨S,o+2,none⟩)) w):Runs Tryz.prog ⟨dst,.fieldAddr 164 x 2,ty,pos,after,g⟩ a w T:=by
 refine Runs.value (v:=.pointer (some ⟨S,o+2,none⟩)) (w':=w) ?_ h
 simp only [execOp,hx]
 go_simp
theorem rn_fld_164_3 {x:Operand}{S o:Nat}(hx:a.eval x=.pointer (some ⟨S,o,none⟩)) (h:T (.pointer (some ⟨S,o+3,none⟩)) w):Runs Tryz.prog ⟨dst,.fieldAddr 164 x 3,ty,pos,after,g⟩ a w T:=by
 refine Runs.value (v:=.pointer (some ⟨S,o+3,none⟩)) (w':=w) ?_ h
 simp only [execOp,hx]
 go_simp
theorem rn_fld_164_4 {x:Operand}{S o:Nat}(hx:a.eval x=.pointer (some ⟨S,o,none⟩)) (h:T (.pointer (some ⟨S,o+4,none⟩)) w):Runs Tryz.prog ⟨dst,.fieldAddr 164 x 4,ty,pos,after,g⟩ a w T:=by
 refine Runs.value (v:=.pointer (some ⟨S,o+4,none⟩)) (w':=w) ?_ h
 simp only [execOp,hx]
 go_simp
end
set_option maxHeartbeats 8000000 in
theorem formX_any:∀(x:Xp) (B:Nat→Prop) (w:World) (p:Option Addr) (c:Nat),(x.s.size≤1048576∧x.v≤32767)→XL B w p c x.ar→Env w →
 Calls Tryz.prog 48 #[xv x.k x.s x.v x.o p x.ar.length c x.q] w fun e w'=>e=.returned (.bool (okX x))∧Grew w w':=by
 intro x
 induction x using Xp.ind with
 | h kx sx vx ox rx qx ih =>
 intro B w px cx hz hx hE
 replace hz:sx.size≤1048576∧vx≤32767:=hz
 replace hx:XL B w px cx rx:=hx
 show Calls Tryz.prog 48 #[xv kx sx vx ox px rx.length cx qx] w fun e w'=>e=.returned (.bool (okX ⟨kx,sx,vx,ox,rx,qx⟩))∧Grew w w'
 have hcap:rx.length≤cx:=hx.cap.1
 have hmax:=hx.cap.2.1
 by_cases h0:kx≤0
 ·rw [okX_out (.inl h0)]
  clear ih hx hE
  go_enter Tryz.func48,Tryz.ntmps48
  go_wp2
  go_ret
  exact⟨rfl,(Grew.refl _).alloc _⟩
 by_cases h7:7≤kx
 ·rw [okX_out (.inr h7)]
  clear ih hx hE
  go_enter Tryz.func48,Tryz.ntmps48
  go_wp2
  go_ret
  exact⟨rfl,(Grew.refl _).alloc _⟩
 ·obtain ⟨kn,rfl⟩:∃k:Nat,kx=(k:Int):=⟨kx.toNat,by omega⟩
  have hk1:1≤kn:=by omega
  have hk7:kn < 7:=by omega
  have HE:=Lib.hid hE
  have HNM:=Lib.hid (fun W (hW:Grew w W)=>name_any sx (exR (kn:Int)).b hz.1 W (HE.out.grew hW))
  have HEV:Hid (∀W,Grew w W→Calls Tryz.prog 100 #[.slice px rx.length cx,.func (.func 48) #[] #[]] W fun e w'=>e=.returned (.bool (rx.all okX))∧Grew W w') :=
   Lib.hid (fun W hW=>everyX_any 48 #[] en_fx rx okX B W px cx (hx.kept hW) (fun y hy p_ c_ W2 hy1 hy2 hW2=>ih y hy B W2 p_ c_ hy2 hy1 (HE.out.grew (hW.trans hW2))))
  have hec:=fun j {v:Value}(hv:(es5 (exR (kn:Int)))[j]?=some v)=>hE.ex kn hk7 j hv
  clear ih hx hE h0 h7
  have h0:w.cell? ⟨0,kn * 5,none⟩=some (.bool (exR (kn:Int)).b):=hec 0 rfl
  have h1:w.cell? ⟨0,kn * 5+1,none⟩=some (.int .i16 (exR (kn:Int)).v):=hec 1 rfl
  have h2:w.cell? ⟨0,kn * 5+2,none⟩=some (.int .i64 (exR (kn:Int)).f):=hec 2 rfl
  have h3:w.cell? ⟨0,kn * 5+3,none⟩=some (.int .i64 (exR (kn:Int)).l):=hec 3 rfl
  have h4:w.cell? ⟨0,kn * 5+4,none⟩=some (.int .i64 (exR (kn:Int)).n):=hec 4 rfl
  have b0:¬ (kn:Int)≤0:=by omega
  have b1:¬ (7:Int)≤(kn:Int):=by omega
  have b2:0 < w.heap.size:=World.block_lt_of_cell? _ _ h0
  have b3:(kn:Int) < (7:Int):=by omega
  have b4:(0:Int)≤(kn:Int):=by omega
  have HEQ:=Lib.hid (formX_eq kn hk1 hk7 sx vx ox qx rx hz.2)
  clear hec hk1 hk7 hz
  go_enter Tryz.func48,Tryz.ntmps48
  go_upto_region 4 with fail
  have hb1:Blk w.heap.size [.int .i64 (kn:Int),.string sx,.int .i16 vx,.int .i64 ox,.slice px rx.length cx,.int .i64 qx] 35 (w.alloc (Obj.cells #[.int .i64 (kn:Int),.string sx,.int .i16 vx,.int .i64 ox,.slice px rx.length cx,.int .i64 qx] 35)):=Blk.new w _ _
  have hb2:Blk (w.alloc (Obj.cells #[.int .i64 (kn:Int),.string sx,.int .i16 vx,.int .i64 ox,.slice px rx.length cx,.int .i64 qx] 35)).heap.size [.bool (exR (kn:Int)).b,.int .i16 (exR (kn:Int)).v,.int .i64 (exR (kn:Int)).f,.int .i64 (exR (kn:Int)).l,.int .i64 (exR (kn:Int)).n] 117 ((w.alloc (Obj.cells #[.int .i64 (kn:Int),.string sx,.int .i16 vx,.int .i64 ox,.slice px rx.length cx,.int .i64 qx] 35)).alloc (Obj.cells #[.bool (exR (kn:Int)).b,.int .i16 (exR (kn:Int)).v,.int .i64 (exR (kn:Int)).f,.int .i64 (exR (kn:Int)).l,.int .i64 (exR (kn:Int)).n] 117)):=Blk.new _ _ _
  have hb3:=hb1.grew ((Grew.refl _).alloc (Obj.cells #[.bool (exR (kn:Int)).b,.int .i16 (exR (kn:Int)).v,.int .i64 (exR (kn:Int)).f,.int .i64 (exR (kn:Int)).l,.int .i64 (exR (kn:Int)).n] 117))
  have hgV:Grew w ((w.alloc (Obj.cells #[.int .i64 (kn:Int),.string sx,.int .i16 vx,.int .i64 ox,.slice px rx.length cx,.int .i64 qx] 35)).alloc (Obj.cells #[.bool (exR (kn:Int)).b,.int .i16 (exR (kn:Int)).v,.int .i64 (exR (kn:Int)).f,.int .i64 (exR (kn:Int)).l,.int .i64 (exR (kn:Int)).n] 117)):=((Grew.refl w).alloc _).alloc _
  rw [alloc_sz] at hb2
  try rw [alloc_sz]
  generalize ((w.alloc (Obj.cells #[.int .i64 (kn:Int),.string sx,.int .i16 vx,.int .i64 ox,.slice px rx.length cx,.int .i64 qx] 35)).alloc (Obj.cells #[.bool (exR (kn:Int)).b,.int .i16 (exR (kn:Int)).v,.int .i64 (exR (kn:Int)).f,.int .i64 (exR (kn:Int)).l,.int .i64 (exR (kn:Int)).n] 117))=V at hb2 hb3 hgV ⊢
  generalize w.heap.size+1=S at hb2 ⊢
  generalize w.heap.size=T at hb3 ⊢
  have HGV:=Lib.hid hgV
  have d0:Atv ⟨T,0,none⟩ (.int .i64 (kn:Int)) V:=hb3.atv 0 rfl
  have d1:Atv ⟨T,1,none⟩ (.string sx) V:=hb3.atv 1 rfl
  have d2:Atv ⟨T,2,none⟩ (.int .i16 vx) V:=hb3.atv 2 rfl
  have d3:Atv ⟨T,3,none⟩ (.int .i64 ox) V:=hb3.atv 3 rfl
  have d4:Atv ⟨T,4,none⟩ (.slice px rx.length cx) V:=hb3.atv 4 rfl
  have d5:Atv ⟨T,5,none⟩ (.int .i64 qx) V:=hb3.atv 5 rfl
  have e0:Atv ⟨S,0,none⟩ (.bool (exR (kn:Int)).b) V:=hb2.atv 0 rfl
  have e1:Atv ⟨S,1,none⟩ (.int .i16 (exR (kn:Int)).v) V:=hb2.atv 1 rfl
  have e2:Atv ⟨S,2,none⟩ (.int .i64 (exR (kn:Int)).f) V:=hb2.atv 2 rfl
  have e3:Atv ⟨S,3,none⟩ (.int .i64 (exR (kn:Int)).l) V:=hb2.atv 3 rfl
  have e4:Atv ⟨S,4,none⟩ (.int .i64 (exR (kn:Int)).n) V:=hb2.atv 4 rfl
  clear hb1 hb2 hb3 hgV h0 h1 h2 h3 h4 b2
  refine wp_postsL [some 16,some 17,some 18,some 19,some 20,some 21,some 22,some 23,some 24,some 25,some 26,some 27,some 28,some 29,some 30,some 31,some 32,some 33,some 34,some 35,some 36,some 37,some 38,some 39,some 40,some 41,some 42,some 43,some 44,some 45,some 46,some 47,some 48,some 49,some 50,some 51,some 52,some 53,some 54,some 55,some 56,some 57,some 58,some 59,some 2] [Zf,Zf,Zt,Zf,Zf,Zf,Zf,Zf,Zf,Zf,Zf,Zf,Zf,Zf,Zf,Zf,Zt,Zt,Zt,Zt,Zt,Zt,Zt,Zt,Zt,Zt,Zt,Zt,Zt,Zt,Zt,Zt,Zt,Zt,Zt,Zt,Zt,Zt,Zt,Zt,Zt,Zt,Zt,Zt,Zt,Zt,Zt,Zt,Zt,Zt,Zt,Zt,Zt,Zt,Zt,Zt,Zt,Zt,Zt,Zt] [fun v _=>v=.pointer (some ⟨T,1,none⟩),fun v _=>v=.string sx,fun v _=>v=.pointer (some ⟨S,0,none⟩),fun v _=>v=.bool ((exR (kn:Int)).b),fun v _=>v=.bool (if (exR (kn:Int)).b then idn sx else decide (sx=⟨#[]⟩)),fun v _=>v=.bool (if (exR (kn:Int)).b then idn sx else decide (sx=⟨#[]⟩)),fun v _=>(((if (exR (kn:Int)).b then idn sx else decide (sx=⟨#[]⟩))=true)→v=.pointer (some ⟨T,2,none⟩))∧(¬ ((if (exR (kn:Int)).b then idn sx else decide (sx=⟨#[]⟩))=true)→v=undef),fun v _=>(((if (exR (kn:Int)).b then idn sx else decide (sx=⟨#[]⟩))=true)→v=.int .i16 (vx))∧(¬ ((if (exR (kn:Int)).b then idn sx else decide (sx=⟨#[]⟩))=true)→v=undef),fun v _=>(((if (exR (kn:Int)).b then idn sx else decide (sx=⟨#[]⟩))=true)→v=.bool (decide ((0)≤(vx))))∧(¬ ((if (exR (kn:Int)).b then idn sx else decide (sx=⟨#[]⟩))=true)→v=undef),fun v _=>v=.bool ((if (exR (kn:Int)).b then idn sx else decide (sx=⟨#[]⟩))&&(decide ((0)≤(vx)))),fun v _=>v=.bool ((if (exR (kn:Int)).b then idn sx else decide (sx=⟨#[]⟩))&&(decide ((0)≤(vx)))),fun v _=>((((if (exR (kn:Int)).b then idn sx else decide (sx=⟨#[]⟩))&&(decide ((0)≤(vx))))=true)→v=.pointer (some ⟨T,2,none⟩))∧(¬ (((if (exR (kn:Int)).b then idn sx else decide (sx=⟨#[]⟩))&&(decide ((0)≤(vx))))=true)→v=undef),fun v _=>((((if (exR (kn:Int)).b then idn sx else decide (sx=⟨#[]⟩))&&(decide ((0)≤(vx))))=true)→v=.int .i16 (vx))∧(¬ (((if (exR (kn:Int)).b then idn sx else decide (sx=⟨#[]⟩))&&(decide ((0)≤(vx))))=true)→v=undef),fun v _=>((((if (exR (kn:Int)).b then idn sx else decide (sx=⟨#[]⟩))&&(decide ((0)≤(vx))))=true)→v=.pointer (some ⟨S,1,none⟩))∧(¬ (((if (exR (kn:Int)).b then idn sx else decide (sx=⟨#[]⟩))&&(decide ((0)≤(vx))))=true)→v=undef),fun v _=>((((if (exR (kn:Int)).b then idn sx else decide (sx=⟨#[]⟩))&&(decide ((0)≤(vx))))=true)→v=.int .i16 ((exR (kn:Int)).v))∧(¬ (((if (exR (kn:Int)).b then idn sx else decide (sx=⟨#[]⟩))&&(decide ((0)≤(vx))))=true)→v=undef),fun v _=>((((if (exR (kn:Int)).b then idn sx else decide (sx=⟨#[]⟩))&&(decide ((0)≤(vx))))=true)→v=.bool (decide ((vx)≤((exR (kn:Int)).v))))∧(¬ (((if (exR (kn:Int)).b then idn sx else decide (sx=⟨#[]⟩))&&(decide ((0)≤(vx))))=true)→v=undef),fun v _=>v=.bool (((if (exR (kn:Int)).b then idn sx else decide (sx=⟨#[]⟩))&&(decide ((0)≤(vx))))&&(decide ((vx)≤((exR (kn:Int)).v)))),fun v _=>v=.bool (((if (exR (kn:Int)).b then idn sx else decide (sx=⟨#[]⟩))&&(decide ((0)≤(vx))))&&(decide ((vx)≤((exR (kn:Int)).v)))),fun v _=>(((((if (exR (kn:Int)).b then idn sx else decide (sx=⟨#[]⟩))&&(decide ((0)≤(vx))))&&(decide ((vx)≤((exR (kn:Int)).v))))=true)→v=.pointer (some ⟨S,2,none⟩))∧(¬ ((((if (exR (kn:Int)).b then idn sx else decide (sx=⟨#[]⟩))&&(decide ((0)≤(vx))))&&(decide ((vx)≤((exR (kn:Int)).v))))=true)→v=undef),fun v _=>(((((if (exR (kn:Int)).b then idn sx else decide (sx=⟨#[]⟩))&&(decide ((0)≤(vx))))&&(decide ((vx)≤((exR (kn:Int)).v))))=true)→v=.int .i64 ((exR (kn:Int)).f))∧(¬ ((((if (exR (kn:Int)).b then idn sx else decide (sx=⟨#[]⟩))&&(decide ((0)≤(vx))))&&(decide ((vx)≤((exR (kn:Int)).v))))=true)→v=undef),fun v _=>(((((if (exR (kn:Int)).b then idn sx else decide (sx=⟨#[]⟩))&&(decide ((0)≤(vx))))&&(decide ((vx)≤((exR (kn:Int)).v))))=true)→v=.pointer (some ⟨T,3,none⟩))∧(¬ ((((if (exR (kn:Int)).b then idn sx else decide (sx=⟨#[]⟩))&&(decide ((0)≤(vx))))&&(decide ((vx)≤((exR (kn:Int)).v))))=true)→v=undef),fun v _=>(((((if (exR (kn:Int)).b then idn sx else decide (sx=⟨#[]⟩))&&(decide ((0)≤(vx))))&&(decide ((vx)≤((exR (kn:Int)).v))))=true)→v=.int .i64 (ox))∧(¬ ((((if (exR (kn:Int)).b then idn sx else decide (sx=⟨#[]⟩))&&(decide ((0)≤(vx))))&&(decide ((vx)≤((exR (kn:Int)).v))))=true)→v=undef),fun v _=>(((((if (exR (kn:Int)).b then idn sx else decide (sx=⟨#[]⟩))&&(decide ((0)≤(vx))))&&(decide ((vx)≤((exR (kn:Int)).v))))=true)→v=.bool (decide (((exR (kn:Int)).f)≤(ox))))∧(¬ ((((if (exR (kn:Int)).b then idn sx else decide (sx=⟨#[]⟩))&&(decide ((0)≤(vx))))&&(decide ((vx)≤((exR (kn:Int)).v))))=true)→v=undef),fun v _=>v=.bool ((((if (exR (kn:Int)).b then idn sx else decide (sx=⟨#[]⟩))&&(decide ((0)≤(vx))))&&(decide ((vx)≤((exR (kn:Int)).v))))&&(decide (((exR (kn:Int)).f)≤(ox)))),fun v _=>v=.bool ((((if (exR (kn:Int)).b then idn sx else decide (sx=⟨#[]⟩))&&(decide ((0)≤(vx))))&&(decide ((vx)≤((exR (kn:Int)).v))))&&(decide (((exR (kn:Int)).f)≤(ox)))),fun v _=>((((((if (exR (kn:Int)).b then idn sx else decide (sx=⟨#[]⟩))&&(decide ((0)≤(vx))))&&(decide ((vx)≤((exR (kn:Int)).v))))&&(decide (((exR (kn:Int)).f)≤(ox))))=true)→v=.pointer (some ⟨T,3,none⟩))∧(¬ (((((if (exR (kn:Int)).b then idn sx else decide (sx=⟨#[]⟩))&&(decide ((0)≤(vx))))&&(decide ((vx)≤((exR (kn:Int)).v))))&&(decide (((exR (kn:Int)).f)≤(ox))))=true)→v=undef),fun v _=>((((((if (exR (kn:Int)).b then idn sx else decide (sx=⟨#[]⟩))&&(decide ((0)≤(vx))))&&(decide ((vx)≤((exR (kn:Int)).v))))&&(decide (((exR (kn:Int)).f)≤(ox))))=true)→v=.int .i64 (ox))∧(¬ (((((if (exR (kn:Int)).b then idn sx else decide (sx=⟨#[]⟩))&&(decide ((0)≤(vx))))&&(decide ((vx)≤((exR (kn:Int)).v))))&&(decide (((exR (kn:Int)).f)≤(ox))))=true)→v=undef),fun v _=>((((((if (exR (kn:Int)).b then idn sx else decide (sx=⟨#[]⟩))&&(decide ((0)≤(vx))))&&(decide ((vx)≤((exR (kn:Int)).v))))&&(decide (((exR (kn:Int)).f)≤(ox))))=true)→v=.pointer (some ⟨S,3,none⟩))∧(¬ (((((if (exR (kn:Int)).b then idn sx else decide (sx=⟨#[]⟩))&&(decide ((0)≤(vx))))&&(decide ((vx)≤((exR (kn:Int)).v))))&&(decide (((exR (kn:Int)).f)≤(ox))))=true)→v=undef),fun v _=>((((((if (exR (kn:Int)).b then idn sx else decide (sx=⟨#[]⟩))&&(decide ((0)≤(vx))))&&(decide ((vx)≤((exR (kn:Int)).v))))&&(decide (((exR (kn:Int)).f)≤(ox))))=true)→v=.int .i64 ((exR (kn:Int)).l))∧(¬ (((((if (exR (kn:Int)).b then idn sx else decide (sx=⟨#[]⟩))&&(decide ((0)≤(vx))))&&(decide ((vx)≤((exR (kn:Int)).v))))&&(decide (((exR (kn:Int)).f)≤(ox))))=true)→v=undef),fun v _=>((((((if (exR (kn:Int)).b then idn sx else decide (sx=⟨#[]⟩))&&(decide ((0)≤(vx))))&&(decide ((vx)≤((exR (kn:Int)).v))))&&(decide (((exR (kn:Int)).f)≤(ox))))=true)→v=.bool (decide ((ox)≤((exR (kn:Int)).l))))∧(¬ (((((if (exR (kn:Int)).b then idn sx else decide (sx=⟨#[]⟩))&&(decide ((0)≤(vx))))&&(decide ((vx)≤((exR (kn:Int)).v))))&&(decide (((exR (kn:Int)).f)≤(ox))))=true)→v=undef),fun v _=>v=.bool (((((if (exR (kn:Int)).b then idn sx else decide (sx=⟨#[]⟩))&&(decide ((0)≤(vx))))&&(decide ((vx)≤((exR (kn:Int)).v))))&&(decide (((exR (kn:Int)).f)≤(ox))))&&(decide ((ox)≤((exR (kn:Int)).l)))),fun v _=>v=.bool (((((if (exR (kn:Int)).b then idn sx else decide (sx=⟨#[]⟩))&&(decide ((0)≤(vx))))&&(decide ((vx)≤((exR (kn:Int)).v))))&&(decide (((exR (kn:Int)).f)≤(ox))))&&(decide ((ox)≤((exR (kn:Int)).l)))),fun v _=>(((((((if (exR (kn:Int)).b then idn sx else decide (sx=⟨#[]⟩))&&(decide ((0)≤(vx))))&&(decide ((vx)≤((exR (kn:Int)).v))))&&(decide (((exR (kn:Int)).f)≤(ox))))&&(decide ((ox)≤((exR (kn:Int)).l))))=true)→v=.pointer (some ⟨T,4,none⟩))∧(¬ ((((((if (exR (kn:Int)).b then idn sx else decide (sx=⟨#[]⟩))&&(decide ((0)≤(vx))))&&(decide ((vx)≤((exR (kn:Int)).v))))&&(decide (((exR (kn:Int)).f)≤(ox))))&&(decide ((ox)≤((exR (kn:Int)).l))))=true)→v=undef),fun v _=>(((((((if (exR (kn:Int)).b then idn sx else decide (sx=⟨#[]⟩))&&(decide ((0)≤(vx))))&&(decide ((vx)≤((exR (kn:Int)).v))))&&(decide (((exR (kn:Int)).f)≤(ox))))&&(decide ((ox)≤((exR (kn:Int)).l))))=true)→v=.slice px (rx.length) (cx))∧(¬ ((((((if (exR (kn:Int)).b then idn sx else decide (sx=⟨#[]⟩))&&(decide ((0)≤(vx))))&&(decide ((vx)≤((exR (kn:Int)).v))))&&(decide (((exR (kn:Int)).f)≤(ox))))&&(decide ((ox)≤((exR (kn:Int)).l))))=true)→v=undef),fun v _=>(((((((if (exR (kn:Int)).b then idn sx else decide (sx=⟨#[]⟩))&&(decide ((0)≤(vx))))&&(decide ((vx)≤((exR (kn:Int)).v))))&&(decide (((exR (kn:Int)).f)≤(ox))))&&(decide ((ox)≤((exR (kn:Int)).l))))=true)→v=.int .i64 (((rx.length:Nat):Int)))∧(¬ ((((((if (exR (kn:Int)).b then idn sx else decide (sx=⟨#[]⟩))&&(decide ((0)≤(vx))))&&(decide ((vx)≤((exR (kn:Int)).v))))&&(decide (((exR (kn:Int)).f)≤(ox))))&&(decide ((ox)≤((exR (kn:Int)).l))))=true)→v=undef),fun v _=>(((((((if (exR (kn:Int)).b then idn sx else decide (sx=⟨#[]⟩))&&(decide ((0)≤(vx))))&&(decide ((vx)≤((exR (kn:Int)).v))))&&(decide (((exR (kn:Int)).f)≤(ox))))&&(decide ((ox)≤((exR (kn:Int)).l))))=true)→v=.pointer (some ⟨S,4,none⟩))∧(¬ ((((((if (exR (kn:Int)).b then idn sx else decide (sx=⟨#[]⟩))&&(decide ((0)≤(vx))))&&(decide ((vx)≤((exR (kn:Int)).v))))&&(decide (((exR (kn:Int)).f)≤(ox))))&&(decide ((ox)≤((exR (kn:Int)).l))))=true)→v=undef),fun v _=>(((((((if (exR (kn:Int)).b then idn sx else decide (sx=⟨#[]⟩))&&(decide ((0)≤(vx))))&&(decide ((vx)≤((exR (kn:Int)).v))))&&(decide (((exR (kn:Int)).f)≤(ox))))&&(decide ((ox)≤((exR (kn:Int)).l))))=true)→v=.int .i64 ((exR (kn:Int)).n))∧(¬ ((((((if (exR (kn:Int)).b then idn sx else decide (sx=⟨#[]⟩))&&(decide ((0)≤(vx))))&&(decide ((vx)≤((exR (kn:Int)).v))))&&(decide (((exR (kn:Int)).f)≤(ox))))&&(decide ((ox)≤((exR (kn:Int)).l))))=true)→v=undef),fun v _=>(((((((if (exR (kn:Int)).b then idn sx else decide (sx=⟨#[]⟩))&&(decide ((0)≤(vx))))&&(decide ((vx)≤((exR (kn:Int)).v))))&&(decide (((exR (kn:Int)).f)≤(ox))))&&(decide ((ox)≤((exR (kn:Int)).l))))=true)→v=.bool ((((rx.length:Nat):Int))==((exR (kn:Int)).n)))∧(¬ ((((((if (exR (kn:Int)).b then idn sx else decide (sx=⟨#[]⟩))&&(decide ((0)≤(vx))))&&(decide ((vx)≤((exR (kn:Int)).v))))&&(decide (((exR (kn:Int)).f)≤(ox))))&&(decide ((ox)≤((exR (kn:Int)).l))))=true)→v=undef),fun v _=>v=.bool ((((((if (exR (kn:Int)).b then idn sx else decide (sx=⟨#[]⟩))&&(decide ((0)≤(vx))))&&(decide ((vx)≤((exR (kn:Int)).v))))&&(decide (((exR (kn:Int)).f)≤(ox))))&&(decide ((ox)≤((exR (kn:Int)).l))))&&((((rx.length:Nat):Int))==((exR (kn:Int)).n))),fun v _=>v=.bool ((((((if (exR (kn:Int)).b then idn sx else decide (sx=⟨#[]⟩))&&(decide ((0)≤(vx))))&&(decide ((vx)≤((exR (kn:Int)).v))))&&(decide (((exR (kn:Int)).f)≤(ox))))&&(decide ((ox)≤((exR (kn:Int)).l))))&&((((rx.length:Nat):Int))==((exR (kn:Int)).n))),fun v _=>((((((((if (exR (kn:Int)).b then idn sx else decide (sx=⟨#[]⟩))&&(decide ((0)≤(vx))))&&(decide ((vx)≤((exR (kn:Int)).v))))&&(decide (((exR (kn:Int)).f)≤(ox))))&&(decide ((ox)≤((exR (kn:Int)).l))))&&((((rx.length:Nat):Int))==((exR (kn:Int)).n)))=true)→v=.pointer (some ⟨T,4,none⟩))∧(¬ (((((((if (exR (kn:Int)).b then idn sx else decide (sx=⟨#[]⟩))&&(decide ((0)≤(vx))))&&(decide ((vx)≤((exR (kn:Int)).v))))&&(decide (((exR (kn:Int)).f)≤(ox))))&&(decide ((ox)≤((exR (kn:Int)).l))))&&((((rx.length:Nat):Int))==((exR (kn:Int)).n)))=true)→v=undef),fun v _=>((((((((if (exR (kn:Int)).b then idn sx else decide (sx=⟨#[]⟩))&&(decide ((0)≤(vx))))&&(decide ((vx)≤((exR (kn:Int)).v))))&&(decide (((exR (kn:Int)).f)≤(ox))))&&(decide ((ox)≤((exR (kn:Int)).l))))&&((((rx.length:Nat):Int))==((exR (kn:Int)).n)))=true)→v=.slice px (rx.length) (cx))∧(¬ (((((((if (exR (kn:Int)).b then idn sx else decide (sx=⟨#[]⟩))&&(decide ((0)≤(vx))))&&(decide ((vx)≤((exR (kn:Int)).v))))&&(decide (((exR (kn:Int)).f)≤(ox))))&&(decide ((ox)≤((exR (kn:Int)).l))))&&((((rx.length:Nat):Int))==((exR (kn:Int)).n)))=true)→v=undef),fun v _=>((((((((if (exR (kn:Int)).b then idn sx else decide (sx=⟨#[]⟩))&&(decide ((0)≤(vx))))&&(decide ((vx)≤((exR (kn:Int)).v))))&&(decide (((exR (kn:Int)).f)≤(ox))))&&(decide ((ox)≤((exR (kn:Int)).l))))&&((((rx.length:Nat):Int))==((exR (kn:Int)).n)))=true)→v=.bool (rx.all okX))∧(¬ (((((((if (exR (kn:Int)).b then idn sx else decide (sx=⟨#[]⟩))&&(decide ((0)≤(vx))))&&(decide ((vx)≤((exR (kn:Int)).v))))&&(decide (((exR (kn:Int)).f)≤(ox))))&&(decide ((ox)≤((exR (kn:Int)).l))))&&((((rx.length:Nat):Int))==((exR (kn:Int)).n)))=true)→v=undef),fun v _=>v=.bool (((((((if (exR (kn:Int)).b then idn sx else decide (sx=⟨#[]⟩))&&(decide ((0)≤(vx))))&&(decide ((vx)≤((exR (kn:Int)).v))))&&(decide (((exR (kn:Int)).f)≤(ox))))&&(decide ((ox)≤((exR (kn:Int)).l))))&&((((rx.length:Nat):Int))==((exR (kn:Int)).n)))&&(rx.all okX)),fun v _=>v=.bool (((((((if (exR (kn:Int)).b then idn sx else decide (sx=⟨#[]⟩))&&(decide ((0)≤(vx))))&&(decide ((vx)≤((exR (kn:Int)).v))))&&(decide (((exR (kn:Int)).f)≤(ox))))&&(decide ((ox)≤((exR (kn:Int)).l))))&&((((rx.length:Nat):Int))==((exR (kn:Int)).n)))&&(rx.all okX))] (by kernel_rfl) rfl ?_ ⟨?_,?_,?_,?_,?_,?_,?_,?_,?_,?_,?_,?_,?_,?_,?_,?_,?_,?_,?_,?_,?_,?_,?_,?_,?_,?_,?_,?_,?_,?_,?_,?_,?_,?_,?_,?_,?_,?_,?_,?_,?_,?_,?_,?_,?_,trivial⟩ ?_
  ·exact⟨Zi,Zi,Zi,Zi,Zi,Zi,Zi,Zi,Zi,Zi,Zi,Zi,Zi,Zi,Zi,Zi,Zi,Zi,Zi,Zi,Zi,Zi,Zi,Zi,Zi,Zi,Zi,Zi,Zi,Zi,Zi,Zi,Zi,Zi,Zi,Zi,Zi,Zi,Zi,Zi,Zi,Zi,Zi,Zi,Zi,trivial⟩
  ·intro u w hR hd;exact rn_fld_35_1 (ev rfl) Zr
  ·intro u w hR hd;exact rn_ld_9 (ev (hd.1 rfl)) (d1.kept hR) Zr
  ·intro u w hR hd;exact rn_fld_117_0 (ev rfl) Zr
  ·intro u w hR hd;exact rn_ld_4 (ev (hd.1 rfl)) (e0.kept hR) Zr
  ·intro u w hR hd;exact runs_c2 en_nm (ev (hd.1 rfl)) (ev (hd.2.1 rfl)) (callp (fun _ e=>e) (HNM.out _ (HGV.out.trans hR)))
  ·intro u w hR hd;exact runs_mv (ev (hd.1 rfl)) Zr
  ·intro u w hR hd;exact⟨fun hg=>have hG:((if (exR (kn:Int)).b then idn sx else decide (sx=⟨#[]⟩))=true):=Value.bool.inj ((hd.1 rfl).symm.trans hg);rn_fld_35_2 (ev rfl) (Zs hG),Zn (hd.1 rfl)⟩
  ·intro u w hR hd;exact⟨fun hg=>have hG:((if (exR (kn:Int)).b then idn sx else decide (sx=⟨#[]⟩))=true):=Value.bool.inj ((hd.2.1 rfl).symm.trans hg);rn_ld_32 (ev ((hd.1 rfl).1 hG)) (d2.kept hR) (Zs hG),Zn (hd.2.1 rfl)⟩
  ·intro u w hR hd;exact⟨fun hg=>have hG:((if (exR (kn:Int)).b then idn sx else decide (sx=⟨#[]⟩))=true):=Value.bool.inj ((hd.2.1 rfl).symm.trans hg);rn_leq_32 rfl (ev ((hd.1 rfl).1 hG)) (Zs hG),Zn (hd.2.1 rfl)⟩
  ·intro u w hR hd;exact runs_an (ev (hd.1 rfl)) (fun hb=>ev ((hd.2.1 rfl).1 hb)) Zr
  ·intro u w hR hd;exact runs_mv (ev (hd.1 rfl)) Zr
  ·intro u w hR hd;exact⟨fun hg=>have hG:(((if (exR (kn:Int)).b then idn sx else decide (sx=⟨#[]⟩))&&(decide ((0)≤(vx))))=true):=Value.bool.inj ((hd.1 rfl).symm.trans hg);rn_fld_35_2 (ev rfl) (Zs hG),Zn (hd.1 rfl)⟩
  ·intro u w hR hd;exact⟨fun hg=>have hG:(((if (exR (kn:Int)).b then idn sx else decide (sx=⟨#[]⟩))&&(decide ((0)≤(vx))))=true):=Value.bool.inj ((hd.2.1 rfl).symm.trans hg);rn_ld_32 (ev ((hd.1 rfl).1 hG)) (d2.kept hR) (Zs hG),Zn (hd.2.1 rfl)⟩
  ·intro u w hR hd;exact⟨fun hg=>have hG:(((if (exR (kn:Int)).b then idn sx else decide (sx=⟨#[]⟩))&&(decide ((0)≤(vx))))=true):=Value.bool.inj ((hd.1 rfl).symm.trans hg);rn_fld_117_1 (ev rfl) (Zs hG),Zn (hd.1 rfl)⟩
  ·intro u w hR hd;exact⟨fun hg=>have hG:(((if (exR (kn:Int)).b then idn sx else decide (sx=⟨#[]⟩))&&(decide ((0)≤(vx))))=true):=Value.bool.inj ((hd.2.1 rfl).symm.trans hg);rn_ld_32 (ev ((hd.1 rfl).1 hG)) (e1.kept hR) (Zs hG),Zn (hd.2.1 rfl)⟩
  ·intro u w hR hd;exact⟨fun hg=>have hG:(((if (exR (kn:Int)).b then idn sx else decide (sx=⟨#[]⟩))&&(decide ((0)≤(vx))))=true):=Value.bool.inj ((hd.2.2.1 rfl).symm.trans hg);rn_leq_32 (ev ((hd.1 rfl).1 hG)) (ev ((hd.2.1 rfl).1 hG)) (Zs hG),Zn (hd.2.2.1 rfl)⟩
  ·intro u w hR hd;exact runs_an (ev (hd.1 rfl)) (fun hb=>ev ((hd.2.1 rfl).1 hb)) Zr
  ·intro u w hR hd;exact runs_mv (ev (hd.1 rfl)) Zr
  ·intro u w hR hd;exact⟨fun hg=>have hG:((((if (exR (kn:Int)).b then idn sx else decide (sx=⟨#[]⟩))&&(decide ((0)≤(vx))))&&(decide ((vx)≤((exR (kn:Int)).v))))=true):=Value.bool.inj ((hd.1 rfl).symm.trans hg);rn_fld_117_2 (ev rfl) (Zs hG),Zn (hd.1 rfl)⟩
  ·intro u w hR hd;exact⟨fun hg=>have hG:((((if (exR (kn:Int)).b then idn sx else decide (sx=⟨#[]⟩))&&(decide ((0)≤(vx))))&&(decide ((vx)≤((exR (kn:Int)).v))))=true):=Value.bool.inj ((hd.2.1 rfl).symm.trans hg);rn_ld_3 (ev ((hd.1 rfl).1 hG)) (e2.kept hR) (Zs hG),Zn (hd.2.1 rfl)⟩
  ·intro u w hR hd;exact⟨fun hg=>have hG:((((if (exR (kn:Int)).b then idn sx else decide (sx=⟨#[]⟩))&&(decide ((0)≤(vx))))&&(decide ((vx)≤((exR (kn:Int)).v))))=true):=Value.bool.inj ((hd.1 rfl).symm.trans hg);rn_fld_35_3 (ev rfl) (Zs hG),Zn (hd.1 rfl)⟩
  ·intro u w hR hd;exact⟨fun hg=>have hG:((((if (exR (kn:Int)).b then idn sx else decide (sx=⟨#[]⟩))&&(decide ((0)≤(vx))))&&(decide ((vx)≤((exR (kn:Int)).v))))=true):=Value.bool.inj ((hd.2.1 rfl).symm.trans hg);rn_ld_3 (ev ((hd.1 rfl).1 hG)) (d3.kept hR) (Zs hG),Zn (hd.2.1 rfl)⟩
  ·intro u w hR hd;exact⟨fun hg=>have hG:((((if (exR (kn:Int)).b then idn sx else decide (sx=⟨#[]⟩))&&(decide ((0)≤(vx))))&&(decide ((vx)≤((exR (kn:Int)).v))))=true):=Value.bool.inj ((hd.2.2.1 rfl).symm.trans hg);rn_leq_3 (ev ((hd.1 rfl).1 hG)) (ev ((hd.2.1 rfl).1 hG)) (Zs hG),Zn (hd.2.2.1 rfl)⟩
  ·intro u w hR hd;exact runs_an (ev (hd.1 rfl)) (fun hb=>ev ((hd.2.1 rfl).1 hb)) Zr
  ·intro u w hR hd;exact runs_mv (ev (hd.1 rfl)) Zr
  ·intro u w hR hd;exact⟨fun hg=>have hG:(((((if (exR (kn:Int)).b then idn sx else decide (sx=⟨#[]⟩))&&(decide ((0)≤(vx))))&&(decide ((vx)≤((exR (kn:Int)).v))))&&(decide (((exR (kn:Int)).f)≤(ox))))=true):=Value.bool.inj ((hd.1 rfl).symm.trans hg);rn_fld_35_3 (ev rfl) (Zs hG),Zn (hd.1 rfl)⟩
  ·intro u w hR hd;exact⟨fun hg=>have hG:(((((if (exR (kn:Int)).b then idn sx else decide (sx=⟨#[]⟩))&&(decide ((0)≤(vx))))&&(decide ((vx)≤((exR (kn:Int)).v))))&&(decide (((exR (kn:Int)).f)≤(ox))))=true):=Value.bool.inj ((hd.2.1 rfl).symm.trans hg);rn_ld_3 (ev ((hd.1 rfl).1 hG)) (d3.kept hR) (Zs hG),Zn (hd.2.1 rfl)⟩
  ·intro u w hR hd;exact⟨fun hg=>have hG:(((((if (exR (kn:Int)).b then idn sx else decide (sx=⟨#[]⟩))&&(decide ((0)≤(vx))))&&(decide ((vx)≤((exR (kn:Int)).v))))&&(decide (((exR (kn:Int)).f)≤(ox))))=true):=Value.bool.inj ((hd.1 rfl).symm.trans hg);rn_fld_117_3 (ev rfl) (Zs hG),Zn (hd.1 rfl)⟩
  ·intro u w hR hd;exact⟨fun hg=>have hG:(((((if (exR (kn:Int)).b then idn sx else decide (sx=⟨#[]⟩))&&(decide ((0)≤(vx))))&&(decide ((vx)≤((exR (kn:Int)).v))))&&(decide (((exR (kn:Int)).f)≤(ox))))=true):=Value.bool.inj ((hd.2.1 rfl).symm.trans hg);rn_ld_3 (ev ((hd.1 rfl).1 hG)) (e3.kept hR) (Zs hG),Zn (hd.2.1 rfl)⟩
  ·intro u w hR hd;exact⟨fun hg=>have hG:(((((if (exR (kn:Int)).b then idn sx else decide (sx=⟨#[]⟩))&&(decide ((0)≤(vx))))&&(decide ((vx)≤((exR (kn:Int)).v))))&&(decide (((exR (kn:Int)).f)≤(ox))))=true):=Value.bool.inj ((hd.2.2.1 rfl).symm.trans hg);rn_leq_3 (ev ((hd.1 rfl).1 hG)) (ev ((hd.2.1 rfl).1 hG)) (Zs hG),Zn (hd.2.2.1 rfl)⟩
  ·intro u w hR hd;exact runs_an (ev (hd.1 rfl)) (fun hb=>ev ((hd.2.1 rfl).1 hb)) Zr
  ·intro u w hR hd;exact runs_mv (ev (hd.1 rfl)) Zr
  ·intro u w hR hd;exact⟨fun hg=>have hG:((((((if (exR (kn:Int)).b then idn sx else decide (sx=⟨#[]⟩))&&(decide ((0)≤(vx))))&&(decide ((vx)≤((exR (kn:Int)).v))))&&(decide (((exR (kn:Int)).f)≤(ox))))&&(decide ((ox)≤((exR (kn:Int)).l))))=true):=Value.bool.inj ((hd.1 rfl).symm.trans hg);rn_fld_35_4 (ev rfl) (Zs hG),Zn (hd.1 rfl)⟩
  ·intro u w hR hd;exact⟨fun hg=>have hG:((((((if (exR (kn:Int)).b then idn sx else decide (sx=⟨#[]⟩))&&(decide ((0)≤(vx))))&&(decide ((vx)≤((exR (kn:Int)).v))))&&(decide (((exR (kn:Int)).f)≤(ox))))&&(decide ((ox)≤((exR (kn:Int)).l))))=true):=Value.bool.inj ((hd.2.1 rfl).symm.trans hg);rn_ld_33 (ev ((hd.1 rfl).1 hG)) (d4.kept hR) (Zs hG),Zn (hd.2.1 rfl)⟩
  ·intro u w hR hd;exact⟨fun hg=>have hG:((((((if (exR (kn:Int)).b then idn sx else decide (sx=⟨#[]⟩))&&(decide ((0)≤(vx))))&&(decide ((vx)≤((exR (kn:Int)).v))))&&(decide (((exR (kn:Int)).f)≤(ox))))&&(decide ((ox)≤((exR (kn:Int)).l))))=true):=Value.bool.inj ((hd.2.1 rfl).symm.trans hg);rn_len_33 (ev ((hd.1 rfl).1 hG)) (Zs hG),Zn (hd.2.1 rfl)⟩
  ·intro u w hR hd;exact⟨fun hg=>have hG:((((((if (exR (kn:Int)).b then idn sx else decide (sx=⟨#[]⟩))&&(decide ((0)≤(vx))))&&(decide ((vx)≤((exR (kn:Int)).v))))&&(decide (((exR (kn:Int)).f)≤(ox))))&&(decide ((ox)≤((exR (kn:Int)).l))))=true):=Value.bool.inj ((hd.1 rfl).symm.trans hg);rn_fld_117_4 (ev rfl) (Zs hG),Zn (hd.1 rfl)⟩
  ·intro u w hR hd;exact⟨fun hg=>have hG:((((((if (exR (kn:Int)).b then idn sx else decide (sx=⟨#[]⟩))&&(decide ((0)≤(vx))))&&(decide ((vx)≤((exR (kn:Int)).v))))&&(decide (((exR (kn:Int)).f)≤(ox))))&&(decide ((ox)≤((exR (kn:Int)).l))))=true):=Value.bool.inj ((hd.2.1 rfl).symm.trans hg);rn_ld_3 (ev ((hd.1 rfl).1 hG)) (e4.kept hR) (Zs hG),Zn (hd.2.1 rfl)⟩
  ·intro u w hR hd;exact⟨fun hg=>have hG:((((((if (exR (kn:Int)).b then idn sx else decide (sx=⟨#[]⟩))&&(decide ((0)≤(vx))))&&(decide ((vx)≤((exR (kn:Int)).v))))&&(decide (((exR (kn:Int)).f)≤(ox))))&&(decide ((ox)≤((exR (kn:Int)).l))))=true):=Value.bool.inj ((hd.2.2.1 rfl).symm.trans hg);rn_eql_3 (ev ((hd.1 rfl).1 hG)) (ev ((hd.2.1 rfl).1 hG)) (Zs hG),Zn (hd.2.2.1 rfl)⟩
  ·intro u w hR hd;exact runs_an (ev (hd.1 rfl)) (fun hb=>ev ((hd.2.1 rfl).1 hb)) Zr
  ·intro u w hR hd;exact runs_mv (ev (hd.1 rfl)) Zr
  ·intro u w hR hd;exact⟨fun hg=>have hG:(((((((if (exR (kn:Int)).b then idn sx else decide (sx=⟨#[]⟩))&&(decide ((0)≤(vx))))&&(decide ((vx)≤((exR (kn:Int)).v))))&&(decide (((exR (kn:Int)).f)≤(ox))))&&(decide ((ox)≤((exR (kn:Int)).l))))&&((((rx.length:Nat):Int))==((exR (kn:Int)).n)))=true):=Value.bool.inj ((hd.1 rfl).symm.trans hg);rn_fld_35_4 (ev rfl) (Zs hG),Zn (hd.1 rfl)⟩
  ·intro u w hR hd;exact⟨fun hg=>have hG:(((((((if (exR (kn:Int)).b then idn sx else decide (sx=⟨#[]⟩))&&(decide ((0)≤(vx))))&&(decide ((vx)≤((exR (kn:Int)).v))))&&(decide (((exR (kn:Int)).f)≤(ox))))&&(decide ((ox)≤((exR (kn:Int)).l))))&&((((rx.length:Nat):Int))==((exR (kn:Int)).n)))=true):=Value.bool.inj ((hd.2.1 rfl).symm.trans hg);rn_ld_33 (ev ((hd.1 rfl).1 hG)) (d4.kept hR) (Zs hG),Zn (hd.2.1 rfl)⟩
  ·intro u w hR hd;exact⟨fun hg=>have hG:(((((((if (exR (kn:Int)).b then idn sx else decide (sx=⟨#[]⟩))&&(decide ((0)≤(vx))))&&(decide ((vx)≤((exR (kn:Int)).v))))&&(decide (((exR (kn:Int)).f)≤(ox))))&&(decide ((ox)≤((exR (kn:Int)).l))))&&((((rx.length:Nat):Int))==((exR (kn:Int)).n)))=true):=Value.bool.inj ((hd.2.1 rfl).symm.trans hg);runs_c2 en_evX (ev ((hd.1 rfl).1 hG)) rfl (callp (fun _ e=>⟨fun _=>e,fun hn=>absurd hG hn⟩) (HEV.out _ (HGV.out.trans hR))),Zn (hd.2.1 rfl)⟩
  ·intro u w hR hd;exact runs_an (ev (hd.1 rfl)) (fun hb=>ev ((hd.2.1 rfl).1 hb)) Zr
  ·intro u w hR hd;exact runs_mva (ev (hd.1 rfl)) Zr
  ·intro u w4 hR hh
   have he:u 2=.bool (((((((if (exR (kn:Int)).b then idn sx else decide (sx=⟨#[]⟩))&&(decide ((0)≤(vx))))&&(decide ((vx)≤((exR (kn:Int)).v))))&&(decide (((exR (kn:Int)).f)≤(ox))))&&(decide ((ox)≤((exR (kn:Int)).l))))&&((((rx.length:Nat):Int))==((exR (kn:Int)).n)))&&(rx.all okX)):=hh 44 (by decide)
   rw [HEQ.out] at he
   simp only [mixA,mixL,zz9,zz0,he]
   have HG4:Hid (Grew w w4):=Lib.hid (HGV.out.trans hR)
   clear hh he hR d0 d1 d2 d3 d4 d5 e0 e1 e2 e3 e4 HGV
   go_wp2
   go_ret
   exact⟨rfl,HG4.out⟩
end Go.Proofs.YtcknpcbkofgdoaaGreatDoor
namespace Go.Proofs.YtcknpcbkofgdoaaGreatDoor
open Go Go.RowKit Go.IntWalk
set_option linter.unusedSimpArgs false
set_option linter.unusedVariables false
set_option maxRecDepth 8000
theorem okS_out {k nx qx:Int}{sx:ByteArray}{rx:List Xp}{yx ex:List Sm}(h:k≤0∨14≤k):okS ⟨k,sx,nx,rx,yx,ex,qx⟩=false:=by
 have h1:shO k=false:=by
  rw [shO,Bool.and_eq_false_iff,decide_eq_false_iff_not,decide_eq_false_iff_not]
  omega
 rw [okS,hdS,h1]
 rfl
set_option maxHeartbeats 4000000 in
theorem formS_eq (kn:Nat) (h1:1≤kn) (h7:kn < 14) (sx:ByteArray) (nx qx:Int) (rx:List Xp) (yx ex:List Sm) :
 (((((((((if (ssR (kn:Int)).b then idn sx else decide (sx=⟨#[]⟩))&&(decide ((0)≤(nx))))&&(decide ((nx)≤((ssR (kn:Int)).n))))&&((((rx.length:Nat):Int))==((ssR (kn:Int)).a)))&&(((ssR (kn:Int)).y)||((((yx.length:Nat):Int))==(0))))&&(((ssR (kn:Int)).e)||((((ex.length:Nat):Int))==(0))))&&(rx.all okX))&&(yx.all okS))&&(ex.all okS))=okS ⟨(kn:Int),sx,nx,rx,yx,ex,qx⟩:=by
 have he0:(⟨([]:List UInt8).toArray⟩:ByteArray)=⟨#[]⟩:=rfl
 rw [okS,okXs_lall,okSs_lall,okSs_lall]
 have hk:kn=1∨kn=2∨kn=3∨kn=4∨kn=5∨kn=6∨kn=7∨kn=8∨kn=9∨kn=10∨kn=11∨kn=12∨kn=13:=by omega
 cases hR:rx.all okX with
 | false=>simp only [Bool.and_false,Bool.false_and]
 | true =>
 cases hY:yx.all okS with
 | false=>simp only [Bool.and_false,Bool.false_and]
 | true =>
 cases hZ:ex.all okS with
 | false=>simp only [Bool.and_false,Bool.false_and]
 | true =>
 simp only [Bool.and_true]
 clear hR hY hZ
 rcases hk with rfl | rfl | rfl | rfl | rfl | rfl | rfl | rfl | rfl | rfl | rfl | rfl | rfl
 ·have r:ssR ((1:Nat):Int)=⟨true,0,1,false,false⟩:=rfl
  have s1:shO ((1:Nat):Int)=true:=by decide
  have s2:shA ((1:Nat):Int)=1:=by decide
  have s3:shN ((1:Nat):Int)=true:=by decide
  have s4:shM ((1:Nat):Int)=false:=by decide
  have s5:shB ((1:Nat):Int)=false:=by decide
  have s6:shE ((1:Nat):Int)=false:=by decide
  rw [r,hdS,s1,s2,s3,s4,s5,s6,he0,num1]
  simp only [beq_dec,bne_dec]
  generalize idn sx=D
  generalize decide (sx=⟨#[]⟩)=E
  generalize rx.length=a
  generalize yx.length=b
  generalize ex.length=c
  rw [Bool.eq_iff_iff]
  cases D <;> simp <;> omega
 ·have r:ssR ((2:Nat):Int)=⟨true,0,1,false,false⟩:=rfl
  have s1:shO ((2:Nat):Int)=true:=by decide
  have s2:shA ((2:Nat):Int)=1:=by decide
  have s3:shN ((2:Nat):Int)=true:=by decide
  have s4:shM ((2:Nat):Int)=false:=by decide
  have s5:shB ((2:Nat):Int)=false:=by decide
  have s6:shE ((2:Nat):Int)=false:=by decide
  rw [r,hdS,s1,s2,s3,s4,s5,s6,he0,num1]
  simp only [beq_dec,bne_dec]
  generalize idn sx=D
  generalize decide (sx=⟨#[]⟩)=E
  generalize rx.length=a
  generalize yx.length=b
  generalize ex.length=c
  rw [Bool.eq_iff_iff]
  cases D <;> simp <;> omega
 ·have r:ssR ((3:Nat):Int)=⟨true,0,2,false,false⟩:=rfl
  have s1:shO ((3:Nat):Int)=true:=by decide
  have s2:shA ((3:Nat):Int)=2:=by decide
  have s3:shN ((3:Nat):Int)=true:=by decide
  have s4:shM ((3:Nat):Int)=false:=by decide
  have s5:shB ((3:Nat):Int)=false:=by decide
  have s6:shE ((3:Nat):Int)=false:=by decide
  rw [r,hdS,s1,s2,s3,s4,s5,s6,he0,num1]
  simp only [beq_dec,bne_dec]
  generalize idn sx=D
  generalize decide (sx=⟨#[]⟩)=E
  generalize rx.length=a
  generalize yx.length=b
  generalize ex.length=c
  rw [Bool.eq_iff_iff]
  cases D <;> simp <;> omega
 ·have r:ssR ((4:Nat):Int)=⟨false,0,1,true,true⟩:=rfl
  have s1:shO ((4:Nat):Int)=true:=by decide
  have s2:shA ((4:Nat):Int)=1:=by decide
  have s3:shN ((4:Nat):Int)=false:=by decide
  have s4:shM ((4:Nat):Int)=false:=by decide
  have s5:shB ((4:Nat):Int)=true:=by decide
  have s6:shE ((4:Nat):Int)=true:=by decide
  rw [r,hdS,s1,s2,s3,s4,s5,s6,he0,num1]
  simp only [beq_dec,bne_dec]
  generalize idn sx=D
  generalize decide (sx=⟨#[]⟩)=E
  generalize rx.length=a
  generalize yx.length=b
  generalize ex.length=c
  rw [Bool.eq_iff_iff]
  cases E <;> simp <;> omega
 ·have r:ssR ((5:Nat):Int)=⟨false,32767,0,true,false⟩:=rfl
  have s1:shO ((5:Nat):Int)=true:=by decide
  have s2:shA ((5:Nat):Int)=0:=by decide
  have s3:shN ((5:Nat):Int)=false:=by decide
  have s4:shM ((5:Nat):Int)=true:=by decide
  have s5:shB ((5:Nat):Int)=true:=by decide
  have s6:shE ((5:Nat):Int)=false:=by decide
  rw [r,hdS,s1,s2,s3,s4,s5,s6,he0,num1]
  simp only [beq_dec,bne_dec]
  generalize idn sx=D
  generalize decide (sx=⟨#[]⟩)=E
  generalize rx.length=a
  generalize yx.length=b
  generalize ex.length=c
  rw [Bool.eq_iff_iff]
  cases E <;> simp <;> omega
 ·have r:ssR ((6:Nat):Int)=⟨false,0,1,true,false⟩:=rfl
  have s1:shO ((6:Nat):Int)=true:=by decide
  have s2:shA ((6:Nat):Int)=1:=by decide
  have s3:shN ((6:Nat):Int)=false:=by decide
  have s4:shM ((6:Nat):Int)=false:=by decide
  have s5:shB ((6:Nat):Int)=true:=by decide
  have s6:shE ((6:Nat):Int)=false:=by decide
  rw [r,hdS,s1,s2,s3,s4,s5,s6,he0,num1]
  simp only [beq_dec,bne_dec]
  generalize idn sx=D
  generalize decide (sx=⟨#[]⟩)=E
  generalize rx.length=a
  generalize yx.length=b
  generalize ex.length=c
  rw [Bool.eq_iff_iff]
  cases E <;> simp <;> omega
 ·have r:ssR ((7:Nat):Int)=⟨true,0,1,false,false⟩:=rfl
  have s1:shO ((7:Nat):Int)=true:=by decide
  have s2:shA ((7:Nat):Int)=1:=by decide
  have s3:shN ((7:Nat):Int)=true:=by decide
  have s4:shM ((7:Nat):Int)=false:=by decide
  have s5:shB ((7:Nat):Int)=false:=by decide
  have s6:shE ((7:Nat):Int)=false:=by decide
  rw [r,hdS,s1,s2,s3,s4,s5,s6,he0,num1]
  simp only [beq_dec,bne_dec]
  generalize idn sx=D
  generalize decide (sx=⟨#[]⟩)=E
  generalize rx.length=a
  generalize yx.length=b
  generalize ex.length=c
  rw [Bool.eq_iff_iff]
  cases D <;> simp <;> omega
 ·have r:ssR ((8:Nat):Int)=⟨false,0,1,false,false⟩:=rfl
  have s1:shO ((8:Nat):Int)=true:=by decide
  have s2:shA ((8:Nat):Int)=1:=by decide
  have s3:shN ((8:Nat):Int)=false:=by decide
  have s4:shM ((8:Nat):Int)=false:=by decide
  have s5:shB ((8:Nat):Int)=false:=by decide
  have s6:shE ((8:Nat):Int)=false:=by decide
  rw [r,hdS,s1,s2,s3,s4,s5,s6,he0,num1]
  simp only [beq_dec,bne_dec]
  generalize idn sx=D
  generalize decide (sx=⟨#[]⟩)=E
  generalize rx.length=a
  generalize yx.length=b
  generalize ex.length=c
  rw [Bool.eq_iff_iff]
  cases E <;> simp <;> omega
 ·have r:ssR ((9:Nat):Int)=⟨true,0,1,false,false⟩:=rfl
  have s1:shO ((9:Nat):Int)=true:=by decide
  have s2:shA ((9:Nat):Int)=1:=by decide
  have s3:shN ((9:Nat):Int)=true:=by decide
  have s4:shM ((9:Nat):Int)=false:=by decide
  have s5:shB ((9:Nat):Int)=false:=by decide
  have s6:shE ((9:Nat):Int)=false:=by decide
  rw [r,hdS,s1,s2,s3,s4,s5,s6,he0,num1]
  simp only [beq_dec,bne_dec]
  generalize idn sx=D
  generalize decide (sx=⟨#[]⟩)=E
  generalize rx.length=a
  generalize yx.length=b
  generalize ex.length=c
  rw [Bool.eq_iff_iff]
  cases D <;> simp <;> omega
 ·have r:ssR ((10:Nat):Int)=⟨false,32767,0,true,false⟩:=rfl
  have s1:shO ((10:Nat):Int)=true:=by decide
  have s2:shA ((10:Nat):Int)=0:=by decide
  have s3:shN ((10:Nat):Int)=false:=by decide
  have s4:shM ((10:Nat):Int)=true:=by decide
  have s5:shB ((10:Nat):Int)=true:=by decide
  have s6:shE ((10:Nat):Int)=false:=by decide
  rw [r,hdS,s1,s2,s3,s4,s5,s6,he0,num1]
  simp only [beq_dec,bne_dec]
  generalize idn sx=D
  generalize decide (sx=⟨#[]⟩)=E
  generalize rx.length=a
  generalize yx.length=b
  generalize ex.length=c
  rw [Bool.eq_iff_iff]
  cases E <;> simp <;> omega
 ·have r:ssR ((11:Nat):Int)=⟨false,32767,0,true,false⟩:=rfl
  have s1:shO ((11:Nat):Int)=true:=by decide
  have s2:shA ((11:Nat):Int)=0:=by decide
  have s3:shN ((11:Nat):Int)=false:=by decide
  have s4:shM ((11:Nat):Int)=true:=by decide
  have s5:shB ((11:Nat):Int)=true:=by decide
  have s6:shE ((11:Nat):Int)=false:=by decide
  rw [r,hdS,s1,s2,s3,s4,s5,s6,he0,num1]
  simp only [beq_dec,bne_dec]
  generalize idn sx=D
  generalize decide (sx=⟨#[]⟩)=E
  generalize rx.length=a
  generalize yx.length=b
  generalize ex.length=c
  rw [Bool.eq_iff_iff]
  cases E <;> simp <;> omega
 ·have r:ssR ((12:Nat):Int)=⟨false,0,0,false,false⟩:=rfl
  have s1:shO ((12:Nat):Int)=true:=by decide
  have s2:shA ((12:Nat):Int)=0:=by decide
  have s3:shN ((12:Nat):Int)=false:=by decide
  have s4:shM ((12:Nat):Int)=false:=by decide
  have s5:shB ((12:Nat):Int)=false:=by decide
  have s6:shE ((12:Nat):Int)=false:=by decide
  rw [r,hdS,s1,s2,s3,s4,s5,s6,he0,num1]
  simp only [beq_dec,bne_dec]
  generalize idn sx=D
  generalize decide (sx=⟨#[]⟩)=E
  generalize rx.length=a
  generalize yx.length=b
  generalize ex.length=c
  rw [Bool.eq_iff_iff]
  cases E <;> simp <;> omega
 ·have r:ssR ((13:Nat):Int)=⟨false,0,0,false,false⟩:=rfl
  have s1:shO ((13:Nat):Int)=true:=by decide
  have s2:shA ((13:Nat):Int)=0:=by decide
  have s3:shN ((13:Nat):Int)=false:=by decide
  have s4:shM ((13:Nat):Int)=false:=by decide
  have s5:shB ((13:Nat):Int)=false:=by decide
  have s6:shE ((13:Nat):Int)=false:=by decide
  rw [r,hdS,s1,s2,s3,s4,s5,s6,he0,num1]
  simp only [beq_dec,bne_dec]
  generalize idn sx=D
  generalize decide (sx=⟨#[]⟩)=E
  generalize rx.length=a
  generalize yx.length=b
  generalize ex.length=c
  rw [Bool.eq_iff_iff]
  cases E <;> simp <;> omega
end Go.Proofs.YtcknpcbkofgdoaaGreatDoor
namespace Go.Proofs.YtcknpcbkofgdoaaGreatDoor
open Go Go.RowKit Go.IntWalk
set_option linter.unusedSimpArgs false
set_option linter.unusedVariables false
set_option maxRecDepth 8000
section
variable {dst:Option Tmp}{ty:TypeId}{pos:String}{after:Array Edge}{g:Option (Nat × Bool)}{a:Act}{w:World}{T:Value→World→Prop}
end
set_option maxHeartbeats 8000000 in
theorem formS_any:∀(x:Sm) (B:Nat→Prop) (w:World) (pa:Option Addr) (ca:Nat) (pb:Option Addr) (cb:Nat) (pe:Option Addr) (ce:Nat),x.s.size≤1048576→XL B w pa ca x.ar→SL B w pb cb x.b→SL B w pe ce x.e→Env w →
 Calls Tryz.prog 114 #[sv x.k x.s x.n pa x.ar.length ca pb x.b.length cb pe x.e.length ce x.q] w fun e w'=>e=.returned (.bool (okS x))∧Grew w w':=by
 intro x
 induction x using Sm.ind with
 | h kx sx nx rx yx ex qx ihb ihe =>
 intro B w pa ca pb cb pe ce hz hx hy he hE
 replace hz:sx.size≤1048576:=hz
 replace hx:XL B w pa ca rx:=hx
 replace hy:SL B w pb cb yx:=hy
 replace he:SL B w pe ce ex:=he
 show Calls Tryz.prog 114 #[sv kx sx nx pa rx.length ca pb yx.length cb pe ex.length ce qx] w fun e w'=>e=.returned (.bool (okS ⟨kx,sx,nx,rx,yx,ex,qx⟩))∧Grew w w'
 have hcap:rx.length≤ca∧yx.length≤cb∧ex.length≤ce:=⟨hx.cap.1,hy.cap.1,he.cap.1⟩
 have hmax:=And.intro hx.cap.2.1 (And.intro hy.cap.2.1 he.cap.2.1)
 by_cases h0:kx≤0
 ·rw [okS_out (.inl h0)]
  clear ihb ihe hx hy he hE
  go_enter Tryz.func114,Tryz.ntmps114
  go_wp2
  go_ret
  exact⟨rfl,(Grew.refl _).alloc _⟩
 by_cases h7:14≤kx
 ·rw [okS_out (.inr h7)]
  clear ihb ihe hx hy he hE
  go_enter Tryz.func114,Tryz.ntmps114
  go_wp2
  go_ret
  exact⟨rfl,(Grew.refl _).alloc _⟩
 ·obtain ⟨kn,rfl⟩:∃k:Nat,kx=(k:Int):=⟨kx.toNat,by omega⟩
  have hk1:1≤kn:=by omega
  have hk7:kn < 14:=by omega
  have HE:=Lib.hid hE
  have HNM:=Lib.hid (fun W (hW:Grew w W)=>name_any sx (ssR (kn:Int)).b hz W (HE.out.grew hW))
  have HEV:Hid (∀W,Grew w W→Calls Tryz.prog 100 #[.slice pa rx.length ca,.func (.func 48) #[] #[]] W fun e w'=>e=.returned (.bool (rx.all okX))∧Grew W w') :=
   Lib.hid (fun W hW=>everyX_any 48 #[] en_fx rx okX B W pa ca (hx.kept hW) (fun y _ p_ c_ W2 hy1 hy2 hW2=>formX_any y B W2 p_ c_ hy2 hy1 (HE.out.grew (hW.trans hW2))))
  have HEY:Hid (∀W,Grew w W→Calls Tryz.prog 113 #[.slice pb yx.length cb,.func (.func 114) #[] #[]] W fun e w'=>e=.returned (.bool (yx.all okS))∧Grew W w') :=
   Lib.hid (fun W hW=>everyS_any 114 #[] en_fs yx okS B W pb cb (hy.kept hW) (fun y hy' a1 a2 a3 a4 a5 a6 W2 q1 q2 q3 q4 hW2=>ihb y hy' B W2 a1 a2 a3 a4 a5 a6 q4 q1 q2 q3 (HE.out.grew (hW.trans hW2))))
  have HEE:Hid (∀W,Grew w W→Calls Tryz.prog 113 #[.slice pe ex.length ce,.func (.func 114) #[] #[]] W fun e w'=>e=.returned (.bool (ex.all okS))∧Grew W w') :=
   Lib.hid (fun W hW=>everyS_any 114 #[] en_fs ex okS B W pe ce (he.kept hW) (fun y hy' a1 a2 a3 a4 a5 a6 W2 q1 q2 q3 q4 hW2=>ihe y hy' B W2 a1 a2 a3 a4 a5 a6 q4 q1 q2 q3 (HE.out.grew (hW.trans hW2))))
  have hec:=fun j {v:Value}(hv:(ss5 (ssR (kn:Int)))[j]?=some v)=>hE.st kn hk7 j hv
  clear ihb ihe hx hy he hE h0 h7
  have h0:w.cell? ⟨3,kn * 5,none⟩=some (.bool (ssR (kn:Int)).b):=hec 0 rfl
  have h1:w.cell? ⟨3,kn * 5+1,none⟩=some (.int .i64 (ssR (kn:Int)).n):=hec 1 rfl
  have h2:w.cell? ⟨3,kn * 5+2,none⟩=some (.int .i64 (ssR (kn:Int)).a):=hec 2 rfl
  have h3:w.cell? ⟨3,kn * 5+3,none⟩=some (.bool (ssR (kn:Int)).y):=hec 3 rfl
  have h4:w.cell? ⟨3,kn * 5+4,none⟩=some (.bool (ssR (kn:Int)).e):=hec 4 rfl
  have b0:¬ (kn:Int)≤0:=by omega
  have b1:¬ (14:Int)≤(kn:Int):=by omega
  have b2:3 < w.heap.size:=World.block_lt_of_cell? _ _ h0
  have b3:(kn:Int) < (14:Int):=by omega
  have b4:(0:Int)≤(kn:Int):=by omega
  have HEQ:=Lib.hid (formS_eq kn hk1 hk7 sx nx qx rx yx ex)
  clear hec hk1 hk7 hz
  go_enter Tryz.func114,Tryz.ntmps114
  go_upto_region 4 with fail
  have hb1:Blk w.heap.size [.int .i64 (kn:Int),.string sx,.int .i64 nx,.slice pa rx.length ca,.slice pb yx.length cb,.slice pe ex.length ce,.int .i64 qx] 49 (w.alloc (Obj.cells #[.int .i64 (kn:Int),.string sx,.int .i64 nx,.slice pa rx.length ca,.slice pb yx.length cb,.slice pe ex.length ce,.int .i64 qx] 49)):=Blk.new w _ _
  have hb2:Blk (w.alloc (Obj.cells #[.int .i64 (kn:Int),.string sx,.int .i64 nx,.slice pa rx.length ca,.slice pb yx.length cb,.slice pe ex.length ce,.int .i64 qx] 49)).heap.size [.bool (ssR (kn:Int)).b,.int .i64 (ssR (kn:Int)).n,.int .i64 (ssR (kn:Int)).a,.bool (ssR (kn:Int)).y,.bool (ssR (kn:Int)).e] 164 ((w.alloc (Obj.cells #[.int .i64 (kn:Int),.string sx,.int .i64 nx,.slice pa rx.length ca,.slice pb yx.length cb,.slice pe ex.length ce,.int .i64 qx] 49)).alloc (Obj.cells #[.bool (ssR (kn:Int)).b,.int .i64 (ssR (kn:Int)).n,.int .i64 (ssR (kn:Int)).a,.bool (ssR (kn:Int)).y,.bool (ssR (kn:Int)).e] 164)):=Blk.new _ _ _
  have hb3:=hb1.grew ((Grew.refl _).alloc (Obj.cells #[.bool (ssR (kn:Int)).b,.int .i64 (ssR (kn:Int)).n,.int .i64 (ssR (kn:Int)).a,.bool (ssR (kn:Int)).y,.bool (ssR (kn:Int)).e] 164))
  have hgV:Grew w ((w.alloc (Obj.cells #[.int .i64 (kn:Int),.string sx,.int .i64 nx,.slice pa rx.length ca,.slice pb yx.length cb,.slice pe ex.length ce,.int .i64 qx] 49)).alloc (Obj.cells #[.bool (ssR (kn:Int)).b,.int .i64 (ssR (kn:Int)).n,.int .i64 (ssR (kn:Int)).a,.bool (ssR (kn:Int)).y,.bool (ssR (kn:Int)).e] 164)):=((Grew.refl w).alloc _).alloc _
  rw [alloc_sz] at hb2
  try rw [alloc_sz]
  generalize ((w.alloc (Obj.cells #[.int .i64 (kn:Int),.string sx,.int .i64 nx,.slice pa rx.length ca,.slice pb yx.length cb,.slice pe ex.length ce,.int .i64 qx] 49)).alloc (Obj.cells #[.bool (ssR (kn:Int)).b,.int .i64 (ssR (kn:Int)).n,.int .i64 (ssR (kn:Int)).a,.bool (ssR (kn:Int)).y,.bool (ssR (kn:Int)).e] 164))=V at hb2 hb3 hgV ⊢
  generalize w.heap.size+1=S at hb2 ⊢
  generalize w.heap.size=T at hb3 ⊢
  have HGV:=Lib.hid hgV
  have d0:Atv ⟨T,0,none⟩ (.int .i64 (kn:Int)) V:=hb3.atv 0 rfl
  have d1:Atv ⟨T,1,none⟩ (.string sx) V:=hb3.atv 1 rfl
  have d2:Atv ⟨T,2,none⟩ (.int .i64 nx) V:=hb3.atv 2 rfl
  have d3:Atv ⟨T,3,none⟩ (.slice pa rx.length ca) V:=hb3.atv 3 rfl
  have d4:Atv ⟨T,4,none⟩ (.slice pb yx.length cb) V:=hb3.atv 4 rfl
  have d5:Atv ⟨T,5,none⟩ (.slice pe ex.length ce) V:=hb3.atv 5 rfl
  have d6:Atv ⟨T,6,none⟩ (.int .i64 qx) V:=hb3.atv 6 rfl
  have e0:Atv ⟨S,0,none⟩ (.bool (ssR (kn:Int)).b) V:=hb2.atv 0 rfl
  have e1:Atv ⟨S,1,none⟩ (.int .i64 (ssR (kn:Int)).n) V:=hb2.atv 1 rfl
  have e2:Atv ⟨S,2,none⟩ (.int .i64 (ssR (kn:Int)).a) V:=hb2.atv 2 rfl
  have e3:Atv ⟨S,3,none⟩ (.bool (ssR (kn:Int)).y) V:=hb2.atv 3 rfl
  have e4:Atv ⟨S,4,none⟩ (.bool (ssR (kn:Int)).e) V:=hb2.atv 4 rfl
  clear hb1 hb2 hb3 hgV h0 h1 h2 h3 h4 b2
  refine wp_postsL [some 16,some 17,some 18,some 19,some 20,some 21,some 22,some 23,some 24,some 25,some 26,some 27,some 28,some 29,some 30,some 31,some 32,some 33,some 34,some 35,some 36,some 37,some 38,some 39,some 40,some 41,some 42,some 43,some 44,some 45,some 46,some 47,some 48,some 49,some 50,some 51,some 52,some 53,some 54,some 55,some 56,some 57,some 58,some 59,some 60,some 61,some 62,some 63,some 64,some 65,some 66,some 67,some 68,some 69,some 70,some 71,some 72,some 73,some 74,some 75,some 2] [Zf,Zf,Zt,Zf,Zf,Zf,Zf,Zf,Zf,Zf,Zf,Zf,Zf,Zf,Zf,Zf,Zt,Zt,Zt,Zt,Zt,Zt,Zt,Zt,Zt,Zt,Zt,Zt,Zt,Zt,Zt,Zt,Zt,Zt,Zt,Zt,Zt,Zt,Zt,Zt,Zt,Zt,Zt,Zt,Zt,Zt,Zt,Zt,Zt,Zt,Zt,Zt,Zt,Zt,Zt,Zt,Zt,Zt,Zt,Zt,Zt,Zt,Zt,Zt,Zt,Zt,Zt,Zt,Zt,Zt,Zt,Zt,Zt,Zt,Zt,Zt] [fun v _=>v=.pointer (some ⟨T,1,none⟩),fun v _=>v=.string sx,fun v _=>v=.pointer (some ⟨S,0,none⟩),fun v _=>v=.bool ((ssR (kn:Int)).b),fun v _=>v=.bool (if (ssR (kn:Int)).b then idn sx else decide (sx=⟨#[]⟩)),fun v _=>v=.bool (if (ssR (kn:Int)).b then idn sx else decide (sx=⟨#[]⟩)),fun v _=>(((if (ssR (kn:Int)).b then idn sx else decide (sx=⟨#[]⟩))=true)→v=.pointer (some ⟨T,2,none⟩))∧(¬ ((if (ssR (kn:Int)).b then idn sx else decide (sx=⟨#[]⟩))=true)→v=undef),fun v _=>(((if (ssR (kn:Int)).b then idn sx else decide (sx=⟨#[]⟩))=true)→v=.int .i64 (nx))∧(¬ ((if (ssR (kn:Int)).b then idn sx else decide (sx=⟨#[]⟩))=true)→v=undef),fun v _=>(((if (ssR (kn:Int)).b then idn sx else decide (sx=⟨#[]⟩))=true)→v=.bool (decide ((0)≤(nx))))∧(¬ ((if (ssR (kn:Int)).b then idn sx else decide (sx=⟨#[]⟩))=true)→v=undef),fun v _=>v=.bool ((if (ssR (kn:Int)).b then idn sx else decide (sx=⟨#[]⟩))&&(decide ((0)≤(nx)))),fun v _=>v=.bool ((if (ssR (kn:Int)).b then idn sx else decide (sx=⟨#[]⟩))&&(decide ((0)≤(nx)))),fun v _=>((((if (ssR (kn:Int)).b then idn sx else decide (sx=⟨#[]⟩))&&(decide ((0)≤(nx))))=true)→v=.pointer (some ⟨T,2,none⟩))∧(¬ (((if (ssR (kn:Int)).b then idn sx else decide (sx=⟨#[]⟩))&&(decide ((0)≤(nx))))=true)→v=undef),fun v _=>((((if (ssR (kn:Int)).b then idn sx else decide (sx=⟨#[]⟩))&&(decide ((0)≤(nx))))=true)→v=.int .i64 (nx))∧(¬ (((if (ssR (kn:Int)).b then idn sx else decide (sx=⟨#[]⟩))&&(decide ((0)≤(nx))))=true)→v=undef),fun v _=>((((if (ssR (kn:Int)).b then idn sx else decide (sx=⟨#[]⟩))&&(decide ((0)≤(nx))))=true)→v=.pointer (some ⟨S,1,none⟩))∧(¬ (((if (ssR (kn:Int)).b then idn sx else decide (sx=⟨#[]⟩))&&(decide ((0)≤(nx))))=true)→v=undef),fun v _=>((((if (ssR (kn:Int)).b then idn sx else decide (sx=⟨#[]⟩))&&(decide ((0)≤(nx))))=true)→v=.int .i64 ((ssR (kn:Int)).n))∧(¬ (((if (ssR (kn:Int)).b then idn sx else decide (sx=⟨#[]⟩))&&(decide ((0)≤(nx))))=true)→v=undef),fun v _=>((((if (ssR (kn:Int)).b then idn sx else decide (sx=⟨#[]⟩))&&(decide ((0)≤(nx))))=true)→v=.bool (decide ((nx)≤((ssR (kn:Int)).n))))∧(¬ (((if (ssR (kn:Int)).b then idn sx else decide (sx=⟨#[]⟩))&&(decide ((0)≤(nx))))=true)→v=undef),fun v _=>v=.bool (((if (ssR (kn:Int)).b then idn sx else decide (sx=⟨#[]⟩))&&(decide ((0)≤(nx))))&&(decide ((nx)≤((ssR (kn:Int)).n)))),fun v _=>v=.bool (((if (ssR (kn:Int)).b then idn sx else decide (sx=⟨#[]⟩))&&(decide ((0)≤(nx))))&&(decide ((nx)≤((ssR (kn:Int)).n)))),fun v _=>(((((if (ssR (kn:Int)).b then idn sx else decide (sx=⟨#[]⟩))&&(decide ((0)≤(nx))))&&(decide ((nx)≤((ssR (kn:Int)).n))))=true)→v=.pointer (some ⟨T,3,none⟩))∧(¬ ((((if (ssR (kn:Int)).b then idn sx else decide (sx=⟨#[]⟩))&&(decide ((0)≤(nx))))&&(decide ((nx)≤((ssR (kn:Int)).n))))=true)→v=undef),fun v _=>(((((if (ssR (kn:Int)).b then idn sx else decide (sx=⟨#[]⟩))&&(decide ((0)≤(nx))))&&(decide ((nx)≤((ssR (kn:Int)).n))))=true)→v=.slice pa (rx.length) (ca))∧(¬ ((((if (ssR (kn:Int)).b then idn sx else decide (sx=⟨#[]⟩))&&(decide ((0)≤(nx))))&&(decide ((nx)≤((ssR (kn:Int)).n))))=true)→v=undef),fun v _=>(((((if (ssR (kn:Int)).b then idn sx else decide (sx=⟨#[]⟩))&&(decide ((0)≤(nx))))&&(decide ((nx)≤((ssR (kn:Int)).n))))=true)→v=.int .i64 (((rx.length:Nat):Int)))∧(¬ ((((if (ssR (kn:Int)).b then idn sx else decide (sx=⟨#[]⟩))&&(decide ((0)≤(nx))))&&(decide ((nx)≤((ssR (kn:Int)).n))))=true)→v=undef),fun v _=>(((((if (ssR (kn:Int)).b then idn sx else decide (sx=⟨#[]⟩))&&(decide ((0)≤(nx))))&&(decide ((nx)≤((ssR (kn:Int)).n))))=true)→v=.pointer (some ⟨S,2,none⟩))∧(¬ ((((if (ssR (kn:Int)).b then idn sx else decide (sx=⟨#[]⟩))&&(decide ((0)≤(nx))))&&(decide ((nx)≤((ssR (kn:Int)).n))))=true)→v=undef),fun v _=>(((((if (ssR (kn:Int)).b then idn sx else decide (sx=⟨#[]⟩))&&(decide ((0)≤(nx))))&&(decide ((nx)≤((ssR (kn:Int)).n))))=true)→v=.int .i64 ((ssR (kn:Int)).a))∧(¬ ((((if (ssR (kn:Int)).b then idn sx else decide (sx=⟨#[]⟩))&&(decide ((0)≤(nx))))&&(decide ((nx)≤((ssR (kn:Int)).n))))=true)→v=undef),fun v _=>(((((if (ssR (kn:Int)).b then idn sx else decide (sx=⟨#[]⟩))&&(decide ((0)≤(nx))))&&(decide ((nx)≤((ssR (kn:Int)).n))))=true)→v=.bool ((((rx.length:Nat):Int))==((ssR (kn:Int)).a)))∧(¬ ((((if (ssR (kn:Int)).b then idn sx else decide (sx=⟨#[]⟩))&&(decide ((0)≤(nx))))&&(decide ((nx)≤((ssR (kn:Int)).n))))=true)→v=undef),fun v _=>v=.bool ((((if (ssR (kn:Int)).b then idn sx else decide (sx=⟨#[]⟩))&&(decide ((0)≤(nx))))&&(decide ((nx)≤((ssR (kn:Int)).n))))&&((((rx.length:Nat):Int))==((ssR (kn:Int)).a))),fun v _=>v=.bool ((((if (ssR (kn:Int)).b then idn sx else decide (sx=⟨#[]⟩))&&(decide ((0)≤(nx))))&&(decide ((nx)≤((ssR (kn:Int)).n))))&&((((rx.length:Nat):Int))==((ssR (kn:Int)).a))),fun v _=>((((((if (ssR (kn:Int)).b then idn sx else decide (sx=⟨#[]⟩))&&(decide ((0)≤(nx))))&&(decide ((nx)≤((ssR (kn:Int)).n))))&&((((rx.length:Nat):Int))==((ssR (kn:Int)).a)))=true)→v=.pointer (some ⟨S,3,none⟩))∧(¬ (((((if (ssR (kn:Int)).b then idn sx else decide (sx=⟨#[]⟩))&&(decide ((0)≤(nx))))&&(decide ((nx)≤((ssR (kn:Int)).n))))&&((((rx.length:Nat):Int))==((ssR (kn:Int)).a)))=true)→v=undef),fun v _=>((((((if (ssR (kn:Int)).b then idn sx else decide (sx=⟨#[]⟩))&&(decide ((0)≤(nx))))&&(decide ((nx)≤((ssR (kn:Int)).n))))&&((((rx.length:Nat):Int))==((ssR (kn:Int)).a)))=true)→v=.bool ((ssR (kn:Int)).y))∧(¬ (((((if (ssR (kn:Int)).b then idn sx else decide (sx=⟨#[]⟩))&&(decide ((0)≤(nx))))&&(decide ((nx)≤((ssR (kn:Int)).n))))&&((((rx.length:Nat):Int))==((ssR (kn:Int)).a)))=true)→v=undef),fun v _=>((((((if (ssR (kn:Int)).b then idn sx else decide (sx=⟨#[]⟩))&&(decide ((0)≤(nx))))&&(decide ((nx)≤((ssR (kn:Int)).n))))&&((((rx.length:Nat):Int))==((ssR (kn:Int)).a)))=true)→v=.bool ((ssR (kn:Int)).y))∧(¬ (((((if (ssR (kn:Int)).b then idn sx else decide (sx=⟨#[]⟩))&&(decide ((0)≤(nx))))&&(decide ((nx)≤((ssR (kn:Int)).n))))&&((((rx.length:Nat):Int))==((ssR (kn:Int)).a)))=true)→v=undef),fun v _=>(((((((if (ssR (kn:Int)).b then idn sx else decide (sx=⟨#[]⟩))&&(decide ((0)≤(nx))))&&(decide ((nx)≤((ssR (kn:Int)).n))))&&((((rx.length:Nat):Int))==((ssR (kn:Int)).a)))=true)∧(((ssR (kn:Int)).y)=false))→v=.pointer (some ⟨T,4,none⟩))∧(¬ ((((((if (ssR (kn:Int)).b then idn sx else decide (sx=⟨#[]⟩))&&(decide ((0)≤(nx))))&&(decide ((nx)≤((ssR (kn:Int)).n))))&&((((rx.length:Nat):Int))==((ssR (kn:Int)).a)))=true)∧(((ssR (kn:Int)).y)=false))→v=undef),fun v _=>(((((((if (ssR (kn:Int)).b then idn sx else decide (sx=⟨#[]⟩))&&(decide ((0)≤(nx))))&&(decide ((nx)≤((ssR (kn:Int)).n))))&&((((rx.length:Nat):Int))==((ssR (kn:Int)).a)))=true)∧(((ssR (kn:Int)).y)=false))→v=.slice pb (yx.length) (cb))∧(¬ ((((((if (ssR (kn:Int)).b then idn sx else decide (sx=⟨#[]⟩))&&(decide ((0)≤(nx))))&&(decide ((nx)≤((ssR (kn:Int)).n))))&&((((rx.length:Nat):Int))==((ssR (kn:Int)).a)))=true)∧(((ssR (kn:Int)).y)=false))→v=undef),fun v _=>(((((((if (ssR (kn:Int)).b then idn sx else decide (sx=⟨#[]⟩))&&(decide ((0)≤(nx))))&&(decide ((nx)≤((ssR (kn:Int)).n))))&&((((rx.length:Nat):Int))==((ssR (kn:Int)).a)))=true)∧(((ssR (kn:Int)).y)=false))→v=.int .i64 (((yx.length:Nat):Int)))∧(¬ ((((((if (ssR (kn:Int)).b then idn sx else decide (sx=⟨#[]⟩))&&(decide ((0)≤(nx))))&&(decide ((nx)≤((ssR (kn:Int)).n))))&&((((rx.length:Nat):Int))==((ssR (kn:Int)).a)))=true)∧(((ssR (kn:Int)).y)=false))→v=undef),fun v _=>(((((((if (ssR (kn:Int)).b then idn sx else decide (sx=⟨#[]⟩))&&(decide ((0)≤(nx))))&&(decide ((nx)≤((ssR (kn:Int)).n))))&&((((rx.length:Nat):Int))==((ssR (kn:Int)).a)))=true)∧(((ssR (kn:Int)).y)=false))→v=.bool ((((yx.length:Nat):Int))==(0)))∧(¬ ((((((if (ssR (kn:Int)).b then idn sx else decide (sx=⟨#[]⟩))&&(decide ((0)≤(nx))))&&(decide ((nx)≤((ssR (kn:Int)).n))))&&((((rx.length:Nat):Int))==((ssR (kn:Int)).a)))=true)∧(((ssR (kn:Int)).y)=false))→v=undef),fun v _=>((((((if (ssR (kn:Int)).b then idn sx else decide (sx=⟨#[]⟩))&&(decide ((0)≤(nx))))&&(decide ((nx)≤((ssR (kn:Int)).n))))&&((((rx.length:Nat):Int))==((ssR (kn:Int)).a)))=true)→v=.bool (((ssR (kn:Int)).y)||((((yx.length:Nat):Int))==(0))))∧(¬ (((((if (ssR (kn:Int)).b then idn sx else decide (sx=⟨#[]⟩))&&(decide ((0)≤(nx))))&&(decide ((nx)≤((ssR (kn:Int)).n))))&&((((rx.length:Nat):Int))==((ssR (kn:Int)).a)))=true)→v=undef),fun v _=>v=.bool (((((if (ssR (kn:Int)).b then idn sx else decide (sx=⟨#[]⟩))&&(decide ((0)≤(nx))))&&(decide ((nx)≤((ssR (kn:Int)).n))))&&((((rx.length:Nat):Int))==((ssR (kn:Int)).a)))&&(((ssR (kn:Int)).y)||((((yx.length:Nat):Int))==(0)))),fun v _=>v=.bool (((((if (ssR (kn:Int)).b then idn sx else decide (sx=⟨#[]⟩))&&(decide ((0)≤(nx))))&&(decide ((nx)≤((ssR (kn:Int)).n))))&&((((rx.length:Nat):Int))==((ssR (kn:Int)).a)))&&(((ssR (kn:Int)).y)||((((yx.length:Nat):Int))==(0)))),fun v _=>(((((((if (ssR (kn:Int)).b then idn sx else decide (sx=⟨#[]⟩))&&(decide ((0)≤(nx))))&&(decide ((nx)≤((ssR (kn:Int)).n))))&&((((rx.length:Nat):Int))==((ssR (kn:Int)).a)))&&(((ssR (kn:Int)).y)||((((yx.length:Nat):Int))==(0))))=true)→v=.pointer (some ⟨S,4,none⟩))∧(¬ ((((((if (ssR (kn:Int)).b then idn sx else decide (sx=⟨#[]⟩))&&(decide ((0)≤(nx))))&&(decide ((nx)≤((ssR (kn:Int)).n))))&&((((rx.length:Nat):Int))==((ssR (kn:Int)).a)))&&(((ssR (kn:Int)).y)||((((yx.length:Nat):Int))==(0))))=true)→v=undef),fun v _=>(((((((if (ssR (kn:Int)).b then idn sx else decide (sx=⟨#[]⟩))&&(decide ((0)≤(nx))))&&(decide ((nx)≤((ssR (kn:Int)).n))))&&((((rx.length:Nat):Int))==((ssR (kn:Int)).a)))&&(((ssR (kn:Int)).y)||((((yx.length:Nat):Int))==(0))))=true)→v=.bool ((ssR (kn:Int)).e))∧(¬ ((((((if (ssR (kn:Int)).b then idn sx else decide (sx=⟨#[]⟩))&&(decide ((0)≤(nx))))&&(decide ((nx)≤((ssR (kn:Int)).n))))&&((((rx.length:Nat):Int))==((ssR (kn:Int)).a)))&&(((ssR (kn:Int)).y)||((((yx.length:Nat):Int))==(0))))=true)→v=undef),fun v _=>(((((((if (ssR (kn:Int)).b then idn sx else decide (sx=⟨#[]⟩))&&(decide ((0)≤(nx))))&&(decide ((nx)≤((ssR (kn:Int)).n))))&&((((rx.length:Nat):Int))==((ssR (kn:Int)).a)))&&(((ssR (kn:Int)).y)||((((yx.length:Nat):Int))==(0))))=true)→v=.bool ((ssR (kn:Int)).e))∧(¬ ((((((if (ssR (kn:Int)).b then idn sx else decide (sx=⟨#[]⟩))&&(decide ((0)≤(nx))))&&(decide ((nx)≤((ssR (kn:Int)).n))))&&((((rx.length:Nat):Int))==((ssR (kn:Int)).a)))&&(((ssR (kn:Int)).y)||((((yx.length:Nat):Int))==(0))))=true)→v=undef),fun v _=>((((((((if (ssR (kn:Int)).b then idn sx else decide (sx=⟨#[]⟩))&&(decide ((0)≤(nx))))&&(decide ((nx)≤((ssR (kn:Int)).n))))&&((((rx.length:Nat):Int))==((ssR (kn:Int)).a)))&&(((ssR (kn:Int)).y)||((((yx.length:Nat):Int))==(0))))=true)∧(((ssR (kn:Int)).e)=false))→v=.pointer (some ⟨T,5,none⟩))∧(¬ (((((((if (ssR (kn:Int)).b then idn sx else decide (sx=⟨#[]⟩))&&(decide ((0)≤(nx))))&&(decide ((nx)≤((ssR (kn:Int)).n))))&&((((rx.length:Nat):Int))==((ssR (kn:Int)).a)))&&(((ssR (kn:Int)).y)||((((yx.length:Nat):Int))==(0))))=true)∧(((ssR (kn:Int)).e)=false))→v=undef),fun v _=>((((((((if (ssR (kn:Int)).b then idn sx else decide (sx=⟨#[]⟩))&&(decide ((0)≤(nx))))&&(decide ((nx)≤((ssR (kn:Int)).n))))&&((((rx.length:Nat):Int))==((ssR (kn:Int)).a)))&&(((ssR (kn:Int)).y)||((((yx.length:Nat):Int))==(0))))=true)∧(((ssR (kn:Int)).e)=false))→v=.slice pe (ex.length) (ce))∧(¬ (((((((if (ssR (kn:Int)).b then idn sx else decide (sx=⟨#[]⟩))&&(decide ((0)≤(nx))))&&(decide ((nx)≤((ssR (kn:Int)).n))))&&((((rx.length:Nat):Int))==((ssR (kn:Int)).a)))&&(((ssR (kn:Int)).y)||((((yx.length:Nat):Int))==(0))))=true)∧(((ssR (kn:Int)).e)=false))→v=undef),fun v _=>((((((((if (ssR (kn:Int)).b then idn sx else decide (sx=⟨#[]⟩))&&(decide ((0)≤(nx))))&&(decide ((nx)≤((ssR (kn:Int)).n))))&&((((rx.length:Nat):Int))==((ssR (kn:Int)).a)))&&(((ssR (kn:Int)).y)||((((yx.length:Nat):Int))==(0))))=true)∧(((ssR (kn:Int)).e)=false))→v=.int .i64 (((ex.length:Nat):Int)))∧(¬ (((((((if (ssR (kn:Int)).b then idn sx else decide (sx=⟨#[]⟩))&&(decide ((0)≤(nx))))&&(decide ((nx)≤((ssR (kn:Int)).n))))&&((((rx.length:Nat):Int))==((ssR (kn:Int)).a)))&&(((ssR (kn:Int)).y)||((((yx.length:Nat):Int))==(0))))=true)∧(((ssR (kn:Int)).e)=false))→v=undef),fun v _=>((((((((if (ssR (kn:Int)).b then idn sx else decide (sx=⟨#[]⟩))&&(decide ((0)≤(nx))))&&(decide ((nx)≤((ssR (kn:Int)).n))))&&((((rx.length:Nat):Int))==((ssR (kn:Int)).a)))&&(((ssR (kn:Int)).y)||((((yx.length:Nat):Int))==(0))))=true)∧(((ssR (kn:Int)).e)=false))→v=.bool ((((ex.length:Nat):Int))==(0)))∧(¬ (((((((if (ssR (kn:Int)).b then idn sx else decide (sx=⟨#[]⟩))&&(decide ((0)≤(nx))))&&(decide ((nx)≤((ssR (kn:Int)).n))))&&((((rx.length:Nat):Int))==((ssR (kn:Int)).a)))&&(((ssR (kn:Int)).y)||((((yx.length:Nat):Int))==(0))))=true)∧(((ssR (kn:Int)).e)=false))→v=undef),fun v _=>(((((((if (ssR (kn:Int)).b then idn sx else decide (sx=⟨#[]⟩))&&(decide ((0)≤(nx))))&&(decide ((nx)≤((ssR (kn:Int)).n))))&&((((rx.length:Nat):Int))==((ssR (kn:Int)).a)))&&(((ssR (kn:Int)).y)||((((yx.length:Nat):Int))==(0))))=true)→v=.bool (((ssR (kn:Int)).e)||((((ex.length:Nat):Int))==(0))))∧(¬ ((((((if (ssR (kn:Int)).b then idn sx else decide (sx=⟨#[]⟩))&&(decide ((0)≤(nx))))&&(decide ((nx)≤((ssR (kn:Int)).n))))&&((((rx.length:Nat):Int))==((ssR (kn:Int)).a)))&&(((ssR (kn:Int)).y)||((((yx.length:Nat):Int))==(0))))=true)→v=undef),fun v _=>v=.bool ((((((if (ssR (kn:Int)).b then idn sx else decide (sx=⟨#[]⟩))&&(decide ((0)≤(nx))))&&(decide ((nx)≤((ssR (kn:Int)).n))))&&((((rx.length:Nat):Int))==((ssR (kn:Int)).a)))&&(((ssR (kn:Int)).y)||((((yx.length:Nat):Int))==(0))))&&(((ssR (kn:Int)).e)||((((ex.length:Nat):Int))==(0)))),fun v _=>v=.bool ((((((if (ssR (kn:Int)).b then idn sx else decide (sx=⟨#[]⟩))&&(decide ((0)≤(nx))))&&(decide ((nx)≤((ssR (kn:Int)).n))))&&((((rx.length:Nat):Int))==((ssR (kn:Int)).a)))&&(((ssR (kn:Int)).y)||((((yx.length:Nat):Int))==(0))))&&(((ssR (kn:Int)).e)||((((ex.length:Nat):Int))==(0)))),fun v _=>((((((((if (ssR (kn:Int)).b then idn sx else decide (sx=⟨#[]⟩))&&(decide ((0)≤(nx))))&&(decide ((nx)≤((ssR (kn:Int)).n))))&&((((rx.length:Nat):Int))==((ssR (kn:Int)).a)))&&(((ssR (kn:Int)).y)||((((yx.length:Nat):Int))==(0))))&&(((ssR (kn:Int)).e)||((((ex.length:Nat):Int))==(0))))=true)→v=.pointer (some ⟨T,3,none⟩))∧(¬ (((((((if (ssR (kn:Int)).b then idn sx else decide (sx=⟨#[]⟩))&&(decide ((0)≤(nx))))&&(decide ((nx)≤((ssR (kn:Int)).n))))&&((((rx.length:Nat):Int))==((ssR (kn:Int)).a)))&&(((ssR (kn:Int)).y)||((((yx.length:Nat):Int))==(0))))&&(((ssR (kn:Int)).e)||((((ex.length:Nat):Int))==(0))))=true)→v=undef),fun v _=>((((((((if (ssR (kn:Int)).b then idn sx else decide (sx=⟨#[]⟩))&&(decide ((0)≤(nx))))&&(decide ((nx)≤((ssR (kn:Int)).n))))&&((((rx.length:Nat):Int))==((ssR (kn:Int)).a)))&&(((ssR (kn:Int)).y)||((((yx.length:Nat):Int))==(0))))&&(((ssR (kn:Int)).e)||((((ex.length:Nat):Int))==(0))))=true)→v=.slice pa (rx.length) (ca))∧(¬ (((((((if (ssR (kn:Int)).b then idn sx else decide (sx=⟨#[]⟩))&&(decide ((0)≤(nx))))&&(decide ((nx)≤((ssR (kn:Int)).n))))&&((((rx.length:Nat):Int))==((ssR (kn:Int)).a)))&&(((ssR (kn:Int)).y)||((((yx.length:Nat):Int))==(0))))&&(((ssR (kn:Int)).e)||((((ex.length:Nat):Int))==(0))))=true)→v=undef),fun v _=>((((((((if (ssR (kn:Int)).b then idn sx else decide (sx=⟨#[]⟩))&&(decide ((0)≤(nx))))&&(decide ((nx)≤((ssR (kn:Int)).n))))&&((((rx.length:Nat):Int))==((ssR (kn:Int)).a)))&&(((ssR (kn:Int)).y)||((((yx.length:Nat):Int))==(0))))&&(((ssR (kn:Int)).e)||((((ex.length:Nat):Int))==(0))))=true)→v=.bool (rx.all okX))∧(¬ (((((((if (ssR (kn:Int)).b then idn sx else decide (sx=⟨#[]⟩))&&(decide ((0)≤(nx))))&&(decide ((nx)≤((ssR (kn:Int)).n))))&&((((rx.length:Nat):Int))==((ssR (kn:Int)).a)))&&(((ssR (kn:Int)).y)||((((yx.length:Nat):Int))==(0))))&&(((ssR (kn:Int)).e)||((((ex.length:Nat):Int))==(0))))=true)→v=undef),fun v _=>v=.bool (((((((if (ssR (kn:Int)).b then idn sx else decide (sx=⟨#[]⟩))&&(decide ((0)≤(nx))))&&(decide ((nx)≤((ssR (kn:Int)).n))))&&((((rx.length:Nat):Int))==((ssR (kn:Int)).a)))&&(((ssR (kn:Int)).y)||((((yx.length:Nat):Int))==(0))))&&(((ssR (kn:Int)).e)||((((ex.length:Nat):Int))==(0))))&&(rx.all okX)),fun v _=>v=.bool (((((((if (ssR (kn:Int)).b then idn sx else decide (sx=⟨#[]⟩))&&(decide ((0)≤(nx))))&&(decide ((nx)≤((ssR (kn:Int)).n))))&&((((rx.length:Nat):Int))==((ssR (kn:Int)).a)))&&(((ssR (kn:Int)).y)||((((yx.length:Nat):Int))==(0))))&&(((ssR (kn:Int)).e)||((((ex.length:Nat):Int))==(0))))&&(rx.all okX)),fun v _=>(((((((((if (ssR (kn:Int)).b then idn sx else decide (sx=⟨#[]⟩))&&(decide ((0)≤(nx))))&&(decide ((nx)≤((ssR (kn:Int)).n))))&&((((rx.length:Nat):Int))==((ssR (kn:Int)).a)))&&(((ssR (kn:Int)).y)||((((yx.length:Nat):Int))==(0))))&&(((ssR (kn:Int)).e)||((((ex.length:Nat):Int))==(0))))&&(rx.all okX))=true)→v=.pointer (some ⟨T,4,none⟩))∧(¬ ((((((((if (ssR (kn:Int)).b then idn sx else decide (sx=⟨#[]⟩))&&(decide ((0)≤(nx))))&&(decide ((nx)≤((ssR (kn:Int)).n))))&&((((rx.length:Nat):Int))==((ssR (kn:Int)).a)))&&(((ssR (kn:Int)).y)||((((yx.length:Nat):Int))==(0))))&&(((ssR (kn:Int)).e)||((((ex.length:Nat):Int))==(0))))&&(rx.all okX))=true)→v=undef),fun v _=>(((((((((if (ssR (kn:Int)).b then idn sx else decide (sx=⟨#[]⟩))&&(decide ((0)≤(nx))))&&(decide ((nx)≤((ssR (kn:Int)).n))))&&((((rx.length:Nat):Int))==((ssR (kn:Int)).a)))&&(((ssR (kn:Int)).y)||((((yx.length:Nat):Int))==(0))))&&(((ssR (kn:Int)).e)||((((ex.length:Nat):Int))==(0))))&&(rx.all okX))=true)→v=.slice pb (yx.length) (cb))∧(¬ ((((((((if (ssR (kn:Int)).b then idn sx else decide (sx=⟨#[]⟩))&&(decide ((0)≤(nx))))&&(decide ((nx)≤((ssR (kn:Int)).n))))&&((((rx.length:Nat):Int))==((ssR (kn:Int)).a)))&&(((ssR (kn:Int)).y)||((((yx.length:Nat):Int))==(0))))&&(((ssR (kn:Int)).e)||((((ex.length:Nat):Int))==(0))))&&(rx.all okX))=true)→v=undef),fun v _=>(((((((((if (ssR (kn:Int)).b then idn sx else decide (sx=⟨#[]⟩))&&(decide ((0)≤(nx))))&&(decide ((nx)≤((ssR (kn:Int)).n))))&&((((rx.length:Nat):Int))==((ssR (kn:Int)).a)))&&(((ssR (kn:Int)).y)||((((yx.length:Nat):Int))==(0))))&&(((ssR (kn:Int)).e)||((((ex.length:Nat):Int))==(0))))&&(rx.all okX))=true)→v=.bool (yx.all okS))∧(¬ ((((((((if (ssR (kn:Int)).b then idn sx else decide (sx=⟨#[]⟩))&&(decide ((0)≤(nx))))&&(decide ((nx)≤((ssR (kn:Int)).n))))&&((((rx.length:Nat):Int))==((ssR (kn:Int)).a)))&&(((ssR (kn:Int)).y)||((((yx.length:Nat):Int))==(0))))&&(((ssR (kn:Int)).e)||((((ex.length:Nat):Int))==(0))))&&(rx.all okX))=true)→v=undef),fun v _=>v=.bool ((((((((if (ssR (kn:Int)).b then idn sx else decide (sx=⟨#[]⟩))&&(decide ((0)≤(nx))))&&(decide ((nx)≤((ssR (kn:Int)).n))))&&((((rx.length:Nat):Int))==((ssR (kn:Int)).a)))&&(((ssR (kn:Int)).y)||((((yx.length:Nat):Int))==(0))))&&(((ssR (kn:Int)).e)||((((ex.length:Nat):Int))==(0))))&&(rx.all okX))&&(yx.all okS)),fun v _=>v=.bool ((((((((if (ssR (kn:Int)).b then idn sx else decide (sx=⟨#[]⟩))&&(decide ((0)≤(nx))))&&(decide ((nx)≤((ssR (kn:Int)).n))))&&((((rx.length:Nat):Int))==((ssR (kn:Int)).a)))&&(((ssR (kn:Int)).y)||((((yx.length:Nat):Int))==(0))))&&(((ssR (kn:Int)).e)||((((ex.length:Nat):Int))==(0))))&&(rx.all okX))&&(yx.all okS)),fun v _=>((((((((((if (ssR (kn:Int)).b then idn sx else decide (sx=⟨#[]⟩))&&(decide ((0)≤(nx))))&&(decide ((nx)≤((ssR (kn:Int)).n))))&&((((rx.length:Nat):Int))==((ssR (kn:Int)).a)))&&(((ssR (kn:Int)).y)||((((yx.length:Nat):Int))==(0))))&&(((ssR (kn:Int)).e)||((((ex.length:Nat):Int))==(0))))&&(rx.all okX))&&(yx.all okS))=true)→v=.pointer (some ⟨T,5,none⟩))∧(¬ (((((((((if (ssR (kn:Int)).b then idn sx else decide (sx=⟨#[]⟩))&&(decide ((0)≤(nx))))&&(decide ((nx)≤((ssR (kn:Int)).n))))&&((((rx.length:Nat):Int))==((ssR (kn:Int)).a)))&&(((ssR (kn:Int)).y)||((((yx.length:Nat):Int))==(0))))&&(((ssR (kn:Int)).e)||((((ex.length:Nat):Int))==(0))))&&(rx.all okX))&&(yx.all okS))=true)→v=undef),fun v _=>((((((((((if (ssR (kn:Int)).b then idn sx else decide (sx=⟨#[]⟩))&&(decide ((0)≤(nx))))&&(decide ((nx)≤((ssR (kn:Int)).n))))&&((((rx.length:Nat):Int))==((ssR (kn:Int)).a)))&&(((ssR (kn:Int)).y)||((((yx.length:Nat):Int))==(0))))&&(((ssR (kn:Int)).e)||((((ex.length:Nat):Int))==(0))))&&(rx.all okX))&&(yx.all okS))=true)→v=.slice pe (ex.length) (ce))∧(¬ (((((((((if (ssR (kn:Int)).b then idn sx else decide (sx=⟨#[]⟩))&&(decide ((0)≤(nx))))&&(decide ((nx)≤((ssR (kn:Int)).n))))&&((((rx.length:Nat):Int))==((ssR (kn:Int)).a)))&&(((ssR (kn:Int)).y)||((((yx.length:Nat):Int))==(0))))&&(((ssR (kn:Int)).e)||((((ex.length:Nat):Int))==(0))))&&(rx.all okX))&&(yx.all okS))=true)→v=undef),fun v _=>((((((((((if (ssR (kn:Int)).b then idn sx else decide (sx=⟨#[]⟩))&&(decide ((0)≤(nx))))&&(decide ((nx)≤((ssR (kn:Int)).n))))&&((((rx.length:Nat):Int))==((ssR (kn:Int)).a)))&&(((ssR (kn:Int)).y)||((((yx.length:Nat):Int))==(0))))&&(((ssR (kn:Int)).e)||((((ex.length:Nat):Int))==(0))))&&(rx.all okX))&&(yx.all okS))=true)→v=.bool (ex.all okS))∧(¬ (((((((((if (ssR (kn:Int)).b then idn sx else decide (sx=⟨#[]⟩))&&(decide ((0)≤(nx))))&&(decide ((nx)≤((ssR (kn:Int)).n))))&&((((rx.length:Nat):Int))==((ssR (kn:Int)).a)))&&(((ssR (kn:Int)).y)||((((yx.length:Nat):Int))==(0))))&&(((ssR (kn:Int)).e)||((((ex.length:Nat):Int))==(0))))&&(rx.all okX))&&(yx.all okS))=true)→v=undef),fun v _=>v=.bool (((((((((if (ssR (kn:Int)).b then idn sx else decide (sx=⟨#[]⟩))&&(decide ((0)≤(nx))))&&(decide ((nx)≤((ssR (kn:Int)).n))))&&((((rx.length:Nat):Int))==((ssR (kn:Int)).a)))&&(((ssR (kn:Int)).y)||((((yx.length:Nat):Int))==(0))))&&(((ssR (kn:Int)).e)||((((ex.length:Nat):Int))==(0))))&&(rx.all okX))&&(yx.all okS))&&(ex.all okS)),fun v _=>v=.bool (((((((((if (ssR (kn:Int)).b then idn sx else decide (sx=⟨#[]⟩))&&(decide ((0)≤(nx))))&&(decide ((nx)≤((ssR (kn:Int)).n))))&&((((rx.length:Nat):Int))==((ssR (kn:Int)).a)))&&(((ssR (kn:Int)).y)||((((yx.length:Nat):Int))==(0))))&&(((ssR (kn:Int)).e)||((((ex.length:Nat):Int))==(0))))&&(rx.all okX))&&(yx.all okS))&&(ex.all okS))] (by kernel_rfl) rfl ?_ ⟨?_,?_,?_,?_,?_,?_,?_,?_,?_,?_,?_,?_,?_,?_,?_,?_,?_,?_,?_,?_,?_,?_,?_,?_,?_,?_,?_,?_,?_,?_,?_,?_,?_,?_,?_,?_,?_,?_,?_,?_,?_,?_,?_,?_,?_,?_,?_,?_,?_,?_,?_,?_,?_,?_,?_,?_,?_,?_,?_,?_,?_,trivial⟩ ?_
  ·exact⟨Zi,Zi,Zi,Zi,Zi,Zi,Zi,Zi,Zi,Zi,Zi,Zi,Zi,Zi,Zi,Zi,Zi,Zi,Zi,Zi,Zi,Zi,Zi,Zi,Zi,Zi,Zi,Zi,Zi,Zi,Zi,Zi,Zi,Zi,Zi,Zi,Zi,Zi,Zi,Zi,Zi,Zi,Zi,Zi,Zi,Zi,Zi,Zi,Zi,Zi,Zi,Zi,Zi,Zi,Zi,Zi,Zi,Zi,Zi,Zi,Zi,trivial⟩
  ·intro u w hR hd;exact rn_fld_49_1 (ev rfl) Zr
  ·intro u w hR hd;exact rn_ld_9 (ev (hd.1 rfl)) (d1.kept hR) Zr
  ·intro u w hR hd;exact rn_fld_164_0 (ev rfl) Zr
  ·intro u w hR hd;exact rn_ld_4 (ev (hd.1 rfl)) (e0.kept hR) Zr
  ·intro u w hR hd;exact runs_c2 en_nm (ev (hd.1 rfl)) (ev (hd.2.1 rfl)) (callp (fun _ e=>e) (HNM.out _ (HGV.out.trans hR)))
  ·intro u w hR hd;exact runs_mv (ev (hd.1 rfl)) Zr
  ·intro u w hR hd;exact⟨fun hg=>have hG:((if (ssR (kn:Int)).b then idn sx else decide (sx=⟨#[]⟩))=true):=Value.bool.inj ((hd.1 rfl).symm.trans hg);rn_fld_49_2 (ev rfl) (Zs hG),Zn (hd.1 rfl)⟩
  ·intro u w hR hd;exact⟨fun hg=>have hG:((if (ssR (kn:Int)).b then idn sx else decide (sx=⟨#[]⟩))=true):=Value.bool.inj ((hd.2.1 rfl).symm.trans hg);rn_ld_3 (ev ((hd.1 rfl).1 hG)) (d2.kept hR) (Zs hG),Zn (hd.2.1 rfl)⟩
  ·intro u w hR hd;exact⟨fun hg=>have hG:((if (ssR (kn:Int)).b then idn sx else decide (sx=⟨#[]⟩))=true):=Value.bool.inj ((hd.2.1 rfl).symm.trans hg);rn_leq_3 rfl (ev ((hd.1 rfl).1 hG)) (Zs hG),Zn (hd.2.1 rfl)⟩
  ·intro u w hR hd;exact runs_an (ev (hd.1 rfl)) (fun hb=>ev ((hd.2.1 rfl).1 hb)) Zr
  ·intro u w hR hd;exact runs_mv (ev (hd.1 rfl)) Zr
  ·intro u w hR hd;exact⟨fun hg=>have hG:(((if (ssR (kn:Int)).b then idn sx else decide (sx=⟨#[]⟩))&&(decide ((0)≤(nx))))=true):=Value.bool.inj ((hd.1 rfl).symm.trans hg);rn_fld_49_2 (ev rfl) (Zs hG),Zn (hd.1 rfl)⟩
  ·intro u w hR hd;exact⟨fun hg=>have hG:(((if (ssR (kn:Int)).b then idn sx else decide (sx=⟨#[]⟩))&&(decide ((0)≤(nx))))=true):=Value.bool.inj ((hd.2.1 rfl).symm.trans hg);rn_ld_3 (ev ((hd.1 rfl).1 hG)) (d2.kept hR) (Zs hG),Zn (hd.2.1 rfl)⟩
  ·intro u w hR hd;exact⟨fun hg=>have hG:(((if (ssR (kn:Int)).b then idn sx else decide (sx=⟨#[]⟩))&&(decide ((0)≤(nx))))=true):=Value.bool.inj ((hd.1 rfl).symm.trans hg);rn_fld_164_1 (ev rfl) (Zs hG),Zn (hd.1 rfl)⟩
  ·intro u w hR hd;exact⟨fun hg=>have hG:(((if (ssR (kn:Int)).b then idn sx else decide (sx=⟨#[]⟩))&&(decide ((0)≤(nx))))=true):=Value.bool.inj ((hd.2.1 rfl).symm.trans hg);rn_ld_3 (ev ((hd.1 rfl).1 hG)) (e1.kept hR) (Zs hG),Zn (hd.2.1 rfl)⟩
  ·intro u w hR hd;exact⟨fun hg=>have hG:(((if (ssR (kn:Int)).b then idn sx else decide (sx=⟨#[]⟩))&&(decide ((0)≤(nx))))=true):=Value.bool.inj ((hd.2.2.1 rfl).symm.trans hg);rn_leq_3 (ev ((hd.1 rfl).1 hG)) (ev ((hd.2.1 rfl).1 hG)) (Zs hG),Zn (hd.2.2.1 rfl)⟩
  ·intro u w hR hd;exact runs_an (ev (hd.1 rfl)) (fun hb=>ev ((hd.2.1 rfl).1 hb)) Zr
  ·intro u w hR hd;exact runs_mv (ev (hd.1 rfl)) Zr
  ·intro u w hR hd;exact⟨fun hg=>have hG:((((if (ssR (kn:Int)).b then idn sx else decide (sx=⟨#[]⟩))&&(decide ((0)≤(nx))))&&(decide ((nx)≤((ssR (kn:Int)).n))))=true):=Value.bool.inj ((hd.1 rfl).symm.trans hg);rn_fld_49_3 (ev rfl) (Zs hG),Zn (hd.1 rfl)⟩
  ·intro u w hR hd;exact⟨fun hg=>have hG:((((if (ssR (kn:Int)).b then idn sx else decide (sx=⟨#[]⟩))&&(decide ((0)≤(nx))))&&(decide ((nx)≤((ssR (kn:Int)).n))))=true):=Value.bool.inj ((hd.2.1 rfl).symm.trans hg);rn_ld_33 (ev ((hd.1 rfl).1 hG)) (d3.kept hR) (Zs hG),Zn (hd.2.1 rfl)⟩
  ·intro u w hR hd;exact⟨fun hg=>have hG:((((if (ssR (kn:Int)).b then idn sx else decide (sx=⟨#[]⟩))&&(decide ((0)≤(nx))))&&(decide ((nx)≤((ssR (kn:Int)).n))))=true):=Value.bool.inj ((hd.2.1 rfl).symm.trans hg);rn_len_33 (ev ((hd.1 rfl).1 hG)) (Zs hG),Zn (hd.2.1 rfl)⟩
  ·intro u w hR hd;exact⟨fun hg=>have hG:((((if (ssR (kn:Int)).b then idn sx else decide (sx=⟨#[]⟩))&&(decide ((0)≤(nx))))&&(decide ((nx)≤((ssR (kn:Int)).n))))=true):=Value.bool.inj ((hd.1 rfl).symm.trans hg);rn_fld_164_2 (ev rfl) (Zs hG),Zn (hd.1 rfl)⟩
  ·intro u w hR hd;exact⟨fun hg=>have hG:((((if (ssR (kn:Int)).b then idn sx else decide (sx=⟨#[]⟩))&&(decide ((0)≤(nx))))&&(decide ((nx)≤((ssR (kn:Int)).n))))=true):=Value.bool.inj ((hd.2.1 rfl).symm.trans hg);rn_ld_3 (ev ((hd.1 rfl).1 hG)) (e2.kept hR) (Zs hG),Zn (hd.2.1 rfl)⟩
  ·intro u w hR hd;exact⟨fun hg=>have hG:((((if (ssR (kn:Int)).b then idn sx else decide (sx=⟨#[]⟩))&&(decide ((0)≤(nx))))&&(decide ((nx)≤((ssR (kn:Int)).n))))=true):=Value.bool.inj ((hd.2.2.1 rfl).symm.trans hg);rn_eql_3 (ev ((hd.1 rfl).1 hG)) (ev ((hd.2.1 rfl).1 hG)) (Zs hG),Zn (hd.2.2.1 rfl)⟩
  ·intro u w hR hd;exact runs_an (ev (hd.1 rfl)) (fun hb=>ev ((hd.2.1 rfl).1 hb)) Zr
  ·intro u w hR hd;exact runs_mv (ev (hd.1 rfl)) Zr
  ·intro u w hR hd;exact⟨fun hg=>have hG:(((((if (ssR (kn:Int)).b then idn sx else decide (sx=⟨#[]⟩))&&(decide ((0)≤(nx))))&&(decide ((nx)≤((ssR (kn:Int)).n))))&&((((rx.length:Nat):Int))==((ssR (kn:Int)).a)))=true):=Value.bool.inj ((hd.1 rfl).symm.trans hg);rn_fld_164_3 (ev rfl) (Zs hG),Zn (hd.1 rfl)⟩
  ·intro u w hR hd;exact⟨fun hg=>have hG:(((((if (ssR (kn:Int)).b then idn sx else decide (sx=⟨#[]⟩))&&(decide ((0)≤(nx))))&&(decide ((nx)≤((ssR (kn:Int)).n))))&&((((rx.length:Nat):Int))==((ssR (kn:Int)).a)))=true):=Value.bool.inj ((hd.2.1 rfl).symm.trans hg);rn_ld_4 (ev ((hd.1 rfl).1 hG)) (e3.kept hR) (Zs hG),Zn (hd.2.1 rfl)⟩
  ·intro u w hR hd;exact⟨fun hg=>have hG:(((((if (ssR (kn:Int)).b then idn sx else decide (sx=⟨#[]⟩))&&(decide ((0)≤(nx))))&&(decide ((nx)≤((ssR (kn:Int)).n))))&&((((rx.length:Nat):Int))==((ssR (kn:Int)).a)))=true):=Value.bool.inj ((hd.2.1 rfl).symm.trans hg);runs_mv (ev ((hd.1 rfl).1 hG)) (Zs hG),Zn (hd.2.1 rfl)⟩
  ·intro u w hR hd;exact⟨fun hg=>have hP:(((((if (ssR (kn:Int)).b then idn sx else decide (sx=⟨#[]⟩))&&(decide ((0)≤(nx))))&&(decide ((nx)≤((ssR (kn:Int)).n))))&&((((rx.length:Nat):Int))==((ssR (kn:Int)).a)))=true):=Classical.byContradiction (fun hnp=>absurd (((hd.1 rfl).2 hnp).symm.trans hg) (fun h=>by first | cases h | (simp [undef] at h)));have hG:((((((if (ssR (kn:Int)).b then idn sx else decide (sx=⟨#[]⟩))&&(decide ((0)≤(nx))))&&(decide ((nx)≤((ssR (kn:Int)).n))))&&((((rx.length:Nat):Int))==((ssR (kn:Int)).a)))=true)∧(((ssR (kn:Int)).y)=false)):=⟨hP,Value.bool.inj (((hd.1 rfl).1 hP).symm.trans hg)⟩;rn_fld_49_4 (ev rfl) (Zs hG),fun hn=>⟨fun hG=>absurd (((hd.1 rfl).1 hG.1).trans (congrArg Value.bool hG.2)) hn,fun _=>rfl⟩⟩
  ·intro u w hR hd;exact⟨fun hg=>have hP:(((((if (ssR (kn:Int)).b then idn sx else decide (sx=⟨#[]⟩))&&(decide ((0)≤(nx))))&&(decide ((nx)≤((ssR (kn:Int)).n))))&&((((rx.length:Nat):Int))==((ssR (kn:Int)).a)))=true):=Classical.byContradiction (fun hnp=>absurd (((hd.2.1 rfl).2 hnp).symm.trans hg) (fun h=>by first | cases h | (simp [undef] at h)));have hG:((((((if (ssR (kn:Int)).b then idn sx else decide (sx=⟨#[]⟩))&&(decide ((0)≤(nx))))&&(decide ((nx)≤((ssR (kn:Int)).n))))&&((((rx.length:Nat):Int))==((ssR (kn:Int)).a)))=true)∧(((ssR (kn:Int)).y)=false)):=⟨hP,Value.bool.inj (((hd.2.1 rfl).1 hP).symm.trans hg)⟩;rn_ld_40 (ev ((hd.1 rfl).1 hG)) (d4.kept hR) (Zs hG),fun hn=>⟨fun hG=>absurd (((hd.2.1 rfl).1 hG.1).trans (congrArg Value.bool hG.2)) hn,fun _=>rfl⟩⟩
  ·intro u w hR hd;exact⟨fun hg=>have hP:(((((if (ssR (kn:Int)).b then idn sx else decide (sx=⟨#[]⟩))&&(decide ((0)≤(nx))))&&(decide ((nx)≤((ssR (kn:Int)).n))))&&((((rx.length:Nat):Int))==((ssR (kn:Int)).a)))=true):=Classical.byContradiction (fun hnp=>absurd (((hd.2.1 rfl).2 hnp).symm.trans hg) (fun h=>by first | cases h | (simp [undef] at h)));have hG:((((((if (ssR (kn:Int)).b then idn sx else decide (sx=⟨#[]⟩))&&(decide ((0)≤(nx))))&&(decide ((nx)≤((ssR (kn:Int)).n))))&&((((rx.length:Nat):Int))==((ssR (kn:Int)).a)))=true)∧(((ssR (kn:Int)).y)=false)):=⟨hP,Value.bool.inj (((hd.2.1 rfl).1 hP).symm.trans hg)⟩;rn_len_40 (ev ((hd.1 rfl).1 hG)) (Zs hG),fun hn=>⟨fun hG=>absurd (((hd.2.1 rfl).1 hG.1).trans (congrArg Value.bool hG.2)) hn,fun _=>rfl⟩⟩
  ·intro u w hR hd;exact⟨fun hg=>have hP:(((((if (ssR (kn:Int)).b then idn sx else decide (sx=⟨#[]⟩))&&(decide ((0)≤(nx))))&&(decide ((nx)≤((ssR (kn:Int)).n))))&&((((rx.length:Nat):Int))==((ssR (kn:Int)).a)))=true):=Classical.byContradiction (fun hnp=>absurd (((hd.2.1 rfl).2 hnp).symm.trans hg) (fun h=>by first | cases h | (simp [undef] at h)));have hG:((((((if (ssR (kn:Int)).b then idn sx else decide (sx=⟨#[]⟩))&&(decide ((0)≤(nx))))&&(decide ((nx)≤((ssR (kn:Int)).n))))&&((((rx.length:Nat):Int))==((ssR (kn:Int)).a)))=true)∧(((ssR (kn:Int)).y)=false)):=⟨hP,Value.bool.inj (((hd.2.1 rfl).1 hP).symm.trans hg)⟩;rn_eql_3 (ev ((hd.1 rfl).1 hG)) rfl (Zs hG),fun hn=>⟨fun hG=>absurd (((hd.2.1 rfl).1 hG.1).trans (congrArg Value.bool hG.2)) hn,fun _=>rfl⟩⟩
  ·intro u w hR hd;exact⟨fun hg=>have hG:(((((if (ssR (kn:Int)).b then idn sx else decide (sx=⟨#[]⟩))&&(decide ((0)≤(nx))))&&(decide ((nx)≤((ssR (kn:Int)).n))))&&((((rx.length:Nat):Int))==((ssR (kn:Int)).a)))=true):=Value.bool.inj ((hd.2.2.1 rfl).symm.trans hg);runs_or2 (ev ((hd.1 rfl).1 hG)) (fun hb=>ev ((hd.2.1 rfl).1 ⟨hG,hb⟩)) (Zs hG),Zn (hd.2.2.1 rfl)⟩
  ·intro u w hR hd;exact runs_an (ev (hd.1 rfl)) (fun hb=>ev ((hd.2.1 rfl).1 hb)) Zr
  ·intro u w hR hd;exact runs_mv (ev (hd.1 rfl)) Zr
  ·intro u w hR hd;exact⟨fun hg=>have hG:((((((if (ssR (kn:Int)).b then idn sx else decide (sx=⟨#[]⟩))&&(decide ((0)≤(nx))))&&(decide ((nx)≤((ssR (kn:Int)).n))))&&((((rx.length:Nat):Int))==((ssR (kn:Int)).a)))&&(((ssR (kn:Int)).y)||((((yx.length:Nat):Int))==(0))))=true):=Value.bool.inj ((hd.1 rfl).symm.trans hg);rn_fld_164_4 (ev rfl) (Zs hG),Zn (hd.1 rfl)⟩
  ·intro u w hR hd;exact⟨fun hg=>have hG:((((((if (ssR (kn:Int)).b then idn sx else decide (sx=⟨#[]⟩))&&(decide ((0)≤(nx))))&&(decide ((nx)≤((ssR (kn:Int)).n))))&&((((rx.length:Nat):Int))==((ssR (kn:Int)).a)))&&(((ssR (kn:Int)).y)||((((yx.length:Nat):Int))==(0))))=true):=Value.bool.inj ((hd.2.1 rfl).symm.trans hg);rn_ld_4 (ev ((hd.1 rfl).1 hG)) (e4.kept hR) (Zs hG),Zn (hd.2.1 rfl)⟩
  ·intro u w hR hd;exact⟨fun hg=>have hG:((((((if (ssR (kn:Int)).b then idn sx else decide (sx=⟨#[]⟩))&&(decide ((0)≤(nx))))&&(decide ((nx)≤((ssR (kn:Int)).n))))&&((((rx.length:Nat):Int))==((ssR (kn:Int)).a)))&&(((ssR (kn:Int)).y)||((((yx.length:Nat):Int))==(0))))=true):=Value.bool.inj ((hd.2.1 rfl).symm.trans hg);runs_mv (ev ((hd.1 rfl).1 hG)) (Zs hG),Zn (hd.2.1 rfl)⟩
  ·intro u w hR hd;exact⟨fun hg=>have hP:((((((if (ssR (kn:Int)).b then idn sx else decide (sx=⟨#[]⟩))&&(decide ((0)≤(nx))))&&(decide ((nx)≤((ssR (kn:Int)).n))))&&((((rx.length:Nat):Int))==((ssR (kn:Int)).a)))&&(((ssR (kn:Int)).y)||((((yx.length:Nat):Int))==(0))))=true):=Classical.byContradiction (fun hnp=>absurd (((hd.1 rfl).2 hnp).symm.trans hg) (fun h=>by first | cases h | (simp [undef] at h)));have hG:(((((((if (ssR (kn:Int)).b then idn sx else decide (sx=⟨#[]⟩))&&(decide ((0)≤(nx))))&&(decide ((nx)≤((ssR (kn:Int)).n))))&&((((rx.length:Nat):Int))==((ssR (kn:Int)).a)))&&(((ssR (kn:Int)).y)||((((yx.length:Nat):Int))==(0))))=true)∧(((ssR (kn:Int)).e)=false)):=⟨hP,Value.bool.inj (((hd.1 rfl).1 hP).symm.trans hg)⟩;rn_fld_49_5 (ev rfl) (Zs hG),fun hn=>⟨fun hG=>absurd (((hd.1 rfl).1 hG.1).trans (congrArg Value.bool hG.2)) hn,fun _=>rfl⟩⟩
  ·intro u w hR hd;exact⟨fun hg=>have hP:((((((if (ssR (kn:Int)).b then idn sx else decide (sx=⟨#[]⟩))&&(decide ((0)≤(nx))))&&(decide ((nx)≤((ssR (kn:Int)).n))))&&((((rx.length:Nat):Int))==((ssR (kn:Int)).a)))&&(((ssR (kn:Int)).y)||((((yx.length:Nat):Int))==(0))))=true):=Classical.byContradiction (fun hnp=>absurd (((hd.2.1 rfl).2 hnp).symm.trans hg) (fun h=>by first | cases h | (simp [undef] at h)));have hG:(((((((if (ssR (kn:Int)).b then idn sx else decide (sx=⟨#[]⟩))&&(decide ((0)≤(nx))))&&(decide ((nx)≤((ssR (kn:Int)).n))))&&((((rx.length:Nat):Int))==((ssR (kn:Int)).a)))&&(((ssR (kn:Int)).y)||((((yx.length:Nat):Int))==(0))))=true)∧(((ssR (kn:Int)).e)=false)):=⟨hP,Value.bool.inj (((hd.2.1 rfl).1 hP).symm.trans hg)⟩;rn_ld_40 (ev ((hd.1 rfl).1 hG)) (d5.kept hR) (Zs hG),fun hn=>⟨fun hG=>absurd (((hd.2.1 rfl).1 hG.1).trans (congrArg Value.bool hG.2)) hn,fun _=>rfl⟩⟩
  ·intro u w hR hd;exact⟨fun hg=>have hP:((((((if (ssR (kn:Int)).b then idn sx else decide (sx=⟨#[]⟩))&&(decide ((0)≤(nx))))&&(decide ((nx)≤((ssR (kn:Int)).n))))&&((((rx.length:Nat):Int))==((ssR (kn:Int)).a)))&&(((ssR (kn:Int)).y)||((((yx.length:Nat):Int))==(0))))=true):=Classical.byContradiction (fun hnp=>absurd (((hd.2.1 rfl).2 hnp).symm.trans hg) (fun h=>by first | cases h | (simp [undef] at h)));have hG:(((((((if (ssR (kn:Int)).b then idn sx else decide (sx=⟨#[]⟩))&&(decide ((0)≤(nx))))&&(decide ((nx)≤((ssR (kn:Int)).n))))&&((((rx.length:Nat):Int))==((ssR (kn:Int)).a)))&&(((ssR (kn:Int)).y)||((((yx.length:Nat):Int))==(0))))=true)∧(((ssR (kn:Int)).e)=false)):=⟨hP,Value.bool.inj (((hd.2.1 rfl).1 hP).symm.trans hg)⟩;rn_len_40 (ev ((hd.1 rfl).1 hG)) (Zs hG),fun hn=>⟨fun hG=>absurd (((hd.2.1 rfl).1 hG.1).trans (congrArg Value.bool hG.2)) hn,fun _=>rfl⟩⟩
  ·intro u w hR hd;exact⟨fun hg=>have hP:((((((if (ssR (kn:Int)).b then idn sx else decide (sx=⟨#[]⟩))&&(decide ((0)≤(nx))))&&(decide ((nx)≤((ssR (kn:Int)).n))))&&((((rx.length:Nat):Int))==((ssR (kn:Int)).a)))&&(((ssR (kn:Int)).y)||((((yx.length:Nat):Int))==(0))))=true):=Classical.byContradiction (fun hnp=>absurd (((hd.2.1 rfl).2 hnp).symm.trans hg) (fun h=>by first | cases h | (simp [undef] at h)));have hG:(((((((if (ssR (kn:Int)).b then idn sx else decide (sx=⟨#[]⟩))&&(decide ((0)≤(nx))))&&(decide ((nx)≤((ssR (kn:Int)).n))))&&((((rx.length:Nat):Int))==((ssR (kn:Int)).a)))&&(((ssR (kn:Int)).y)||((((yx.length:Nat):Int))==(0))))=true)∧(((ssR (kn:Int)).e)=false)):=⟨hP,Value.bool.inj (((hd.2.1 rfl).1 hP).symm.trans hg)⟩;rn_eql_3 (ev ((hd.1 rfl).1 hG)) rfl (Zs hG),fun hn=>⟨fun hG=>absurd (((hd.2.1 rfl).1 hG.1).trans (congrArg Value.bool hG.2)) hn,fun _=>rfl⟩⟩
  ·intro u w hR hd;exact⟨fun hg=>have hG:((((((if (ssR (kn:Int)).b then idn sx else decide (sx=⟨#[]⟩))&&(decide ((0)≤(nx))))&&(decide ((nx)≤((ssR (kn:Int)).n))))&&((((rx.length:Nat):Int))==((ssR (kn:Int)).a)))&&(((ssR (kn:Int)).y)||((((yx.length:Nat):Int))==(0))))=true):=Value.bool.inj ((hd.2.2.1 rfl).symm.trans hg);runs_or2 (ev ((hd.1 rfl).1 hG)) (fun hb=>ev ((hd.2.1 rfl).1 ⟨hG,hb⟩)) (Zs hG),Zn (hd.2.2.1 rfl)⟩
  ·intro u w hR hd;exact runs_an (ev (hd.1 rfl)) (fun hb=>ev ((hd.2.1 rfl).1 hb)) Zr
  ·intro u w hR hd;exact runs_mv (ev (hd.1 rfl)) Zr
  ·intro u w hR hd;exact⟨fun hg=>have hG:(((((((if (ssR (kn:Int)).b then idn sx else decide (sx=⟨#[]⟩))&&(decide ((0)≤(nx))))&&(decide ((nx)≤((ssR (kn:Int)).n))))&&((((rx.length:Nat):Int))==((ssR (kn:Int)).a)))&&(((ssR (kn:Int)).y)||((((yx.length:Nat):Int))==(0))))&&(((ssR (kn:Int)).e)||((((ex.length:Nat):Int))==(0))))=true):=Value.bool.inj ((hd.1 rfl).symm.trans hg);rn_fld_49_3 (ev rfl) (Zs hG),Zn (hd.1 rfl)⟩
  ·intro u w hR hd;exact⟨fun hg=>have hG:(((((((if (ssR (kn:Int)).b then idn sx else decide (sx=⟨#[]⟩))&&(decide ((0)≤(nx))))&&(decide ((nx)≤((ssR (kn:Int)).n))))&&((((rx.length:Nat):Int))==((ssR (kn:Int)).a)))&&(((ssR (kn:Int)).y)||((((yx.length:Nat):Int))==(0))))&&(((ssR (kn:Int)).e)||((((ex.length:Nat):Int))==(0))))=true):=Value.bool.inj ((hd.2.1 rfl).symm.trans hg);rn_ld_33 (ev ((hd.1 rfl).1 hG)) (d3.kept hR) (Zs hG),Zn (hd.2.1 rfl)⟩
  ·intro u w hR hd;exact⟨fun hg=>have hG:(((((((if (ssR (kn:Int)).b then idn sx else decide (sx=⟨#[]⟩))&&(decide ((0)≤(nx))))&&(decide ((nx)≤((ssR (kn:Int)).n))))&&((((rx.length:Nat):Int))==((ssR (kn:Int)).a)))&&(((ssR (kn:Int)).y)||((((yx.length:Nat):Int))==(0))))&&(((ssR (kn:Int)).e)||((((ex.length:Nat):Int))==(0))))=true):=Value.bool.inj ((hd.2.1 rfl).symm.trans hg);runs_c2 en_evX (ev ((hd.1 rfl).1 hG)) rfl (callp (fun _ e=>⟨fun _=>e,fun hn=>absurd hG hn⟩) (HEV.out _ (HGV.out.trans hR))),Zn (hd.2.1 rfl)⟩
  ·intro u w hR hd;exact runs_an (ev (hd.1 rfl)) (fun hb=>ev ((hd.2.1 rfl).1 hb)) Zr
  ·intro u w hR hd;exact runs_mv (ev (hd.1 rfl)) Zr
  ·intro u w hR hd;exact⟨fun hg=>have hG:((((((((if (ssR (kn:Int)).b then idn sx else decide (sx=⟨#[]⟩))&&(decide ((0)≤(nx))))&&(decide ((nx)≤((ssR (kn:Int)).n))))&&((((rx.length:Nat):Int))==((ssR (kn:Int)).a)))&&(((ssR (kn:Int)).y)||((((yx.length:Nat):Int))==(0))))&&(((ssR (kn:Int)).e)||((((ex.length:Nat):Int))==(0))))&&(rx.all okX))=true):=Value.bool.inj ((hd.1 rfl).symm.trans hg);rn_fld_49_4 (ev rfl) (Zs hG),Zn (hd.1 rfl)⟩
  ·intro u w hR hd;exact⟨fun hg=>have hG:((((((((if (ssR (kn:Int)).b then idn sx else decide (sx=⟨#[]⟩))&&(decide ((0)≤(nx))))&&(decide ((nx)≤((ssR (kn:Int)).n))))&&((((rx.length:Nat):Int))==((ssR (kn:Int)).a)))&&(((ssR (kn:Int)).y)||((((yx.length:Nat):Int))==(0))))&&(((ssR (kn:Int)).e)||((((ex.length:Nat):Int))==(0))))&&(rx.all okX))=true):=Value.bool.inj ((hd.2.1 rfl).symm.trans hg);rn_ld_40 (ev ((hd.1 rfl).1 hG)) (d4.kept hR) (Zs hG),Zn (hd.2.1 rfl)⟩
  ·intro u w hR hd;exact⟨fun hg=>have hG:((((((((if (ssR (kn:Int)).b then idn sx else decide (sx=⟨#[]⟩))&&(decide ((0)≤(nx))))&&(decide ((nx)≤((ssR (kn:Int)).n))))&&((((rx.length:Nat):Int))==((ssR (kn:Int)).a)))&&(((ssR (kn:Int)).y)||((((yx.length:Nat):Int))==(0))))&&(((ssR (kn:Int)).e)||((((ex.length:Nat):Int))==(0))))&&(rx.all okX))=true):=Value.bool.inj ((hd.2.1 rfl).symm.trans hg);runs_c2 en_evS (ev ((hd.1 rfl).1 hG)) rfl (callp (fun _ e=>⟨fun _=>e,fun hn=>absurd hG hn⟩) (HEY.out _ (HGV.out.trans hR))),Zn (hd.2.1 rfl)⟩
  ·intro u w hR hd;exact runs_an (ev (hd.1 rfl)) (fun hb=>ev ((hd.2.1 rfl).1 hb)) Zr
  ·intro u w hR hd;exact runs_mv (ev (hd.1 rfl)) Zr
  ·intro u w hR hd;exact⟨fun hg=>have hG:(((((((((if (ssR (kn:Int)).b then idn sx else decide (sx=⟨#[]⟩))&&(decide ((0)≤(nx))))&&(decide ((nx)≤((ssR (kn:Int)).n))))&&((((rx.length:Nat):Int))==((ssR (kn:Int)).a)))&&(((ssR (kn:Int)).y)||((((yx.length:Nat):Int))==(0))))&&(((ssR (kn:Int)).e)||((((ex.length:Nat):Int))==(0))))&&(rx.all okX))&&(yx.all okS))=true):=Value.bool.inj ((hd.1 rfl).symm.trans hg);rn_fld_49_5 (ev rfl) (Zs hG),Zn (hd.1 rfl)⟩
  ·intro u w hR hd;exact⟨fun hg=>have hG:(((((((((if (ssR (kn:Int)).b then idn sx else decide (sx=⟨#[]⟩))&&(decide ((0)≤(nx))))&&(decide ((nx)≤((ssR (kn:Int)).n))))&&((((rx.length:Nat):Int))==((ssR (kn:Int)).a)))&&(((ssR (kn:Int)).y)||((((yx.length:Nat):Int))==(0))))&&(((ssR (kn:Int)).e)||((((ex.length:Nat):Int))==(0))))&&(rx.all okX))&&(yx.all okS))=true):=Value.bool.inj ((hd.2.1 rfl).symm.trans hg);rn_ld_40 (ev ((hd.1 rfl).1 hG)) (d5.kept hR) (Zs hG),Zn (hd.2.1 rfl)⟩
  ·intro u w hR hd;exact⟨fun hg=>have hG:(((((((((if (ssR (kn:Int)).b then idn sx else decide (sx=⟨#[]⟩))&&(decide ((0)≤(nx))))&&(decide ((nx)≤((ssR (kn:Int)).n))))&&((((rx.length:Nat):Int))==((ssR (kn:Int)).a)))&&(((ssR (kn:Int)).y)||((((yx.length:Nat):Int))==(0))))&&(((ssR (kn:Int)).e)||((((ex.length:Nat):Int))==(0))))&&(rx.all okX))&&(yx.all okS))=true):=Value.bool.inj ((hd.2.1 rfl).symm.trans hg);runs_c2 en_evS (ev ((hd.1 rfl).1 hG)) rfl (callp (fun _ e=>⟨fun _=>e,fun hn=>absurd hG hn⟩) (HEE.out _ (HGV.out.trans hR))),Zn (hd.2.1 rfl)⟩
  ·intro u w hR hd;exact runs_an (ev (hd.1 rfl)) (fun hb=>ev ((hd.2.1 rfl).1 hb)) Zr
  ·intro u w hR hd;exact runs_mva (ev (hd.1 rfl)) Zr
  ·intro u w4 hR hh
   have he:u 2=.bool (((((((((if (ssR (kn:Int)).b then idn sx else decide (sx=⟨#[]⟩))&&(decide ((0)≤(nx))))&&(decide ((nx)≤((ssR (kn:Int)).n))))&&((((rx.length:Nat):Int))==((ssR (kn:Int)).a)))&&(((ssR (kn:Int)).y)||((((yx.length:Nat):Int))==(0))))&&(((ssR (kn:Int)).e)||((((ex.length:Nat):Int))==(0))))&&(rx.all okX))&&(yx.all okS))&&(ex.all okS)):=hh 60 (by decide)
   rw [HEQ.out] at he
   simp only [mixA,mixL,zz9,zz0,he]
   have HG4:Hid (Grew w w4):=Lib.hid (HGV.out.trans hR)
   clear hh he hR d0 d1 d2 d3 d4 d5 d6 e0 e1 e2 e3 e4 HGV
   go_wp2
   go_ret
   exact⟨rfl,HG4.out⟩
end Go.Proofs.YtcknpcbkofgdoaaGreatDoor
namespace Go.Proofs.YtcknpcbkofgdoaaGreatDoor
open Go Go.RowKit Go.IntWalk
set_option linter.unusedSimpArgs false
set_option linter.unusedVariables false
set_option maxRecDepth 8000
section
variable {dst:Option Tmp}{ty:TypeId}{pos:String}{after:Array Edge}{g:Option (Nat × Bool)}{a:Act}{w:World}{T:Value→World→Prop}
theorem rn_ld_42 {x:Operand}{S o:Nat}{v0 v1 v2 v3 v4 v5 v6 v7:Value}(hx:a.eval x=.pointer (some ⟨S,o,none⟩)) (h0:w.cell? ⟨S,o,none⟩=some v0) (h1:w.cell? ⟨S,o+1,none⟩=some v1) (h2:w.cell? ⟨S,o+2,none⟩=some v2) (h3:w.cell? ⟨S,o+3,none⟩=some v3) (h4:w.cell? ⟨S,o+4,none⟩=some v4) (h5:w.cell? ⟨S,o+5,none⟩=some v5) (h6:w.cell? ⟨S,o+6,none⟩=some v6) (h7:w.cell? ⟨S,o+7,none⟩=some v7) (h:T (.agg #[v0,v1,v2,v3,v4,v5,v6,v7]) w):Runs Tryz.prog ⟨dst,.load 42 x,ty,pos,after,g⟩ a w T:=by
 refine Runs.value (v:=.agg #[v0,v1,v2,v3,v4,v5,v6,v7]) (w':=w) ?_ h
 simp only [execOp,hx]
 go_simp
end
theorem trig_eq (i n:Int) (h m:ByteArray):(if i=0 then (((idn h)&&(idn m))&&(num1 n 0)) else ((((num1 i 0)&&(decide ((h)=((⟨([]).toArray⟩:ByteArray)))))&&(decide ((m)=((⟨([]).toArray⟩:ByteArray)))))&&((n)==(0))))=tlT i h m n:=by
 have he0:(⟨([]:List UInt8).toArray⟩:ByteArray)=⟨#[]⟩:=rfl
 rw [tlT]
 split
 ·rfl
 ·simp only [num1,he0,beq_dec]
  generalize decide (h=⟨#[]⟩)=a
  generalize decide (m=⟨#[]⟩)=b
  rw [Bool.eq_iff_iff]
  cases a <;> cases b <;> simp <;> omega
theorem task_eq (s:ByteArray) (i d:Int) (h m:ByteArray) (n:Int) (y:List Sm) (q:Int):((((idn s)&&(tlT i h m n))&&(num1 d 0))&&(y.all okS))=okT ⟨s,i,d,h,m,n,y,q⟩:=by
 show _=(hdT s d y&&tlT i h m n)
 rw [hdT,okSs_lall]
 cases idn s <;> cases tlT i h m n <;> cases num1 d 0 <;> cases y.all okS <;> rfl
set_option maxHeartbeats 8000000 in
theorem trig_any (s:ByteArray) (i d:Int) (h m:ByteArray) (n:Int) (y:List Sm) (q:Int) (bp:Option Addr) (bc:Nat) (w:World) (hh:h.size≤1048576) (hm:m.size≤1048576) (hcap:y.length≤bc) (hmax:bc≤9223372036854775807) (hE:Env w) :
 Calls Tryz.prog 112 #[tv s i d h m n bp y.length bc q] w fun e w'=>e=.returned (.bool (tlT i h m n))∧Grew w w':=by
 have HE:=Lib.hid hE
 have HIh:=Lib.hid (fun W (hW:Grew w W)=>isid_any h hh W (HE.out.grew hW))
 have HIm:=Lib.hid (fun W (hW:Grew w W)=>isid_any m hm W (HE.out.grew hW))
 have hEQ:=trig_eq i n h m
 clear hE hh hm
 by_cases hi:i=0
 ·rw [if_pos hi] at hEQ
  have hi2:(i==0)=true:=by rw [hi];rfl
  clear hi
  have HEQ:=Lib.hid (hEQ)
  go_enter Tryz.func112,Tryz.ntmps112
  go_upto_region 2 with fail
  have hb1:Blk w.heap.size [.string s,.int .i64 i,.int .i64 d,.string h,.string m,.int .i64 n,.slice bp y.length bc,.int .i64 q] 42 (w.alloc (Obj.cells #[.string s,.int .i64 i,.int .i64 d,.string h,.string m,.int .i64 n,.slice bp y.length bc,.int .i64 q] 42)):=Blk.new w _ _
  have hgV:Grew w (w.alloc (Obj.cells #[.string s,.int .i64 i,.int .i64 d,.string h,.string m,.int .i64 n,.slice bp y.length bc,.int .i64 q] 42)):=(Grew.refl w).alloc _
  generalize (w.alloc (Obj.cells #[.string s,.int .i64 i,.int .i64 d,.string h,.string m,.int .i64 n,.slice bp y.length bc,.int .i64 q] 42))=V at hb1 hgV ⊢
  generalize w.heap.size=T at hb1 ⊢
  have HGV:=Lib.hid hgV
  have d0:Atv ⟨T,0,none⟩ (.string s) V:=hb1.atv 0 rfl
  have d1:Atv ⟨T,1,none⟩ (.int .i64 i) V:=hb1.atv 1 rfl
  have d2:Atv ⟨T,2,none⟩ (.int .i64 d) V:=hb1.atv 2 rfl
  have d3:Atv ⟨T,3,none⟩ (.string h) V:=hb1.atv 3 rfl
  have d4:Atv ⟨T,4,none⟩ (.string m) V:=hb1.atv 4 rfl
  have d5:Atv ⟨T,5,none⟩ (.int .i64 n) V:=hb1.atv 5 rfl
  have d6:Atv ⟨T,6,none⟩ (.slice bp y.length bc) V:=hb1.atv 6 rfl
  have d7:Atv ⟨T,7,none⟩ (.int .i64 q) V:=hb1.atv 7 rfl
  clear hb1 hgV
  refine wp_postsL [some 6,some 7,some 8,some 9,some 10,some 11,some 12,some 13,some 14,some 15,some 16,some 17,some 18,some 2] [Zf,Zf,Zt,Zf,Zf,Zf,Zt,Zt,Zt,Zt,Zt,Zt,Zt,Zt,Zt,Zt,Zt,Zt,Zt,Zf,Zf,Zf,Zf,Zf,Zf,Zf,Zf,Zf,Zf,Zf,Zf,Zf,Zf,Zf,Zf,Zf,Zf] [fun v _=>v=.pointer (some ⟨T,3,none⟩),fun v _=>v=.string h,fun v _=>v=.bool (idn h),fun v _=>v=.bool (idn h),fun v _=>(((idn h)=true)→v=.pointer (some ⟨T,4,none⟩))∧(¬ ((idn h)=true)→v=undef),fun v _=>(((idn h)=true)→v=.string m)∧(¬ ((idn h)=true)→v=undef),fun v _=>(((idn h)=true)→v=.bool (idn m))∧(¬ ((idn h)=true)→v=undef),fun v _=>v=.bool ((idn h)&&(idn m)),fun v _=>v=.bool ((idn h)&&(idn m)),fun v _=>((((idn h)&&(idn m))=true)→v=.pointer (some ⟨T,5,none⟩))∧(¬ (((idn h)&&(idn m))=true)→v=undef),fun v _=>((((idn h)&&(idn m))=true)→v=.int .i64 (n))∧(¬ (((idn h)&&(idn m))=true)→v=undef),fun v _=>((((idn h)&&(idn m))=true)→v=.bool (num1 n 0))∧(¬ (((idn h)&&(idn m))=true)→v=undef),fun v _=>v=.bool (((idn h)&&(idn m))&&(num1 n 0)),fun v _=>v=.bool (((idn h)&&(idn m))&&(num1 n 0))] (by kernel_rfl) rfl ?_ ⟨?_,?_,?_,?_,?_,?_,?_,?_,?_,?_,?_,?_,?_,?_,trivial⟩ ?_
  ·exact⟨Zi,Zi,Zi,Zi,Zi,Zi,Zi,Zi,Zi,Zi,Zi,Zi,Zi,Zi,trivial⟩
  ·intro u w hR hd;exact rn_fld_42_3 (ev rfl) Zr
  ·intro u w hR hd;exact rn_ld_9 (ev (hd.1 rfl)) (d3.kept hR) Zr
  ·intro u w hR hd;exact runs_c1 en_id (ev (hd.1 rfl)) (callp (fun _ e=>e) (HIh.out _ (HGV.out.trans hR)))
  ·intro u w hR hd;exact runs_mv (ev (hd.1 rfl)) Zr
  ·intro u w hR hd;exact⟨fun hg=>have hG:((idn h)=true):=Value.bool.inj ((hd.1 rfl).symm.trans hg);rn_fld_42_4 (ev rfl) (Zs hG),Zn (hd.1 rfl)⟩
  ·intro u w hR hd;exact⟨fun hg=>have hG:((idn h)=true):=Value.bool.inj ((hd.2.1 rfl).symm.trans hg);rn_ld_9 (ev ((hd.1 rfl).1 hG)) (d4.kept hR) (Zs hG),Zn (hd.2.1 rfl)⟩
  ·intro u w hR hd;exact⟨fun hg=>have hG:((idn h)=true):=Value.bool.inj ((hd.2.1 rfl).symm.trans hg);runs_c1 en_id (ev ((hd.1 rfl).1 hG)) (callp (fun _ e=>⟨fun _=>e,fun hn=>absurd hG hn⟩) (HIm.out _ (HGV.out.trans hR))),Zn (hd.2.1 rfl)⟩
  ·intro u w hR hd;exact runs_an (ev (hd.1 rfl)) (fun hb=>ev ((hd.2.1 rfl).1 hb)) Zr
  ·intro u w hR hd;exact runs_mv (ev (hd.1 rfl)) Zr
  ·intro u w hR hd;exact⟨fun hg=>have hG:(((idn h)&&(idn m))=true):=Value.bool.inj ((hd.1 rfl).symm.trans hg);rn_fld_42_5 (ev rfl) (Zs hG),Zn (hd.1 rfl)⟩
  ·intro u w hR hd;exact⟨fun hg=>have hG:(((idn h)&&(idn m))=true):=Value.bool.inj ((hd.2.1 rfl).symm.trans hg);rn_ld_3 (ev ((hd.1 rfl).1 hG)) (d5.kept hR) (Zs hG),Zn (hd.2.1 rfl)⟩
  ·intro u w hR hd;exact⟨fun hg=>have hG:(((idn h)&&(idn m))=true):=Value.bool.inj ((hd.2.1 rfl).symm.trans hg);runs_c1 en_nu (ev ((hd.1 rfl).1 hG)) (callp (fun _ e=>⟨fun _=>e,fun hn=>absurd hG hn⟩) ((isnum_any _ _).mono fun e w9 h=>⟨h.1,h.2 ▸ Grew.refl _⟩)),Zn (hd.2.1 rfl)⟩
  ·intro u w hR hd;exact runs_an (ev (hd.1 rfl)) (fun hb=>ev ((hd.2.1 rfl).1 hb)) Zr
  ·intro u w hR hd;exact runs_mva (ev (hd.1 rfl)) Zr
  ·intro u w4 hR hh
   have he:u 2=.bool (((idn h)&&(idn m))&&(num1 n 0)):=hh 13 (by decide)
   rw [HEQ.out] at he
   simp only [mixA,mixL,zz9,zz0,he]
   have HG4:Hid (Grew w w4):=Lib.hid (HGV.out.trans hR)
   clear hh he hR d0 d1 d2 d3 d4 d5 d6 d7 HGV
   go_wp2
   go_ret
   exact⟨rfl,HG4.out⟩
 ·rw [if_neg hi] at hEQ
  have hi2:(i==0)=false:=beq_eq_false_iff_ne.2 hi
  clear hi
  have HEQ:=Lib.hid (hEQ)
  go_enter Tryz.func112,Tryz.ntmps112
  go_upto_region 3 with fail
  have hb1:Blk w.heap.size [.string s,.int .i64 i,.int .i64 d,.string h,.string m,.int .i64 n,.slice bp y.length bc,.int .i64 q] 42 (w.alloc (Obj.cells #[.string s,.int .i64 i,.int .i64 d,.string h,.string m,.int .i64 n,.slice bp y.length bc,.int .i64 q] 42)):=Blk.new w _ _
  have hgV:Grew w (w.alloc (Obj.cells #[.string s,.int .i64 i,.int .i64 d,.string h,.string m,.int .i64 n,.slice bp y.length bc,.int .i64 q] 42)):=(Grew.refl w).alloc _
  generalize (w.alloc (Obj.cells #[.string s,.int .i64 i,.int .i64 d,.string h,.string m,.int .i64 n,.slice bp y.length bc,.int .i64 q] 42))=V at hb1 hgV ⊢
  generalize w.heap.size=T at hb1 ⊢
  have HGV:=Lib.hid hgV
  have d0:Atv ⟨T,0,none⟩ (.string s) V:=hb1.atv 0 rfl
  have d1:Atv ⟨T,1,none⟩ (.int .i64 i) V:=hb1.atv 1 rfl
  have d2:Atv ⟨T,2,none⟩ (.int .i64 d) V:=hb1.atv 2 rfl
  have d3:Atv ⟨T,3,none⟩ (.string h) V:=hb1.atv 3 rfl
  have d4:Atv ⟨T,4,none⟩ (.string m) V:=hb1.atv 4 rfl
  have d5:Atv ⟨T,5,none⟩ (.int .i64 n) V:=hb1.atv 5 rfl
  have d6:Atv ⟨T,6,none⟩ (.slice bp y.length bc) V:=hb1.atv 6 rfl
  have d7:Atv ⟨T,7,none⟩ (.int .i64 q) V:=hb1.atv 7 rfl
  clear hb1 hgV
  refine wp_postsL [some 19,some 20,some 21,some 22,some 23,some 24,some 25,some 26,some 27,some 28,some 29,some 30,some 31,some 32,some 33,some 34,some 35,some 36,some 2] [Zf,Zf,Zt,Zf,Zf,Zf,Zf,Zf,Zf,Zf,Zf,Zf,Zf,Zf,Zf,Zf,Zf,Zf,Zf,Zt,Zt,Zt,Zt,Zt,Zt,Zt,Zt,Zt,Zt,Zt,Zt,Zt,Zt,Zt,Zt,Zt,Zt] [fun v _=>v=.pointer (some ⟨T,1,none⟩),fun v _=>v=.int .i64 (i),fun v _=>v=.bool (num1 i 0),fun v _=>v=.bool (num1 i 0),fun v _=>(((num1 i 0)=true)→v=.pointer (some ⟨T,3,none⟩))∧(¬ ((num1 i 0)=true)→v=undef),fun v _=>(((num1 i 0)=true)→v=.string h)∧(¬ ((num1 i 0)=true)→v=undef),fun v _=>(((num1 i 0)=true)→v=.bool (decide ((h)=((⟨([]).toArray⟩:ByteArray)))))∧(¬ ((num1 i 0)=true)→v=undef),fun v _=>v=.bool ((num1 i 0)&&(decide ((h)=((⟨([]).toArray⟩:ByteArray))))),fun v _=>v=.bool ((num1 i 0)&&(decide ((h)=((⟨([]).toArray⟩:ByteArray))))),fun v _=>((((num1 i 0)&&(decide ((h)=((⟨([]).toArray⟩:ByteArray)))))=true)→v=.pointer (some ⟨T,4,none⟩))∧(¬ (((num1 i 0)&&(decide ((h)=((⟨([]).toArray⟩:ByteArray)))))=true)→v=undef),fun v _=>((((num1 i 0)&&(decide ((h)=((⟨([]).toArray⟩:ByteArray)))))=true)→v=.string m)∧(¬ (((num1 i 0)&&(decide ((h)=((⟨([]).toArray⟩:ByteArray)))))=true)→v=undef),fun v _=>((((num1 i 0)&&(decide ((h)=((⟨([]).toArray⟩:ByteArray)))))=true)→v=.bool (decide ((m)=((⟨([]).toArray⟩:ByteArray)))))∧(¬ (((num1 i 0)&&(decide ((h)=((⟨([]).toArray⟩:ByteArray)))))=true)→v=undef),fun v _=>v=.bool (((num1 i 0)&&(decide ((h)=((⟨([]).toArray⟩:ByteArray)))))&&(decide ((m)=((⟨([]).toArray⟩:ByteArray))))),fun v _=>v=.bool (((num1 i 0)&&(decide ((h)=((⟨([]).toArray⟩:ByteArray)))))&&(decide ((m)=((⟨([]).toArray⟩:ByteArray))))),fun v _=>(((((num1 i 0)&&(decide ((h)=((⟨([]).toArray⟩:ByteArray)))))&&(decide ((m)=((⟨([]).toArray⟩:ByteArray)))))=true)→v=.pointer (some ⟨T,5,none⟩))∧(¬ ((((num1 i 0)&&(decide ((h)=((⟨([]).toArray⟩:ByteArray)))))&&(decide ((m)=((⟨([]).toArray⟩:ByteArray)))))=true)→v=undef),fun v _=>(((((num1 i 0)&&(decide ((h)=((⟨([]).toArray⟩:ByteArray)))))&&(decide ((m)=((⟨([]).toArray⟩:ByteArray)))))=true)→v=.int .i64 (n))∧(¬ ((((num1 i 0)&&(decide ((h)=((⟨([]).toArray⟩:ByteArray)))))&&(decide ((m)=((⟨([]).toArray⟩:ByteArray)))))=true)→v=undef),fun v _=>(((((num1 i 0)&&(decide ((h)=((⟨([]).toArray⟩:ByteArray)))))&&(decide ((m)=((⟨([]).toArray⟩:ByteArray)))))=true)→v=.bool ((n)==(0)))∧(¬ ((((num1 i 0)&&(decide ((h)=((⟨([]).toArray⟩:ByteArray)))))&&(decide ((m)=((⟨([]).toArray⟩:ByteArray)))))=true)→v=undef),fun v _=>v=.bool ((((num1 i 0)&&(decide ((h)=((⟨([]).toArray⟩:ByteArray)))))&&(decide ((m)=((⟨([]).toArray⟩:ByteArray)))))&&((n)==(0))),fun v _=>v=.bool ((((num1 i 0)&&(decide ((h)=((⟨([]).toArray⟩:ByteArray)))))&&(decide ((m)=((⟨([]).toArray⟩:ByteArray)))))&&((n)==(0)))] (by kernel_rfl) rfl ?_ ⟨?_,?_,?_,?_,?_,?_,?_,?_,?_,?_,?_,?_,?_,?_,?_,?_,?_,?_,?_,trivial⟩ ?_
  ·exact⟨Zi,Zi,Zi,Zi,Zi,Zi,Zi,Zi,Zi,Zi,Zi,Zi,Zi,Zi,Zi,Zi,Zi,Zi,Zi,trivial⟩
  ·intro u w hR hd;exact rn_fld_42_1 (ev rfl) Zr
  ·intro u w hR hd;exact rn_ld_3 (ev (hd.1 rfl)) (d1.kept hR) Zr
  ·intro u w hR hd;exact runs_c1 en_nu (ev (hd.1 rfl)) (callp (fun _ e=>e) ((isnum_any _ _).mono fun e w9 h=>⟨h.1,h.2 ▸ Grew.refl _⟩))
  ·intro u w hR hd;exact runs_mv (ev (hd.1 rfl)) Zr
  ·intro u w hR hd;exact⟨fun hg=>have hG:((num1 i 0)=true):=Value.bool.inj ((hd.1 rfl).symm.trans hg);rn_fld_42_3 (ev rfl) (Zs hG),Zn (hd.1 rfl)⟩
  ·intro u w hR hd;exact⟨fun hg=>have hG:((num1 i 0)=true):=Value.bool.inj ((hd.2.1 rfl).symm.trans hg);rn_ld_9 (ev ((hd.1 rfl).1 hG)) (d3.kept hR) (Zs hG),Zn (hd.2.1 rfl)⟩
  ·intro u w hR hd;exact⟨fun hg=>have hG:((num1 i 0)=true):=Value.bool.inj ((hd.2.1 rfl).symm.trans hg);rn_eqs_9 (ev ((hd.1 rfl).1 hG)) rfl (Zs hG),Zn (hd.2.1 rfl)⟩
  ·intro u w hR hd;exact runs_an (ev (hd.1 rfl)) (fun hb=>ev ((hd.2.1 rfl).1 hb)) Zr
  ·intro u w hR hd;exact runs_mv (ev (hd.1 rfl)) Zr
  ·intro u w hR hd;exact⟨fun hg=>have hG:(((num1 i 0)&&(decide ((h)=((⟨([]).toArray⟩:ByteArray)))))=true):=Value.bool.inj ((hd.1 rfl).symm.trans hg);rn_fld_42_4 (ev rfl) (Zs hG),Zn (hd.1 rfl)⟩
  ·intro u w hR hd;exact⟨fun hg=>have hG:(((num1 i 0)&&(decide ((h)=((⟨([]).toArray⟩:ByteArray)))))=true):=Value.bool.inj ((hd.2.1 rfl).symm.trans hg);rn_ld_9 (ev ((hd.1 rfl).1 hG)) (d4.kept hR) (Zs hG),Zn (hd.2.1 rfl)⟩
  ·intro u w hR hd;exact⟨fun hg=>have hG:(((num1 i 0)&&(decide ((h)=((⟨([]).toArray⟩:ByteArray)))))=true):=Value.bool.inj ((hd.2.1 rfl).symm.trans hg);rn_eqs_9 (ev ((hd.1 rfl).1 hG)) rfl (Zs hG),Zn (hd.2.1 rfl)⟩
  ·intro u w hR hd;exact runs_an (ev (hd.1 rfl)) (fun hb=>ev ((hd.2.1 rfl).1 hb)) Zr
  ·intro u w hR hd;exact runs_mv (ev (hd.1 rfl)) Zr
  ·intro u w hR hd;exact⟨fun hg=>have hG:((((num1 i 0)&&(decide ((h)=((⟨([]).toArray⟩:ByteArray)))))&&(decide ((m)=((⟨([]).toArray⟩:ByteArray)))))=true):=Value.bool.inj ((hd.1 rfl).symm.trans hg);rn_fld_42_5 (ev rfl) (Zs hG),Zn (hd.1 rfl)⟩
  ·intro u w hR hd;exact⟨fun hg=>have hG:((((num1 i 0)&&(decide ((h)=((⟨([]).toArray⟩:ByteArray)))))&&(decide ((m)=((⟨([]).toArray⟩:ByteArray)))))=true):=Value.bool.inj ((hd.2.1 rfl).symm.trans hg);rn_ld_3 (ev ((hd.1 rfl).1 hG)) (d5.kept hR) (Zs hG),Zn (hd.2.1 rfl)⟩
  ·intro u w hR hd;exact⟨fun hg=>have hG:((((num1 i 0)&&(decide ((h)=((⟨([]).toArray⟩:ByteArray)))))&&(decide ((m)=((⟨([]).toArray⟩:ByteArray)))))=true):=Value.bool.inj ((hd.2.1 rfl).symm.trans hg);rn_eql_3 (ev ((hd.1 rfl).1 hG)) rfl (Zs hG),Zn (hd.2.1 rfl)⟩
  ·intro u w hR hd;exact runs_an (ev (hd.1 rfl)) (fun hb=>ev ((hd.2.1 rfl).1 hb)) Zr
  ·intro u w hR hd;exact runs_mva (ev (hd.1 rfl)) Zr
  ·intro u w4 hR hh
   have he:u 2=.bool ((((num1 i 0)&&(decide ((h)=((⟨([]).toArray⟩:ByteArray)))))&&(decide ((m)=((⟨([]).toArray⟩:ByteArray)))))&&((n)==(0))):=hh 18 (by decide)
   rw [HEQ.out] at he
   simp only [mixA,mixL,zz9,zz0,he]
   have HG4:Hid (Grew w w4):=Lib.hid (HGV.out.trans hR)
   clear hh he hR d0 d1 d2 d3 d4 d5 d6 d7 HGV
   go_wp2
   go_ret
   exact⟨rfl,HG4.out⟩
set_option maxHeartbeats 8000000 in
theorem formT_any (s:ByteArray) (i d:Int) (h m:ByteArray) (n:Int) (y:List Sm) (q:Int) (bp:Option Addr) (bc:Nat) (B:Nat→Prop) (w:World) (hs:s.size≤1048576) (hh:h.size≤1048576) (hm:m.size≤1048576) (hy:SL B w bp bc y) (hE:Env w) :
 Calls Tryz.prog 61 #[tv s i d h m n bp y.length bc q] w fun e w'=>e=.returned (.bool (okT ⟨s,i,d,h,m,n,y,q⟩))∧Grew w w':=by
 have HE:=Lib.hid hE
 have hcap:y.length≤bc:=hy.cap.1
 have hmax:=hy.cap.2.1
 have HIs:=Lib.hid (fun W (hW:Grew w W)=>isid_any s hs W (HE.out.grew hW))
 have HTG:=Lib.hid (fun W (hW:Grew w W)=>trig_any s i d h m n y q bp bc W hh hm hcap hmax (HE.out.grew hW))
 have HEY:Hid (∀W,Grew w W→Calls Tryz.prog 113 #[.slice bp y.length bc,.func (.func 114) #[] #[]] W fun e w'=>e=.returned (.bool (y.all okS))∧Grew W w') :=
  Lib.hid (fun W hW=>everyS_any 114 #[] en_fs y okS B W bp bc (hy.kept hW) (fun z hz a1 a2 a3 a4 a5 a6 W2 q1 q2 q3 q4 hW2=>formS_any z B W2 a1 a2 a3 a4 a5 a6 q4 q1 q2 q3 (HE.out.grew (hW.trans hW2))))
 have HEQ:=Lib.hid (task_eq s i d h m n y q)
 clear hE hs hh hm hy
 go_enter Tryz.func61,Tryz.ntmps61
 go_upto_region 1 with fail
 have hb1:Blk w.heap.size [.string s,.int .i64 i,.int .i64 d,.string h,.string m,.int .i64 n,.slice bp y.length bc,.int .i64 q] 42 (w.alloc (Obj.cells #[.string s,.int .i64 i,.int .i64 d,.string h,.string m,.int .i64 n,.slice bp y.length bc,.int .i64 q] 42)):=Blk.new w _ _
 have hgV:Grew w (w.alloc (Obj.cells #[.string s,.int .i64 i,.int .i64 d,.string h,.string m,.int .i64 n,.slice bp y.length bc,.int .i64 q] 42)):=(Grew.refl w).alloc _
 generalize (w.alloc (Obj.cells #[.string s,.int .i64 i,.int .i64 d,.string h,.string m,.int .i64 n,.slice bp y.length bc,.int .i64 q] 42))=V at hb1 hgV ⊢
 generalize w.heap.size=T at hb1 ⊢
 have HGV:=Lib.hid hgV
 have d0:Atv ⟨T,0,none⟩ (.string s) V:=hb1.atv 0 rfl
 have d1:Atv ⟨T,1,none⟩ (.int .i64 i) V:=hb1.atv 1 rfl
 have d2:Atv ⟨T,2,none⟩ (.int .i64 d) V:=hb1.atv 2 rfl
 have d3:Atv ⟨T,3,none⟩ (.string h) V:=hb1.atv 3 rfl
 have d4:Atv ⟨T,4,none⟩ (.string m) V:=hb1.atv 4 rfl
 have d5:Atv ⟨T,5,none⟩ (.int .i64 n) V:=hb1.atv 5 rfl
 have d6:Atv ⟨T,6,none⟩ (.slice bp y.length bc) V:=hb1.atv 6 rfl
 have d7:Atv ⟨T,7,none⟩ (.int .i64 q) V:=hb1.atv 7 rfl
 clear hb1 hgV
 refine wp_postsL [some 3,some 4,some 5,some 6,some 7,some 8,some 9,some 10,some 11,some 12,some 13,some 14,some 15,some 16,some 17,some 18,some 19,some 2] [Zf,Zf,Zt,Zt,Zt,Zt,Zt,Zt,Zt,Zt,Zt,Zt,Zt,Zt,Zt,Zt,Zt,Zt,Zt,Zt] [fun v _=>v=.pointer (some ⟨T,0,none⟩),fun v _=>v=.string s,fun v _=>v=.bool (idn s),fun v _=>v=.bool (idn s),fun v _=>(((idn s)=true)→v=.agg #[.string s,.int .i64 (i),.int .i64 (d),.string h,.string m,.int .i64 (n),.slice bp (y.length) (bc),.int .i64 (q)])∧(¬ ((idn s)=true)→v=undef),fun v _=>(((idn s)=true)→v=.bool (tlT i h m n))∧(¬ ((idn s)=true)→v=undef),fun v _=>v=.bool ((idn s)&&(tlT i h m n)),fun v _=>v=.bool ((idn s)&&(tlT i h m n)),fun v _=>((((idn s)&&(tlT i h m n))=true)→v=.pointer (some ⟨T,2,none⟩))∧(¬ (((idn s)&&(tlT i h m n))=true)→v=undef),fun v _=>((((idn s)&&(tlT i h m n))=true)→v=.int .i64 (d))∧(¬ (((idn s)&&(tlT i h m n))=true)→v=undef),fun v _=>((((idn s)&&(tlT i h m n))=true)→v=.bool (num1 d 0))∧(¬ (((idn s)&&(tlT i h m n))=true)→v=undef),fun v _=>v=.bool (((idn s)&&(tlT i h m n))&&(num1 d 0)),fun v _=>v=.bool (((idn s)&&(tlT i h m n))&&(num1 d 0)),fun v _=>(((((idn s)&&(tlT i h m n))&&(num1 d 0))=true)→v=.pointer (some ⟨T,6,none⟩))∧(¬ ((((idn s)&&(tlT i h m n))&&(num1 d 0))=true)→v=undef),fun v _=>(((((idn s)&&(tlT i h m n))&&(num1 d 0))=true)→v=.slice bp (y.length) (bc))∧(¬ ((((idn s)&&(tlT i h m n))&&(num1 d 0))=true)→v=undef),fun v _=>(((((idn s)&&(tlT i h m n))&&(num1 d 0))=true)→v=.bool (y.all okS))∧(¬ ((((idn s)&&(tlT i h m n))&&(num1 d 0))=true)→v=undef),fun v _=>v=.bool ((((idn s)&&(tlT i h m n))&&(num1 d 0))&&(y.all okS)),fun v _=>v=.bool ((((idn s)&&(tlT i h m n))&&(num1 d 0))&&(y.all okS))] (by kernel_rfl) rfl ?_ ⟨?_,?_,?_,?_,?_,?_,?_,?_,?_,?_,?_,?_,?_,?_,?_,?_,?_,?_,trivial⟩ ?_
 ·exact⟨Zi,Zi,Zi,Zi,Zi,Zi,Zi,Zi,Zi,Zi,Zi,Zi,Zi,Zi,Zi,Zi,Zi,Zi,trivial⟩
 ·intro u w hR hd;exact rn_fld_42_0 (ev rfl) Zr
 ·intro u w hR hd;exact rn_ld_9 (ev (hd.1 rfl)) (d0.kept hR) Zr
 ·intro u w hR hd;exact runs_c1 en_id (ev (hd.1 rfl)) (callp (fun _ e=>e) (HIs.out _ (HGV.out.trans hR)))
 ·intro u w hR hd;exact runs_mv (ev (hd.1 rfl)) Zr
 ·intro u w hR hd;exact⟨fun hg=>have hG:((idn s)=true):=Value.bool.inj ((hd.1 rfl).symm.trans hg);rn_ld_42 (ev rfl) (d0.kept hR) (d1.kept hR) (d2.kept hR) (d3.kept hR) (d4.kept hR) (d5.kept hR) (d6.kept hR) (d7.kept hR) (Zs hG),Zn (hd.1 rfl)⟩
 ·intro u w hR hd;exact⟨fun hg=>have hG:((idn s)=true):=Value.bool.inj ((hd.2.1 rfl).symm.trans hg);runs_c1 en_tg (ev ((hd.1 rfl).1 hG)) (callp (fun _ e=>⟨fun _=>e,fun hn=>absurd hG hn⟩) (HTG.out _ (HGV.out.trans hR))),Zn (hd.2.1 rfl)⟩
 ·intro u w hR hd;exact runs_an (ev (hd.1 rfl)) (fun hb=>ev ((hd.2.1 rfl).1 hb)) Zr
 ·intro u w hR hd;exact runs_mv (ev (hd.1 rfl)) Zr
 ·intro u w hR hd;exact⟨fun hg=>have hG:(((idn s)&&(tlT i h m n))=true):=Value.bool.inj ((hd.1 rfl).symm.trans hg);rn_fld_42_2 (ev rfl) (Zs hG),Zn (hd.1 rfl)⟩
 ·intro u w hR hd;exact⟨fun hg=>have hG:(((idn s)&&(tlT i h m n))=true):=Value.bool.inj ((hd.2.1 rfl).symm.trans hg);rn_ld_3 (ev ((hd.1 rfl).1 hG)) (d2.kept hR) (Zs hG),Zn (hd.2.1 rfl)⟩
 ·intro u w hR hd;exact⟨fun hg=>have hG:(((idn s)&&(tlT i h m n))=true):=Value.bool.inj ((hd.2.1 rfl).symm.trans hg);runs_c1 en_nu (ev ((hd.1 rfl).1 hG)) (callp (fun _ e=>⟨fun _=>e,fun hn=>absurd hG hn⟩) ((isnum_any _ _).mono fun e w9 h=>⟨h.1,h.2 ▸ Grew.refl _⟩)),Zn (hd.2.1 rfl)⟩
 ·intro u w hR hd;exact runs_an (ev (hd.1 rfl)) (fun hb=>ev ((hd.2.1 rfl).1 hb)) Zr
 ·intro u w hR hd;exact runs_mv (ev (hd.1 rfl)) Zr
 ·intro u w hR hd;exact⟨fun hg=>have hG:((((idn s)&&(tlT i h m n))&&(num1 d 0))=true):=Value.bool.inj ((hd.1 rfl).symm.trans hg);rn_fld_42_6 (ev rfl) (Zs hG),Zn (hd.1 rfl)⟩
 ·intro u w hR hd;exact⟨fun hg=>have hG:((((idn s)&&(tlT i h m n))&&(num1 d 0))=true):=Value.bool.inj ((hd.2.1 rfl).symm.trans hg);rn_ld_40 (ev ((hd.1 rfl).1 hG)) (d6.kept hR) (Zs hG),Zn (hd.2.1 rfl)⟩
 ·intro u w hR hd;exact⟨fun hg=>have hG:((((idn s)&&(tlT i h m n))&&(num1 d 0))=true):=Value.bool.inj ((hd.2.1 rfl).symm.trans hg);runs_c2 en_evS (ev ((hd.1 rfl).1 hG)) rfl (callp (fun _ e=>⟨fun _=>e,fun hn=>absurd hG hn⟩) (HEY.out _ (HGV.out.trans hR))),Zn (hd.2.1 rfl)⟩
 ·intro u w hR hd;exact runs_an (ev (hd.1 rfl)) (fun hb=>ev ((hd.2.1 rfl).1 hb)) Zr
 ·intro u w hR hd;exact runs_mva (ev (hd.1 rfl)) Zr
 ·intro u w4 hR hh
  have he:u 2=.bool ((((idn s)&&(tlT i h m n))&&(num1 d 0))&&(y.all okS)):=hh 17 (by decide)
  rw [HEQ.out] at he
  simp only [mixA,mixL,zz9,zz0,he]
  have HG4:Hid (Grew w w4):=Lib.hid (HGV.out.trans hR)
  clear hh he hR d0 d1 d2 d3 d4 d5 d6 d7 HGV
  go_wp2
  go_ret
  exact⟨rfl,HG4.out⟩
end Go.Proofs.YtcknpcbkofgdoaaGreatDoor
