/-
  LAYER 16 (ast), THE PROGRAM: equalTask, Equal.
  CANONICAL TEXTS DETERMINE PROGRAMS (layer 16): two well-formed programs have the same text if and only if they are equal but for positions. Nothing of the program stands here.
  LAYER 16 (ast), THE PROGRAM: writeExpr.
  LAYER 16 (ast), THE PROGRAM: text, Expr.
-/
import Derived.Test.YtcknpcbkofgdoaaGreatDoorZbShort
import Derived.Test.YtcknpcbkofgdoaaGreatDoorZb07
import Derived.Test.YtcknpcbkofgdoaaGreatDoorZb01
import Derived.Test.YtcknpcbkofgdoaaGreatDoorZb00
import Derived.Deep.LoopGhost
import Derived.Deep.Cut
import Derived.Shelf.Abstract
import Derived.Test.YtcknpcbkofgdoaaGreatDoorZb04
import Derived.Test.YtcknpcbkofgdoaaGreatDoorZb06
import Derived.Test.YtcknpcbkofgdoaaGreatDoorZb03
namespace Go.Proofs.YtcknpcbkofgdoaaGreatDoor
open Go Go.RowKit Go.IntWalk
set_option linter.unusedSimpArgs false
set_option linter.unusedVariables false
set_option maxRecDepth 8000
section
variable {dst:Option Tmp}{ty:TypeId}{pos:String}{after:Array Edge}{g:Option (Nat × Bool)}{a:Act}{w:World}{T:Value→World→Prop}
end
def eqCn (x y:Cn):Bool:=decide (x.s=y.s)&&(x.v==y.v)
def eqGl (x y:Gl):Bool:=(decide (x.s=y.s)&&(x.l==y.l))&&(x.i==y.i)
def eqTa (x y:Ta):Bool:=decide (x.s=y.s)&&(x.p==y.p)&&(x.d==y.d)&&decide (x.c=y.c)&&decide (x.m=y.m)&&(x.w==y.w)&&eqL eqS x.b y.b
def eqPg (P Q:Pg):Bool:=eqL eqCn P.cs Q.cs&&eqL eqGl P.gs Q.gs&&decide (P.ss=Q.ss)&&decide (P.os=Q.os)&&eqL eqCn P.hs Q.hs&&eqL eqTa P.ts Q.ts
theorem eqT_eq2 (sa:ByteArray) (ia da:Int) (ha ma:ByteArray) (na:Int) (ya:List Sm) (qa:Int) (sb:ByteArray) (ib db:Int) (hb mb:ByteArray) (nb:Int) (yb:List Sm) (qb:Int):(((((((decide ((sa)=(sb)))&&((ia)==(ib)))&&((da)==(db)))&&(decide ((ha)=(hb))))&&(decide ((ma)=(mb))))&&((na)==(nb)))&&(eqL eqS ya yb))=eqTa ⟨sa,ia,da,ha,ma,na,ya,qa⟩ ⟨sb,ib,db,hb,mb,nb,yb,qb⟩:=by
 rw [eqTa]
set_option maxHeartbeats 8000000 in
theorem eqTP_any (x y:Ta) (A B:Nat→Prop) (w:World) (bpa:Option Addr) (bca:Nat) (bpb:Option Addr) (bcb:Nat) (hx:SL A w bpa bca x.b) (hy:SL B w bpb bcb y.b) :
 Calls Tryz.prog 73 #[tv x.s x.p x.d x.c x.m x.w bpa x.b.length bca x.q,tv y.s y.p y.d y.c y.m y.w bpb y.b.length bcb y.q] w fun e w'=>e=.returned (.bool (eqTa x y))∧Grew w w':=by
 obtain ⟨sa,ia,da,ha,ma,na,ya,qa⟩:=x
 obtain ⟨sb,ib,db,hb,mb,nb,yb,qb⟩:=y
 replace hx:SL A w bpa bca ya:=hx
 replace hy:SL B w bpb bcb yb:=hy
 show Calls Tryz.prog 73 #[tv sa ia da ha ma na bpa ya.length bca qa,tv sb ib db hb mb nb bpb yb.length bcb qb] w fun e w'=>e=.returned (.bool (eqTa ⟨sa,ia,da,ha,ma,na,ya,qa⟩ ⟨sb,ib,db,hb,mb,nb,yb,qb⟩))∧Grew w w'
 have hcap:=And.intro hx.cap.1 hy.cap.1
 have hmax:=And.intro hx.cap.2.1 hy.cap.2.1
 have HEQ:=Lib.hid (eqT_eq2 sa ia da ha ma na ya qa sb ib db hb mb nb yb qb)
 have HEY:Hid (∀W,Grew w W→Calls Tryz.prog 117 #[.slice bpa ya.length bca,.slice bpb yb.length bcb,.func (.func 118) #[] #[]] W fun e w'=>e=.returned (.bool (eqL eqS ya yb))∧Grew W w') :=
  Lib.hid (fun W hW=>eqfS_any 118 #[] en_eS ya yb eqS A B W bpa bpb bca bcb (hx.kept hW) (hy.kept hW) (fun x _ y _ a1 a2 a3 a4 a5 a6 b1 b2 b3 b4 b5 b6 W2 h1 h2 h3 _ g1 g2 g3 _ hW2=>eqSP_any x y A B W2 a1 a2 a3 a4 a5 a6 b1 b2 b3 b4 b5 b6 h1 h2 h3 g1 g2 g3))
 clear hx hy
 go_enter Tryz.func73,Tryz.ntmps73
 go_upto_region 1 with fail
 have hb1:Blk w.heap.size [.string sa,.int .i64 ia,.int .i64 da,.string ha,.string ma,.int .i64 na,.slice bpa ya.length bca,.int .i64 qa] 42 (w.alloc (Obj.cells #[.string sa,.int .i64 ia,.int .i64 da,.string ha,.string ma,.int .i64 na,.slice bpa ya.length bca,.int .i64 qa] 42)):=Blk.new w _ _
 have hb2:Blk (w.alloc (Obj.cells #[.string sa,.int .i64 ia,.int .i64 da,.string ha,.string ma,.int .i64 na,.slice bpa ya.length bca,.int .i64 qa] 42)).heap.size [.string sb,.int .i64 ib,.int .i64 db,.string hb,.string mb,.int .i64 nb,.slice bpb yb.length bcb,.int .i64 qb] 42 ((w.alloc (Obj.cells #[.string sa,.int .i64 ia,.int .i64 da,.string ha,.string ma,.int .i64 na,.slice bpa ya.length bca,.int .i64 qa] 42)).alloc (Obj.cells #[.string sb,.int .i64 ib,.int .i64 db,.string hb,.string mb,.int .i64 nb,.slice bpb yb.length bcb,.int .i64 qb] 42)):=Blk.new _ _ _
 have hb3:=hb1.grew ((Grew.refl _).alloc (Obj.cells #[.string sb,.int .i64 ib,.int .i64 db,.string hb,.string mb,.int .i64 nb,.slice bpb yb.length bcb,.int .i64 qb] 42))
 have hgV:Grew w ((w.alloc (Obj.cells #[.string sa,.int .i64 ia,.int .i64 da,.string ha,.string ma,.int .i64 na,.slice bpa ya.length bca,.int .i64 qa] 42)).alloc (Obj.cells #[.string sb,.int .i64 ib,.int .i64 db,.string hb,.string mb,.int .i64 nb,.slice bpb yb.length bcb,.int .i64 qb] 42)):=((Grew.refl w).alloc _).alloc _
 rw [alloc_sz] at hb2
 try rw [alloc_sz]
 generalize ((w.alloc (Obj.cells #[.string sa,.int .i64 ia,.int .i64 da,.string ha,.string ma,.int .i64 na,.slice bpa ya.length bca,.int .i64 qa] 42)).alloc (Obj.cells #[.string sb,.int .i64 ib,.int .i64 db,.string hb,.string mb,.int .i64 nb,.slice bpb yb.length bcb,.int .i64 qb] 42))=V at hb2 hb3 hgV ⊢
 generalize w.heap.size+1=U at hb2 ⊢
 generalize w.heap.size=T at hb3 ⊢
 have HGV:=Lib.hid hgV
 have d0:Atv ⟨T,0,none⟩ (.string sa) V:=hb3.atv 0 rfl
 have d1:Atv ⟨T,1,none⟩ (.int .i64 ia) V:=hb3.atv 1 rfl
 have d2:Atv ⟨T,2,none⟩ (.int .i64 da) V:=hb3.atv 2 rfl
 have d3:Atv ⟨T,3,none⟩ (.string ha) V:=hb3.atv 3 rfl
 have d4:Atv ⟨T,4,none⟩ (.string ma) V:=hb3.atv 4 rfl
 have d5:Atv ⟨T,5,none⟩ (.int .i64 na) V:=hb3.atv 5 rfl
 have d6:Atv ⟨T,6,none⟩ (.slice bpa ya.length bca) V:=hb3.atv 6 rfl
 have d7:Atv ⟨T,7,none⟩ (.int .i64 qa) V:=hb3.atv 7 rfl
 have e0:Atv ⟨U,0,none⟩ (.string sb) V:=hb2.atv 0 rfl
 have e1:Atv ⟨U,1,none⟩ (.int .i64 ib) V:=hb2.atv 1 rfl
 have e2:Atv ⟨U,2,none⟩ (.int .i64 db) V:=hb2.atv 2 rfl
 have e3:Atv ⟨U,3,none⟩ (.string hb) V:=hb2.atv 3 rfl
 have e4:Atv ⟨U,4,none⟩ (.string mb) V:=hb2.atv 4 rfl
 have e5:Atv ⟨U,5,none⟩ (.int .i64 nb) V:=hb2.atv 5 rfl
 have e6:Atv ⟨U,6,none⟩ (.slice bpb yb.length bcb) V:=hb2.atv 6 rfl
 have e7:Atv ⟨U,7,none⟩ (.int .i64 qb) V:=hb2.atv 7 rfl
 clear hb1 hb2 hb3 hgV
 refine wp_postsL [some 5,some 6,some 7,some 8,some 9,some 10,some 11,some 12,some 13,some 14,some 15,some 16,some 17,some 18,some 19,some 20,some 21,some 22,some 23,some 24,some 25,some 26,some 27,some 28,some 29,some 30,some 31,some 32,some 33,some 34,some 35,some 36,some 37,some 38,some 39,some 40,some 41,some 42,some 43,some 44,some 45,some 46,some 47,some 48,some 49,some 50,some 51,some 4] [Zf,Zf,Zf,Zf,Zt,Zt,Zt,Zt,Zt,Zt,Zt,Zt,Zt,Zt,Zt,Zt,Zt,Zt,Zt,Zt,Zt,Zt,Zt,Zt,Zt,Zt,Zt,Zt,Zt,Zt,Zt,Zt,Zt,Zt,Zt,Zt,Zt,Zt,Zt,Zt,Zt,Zt,Zt,Zt,Zt,Zt,Zt,Zt,Zt,Zt,Zt,Zt] [fun v _=>v=.pointer (some ⟨T,0,none⟩),fun v _=>v=.string sa,fun v _=>v=.pointer (some ⟨U,0,none⟩),fun v _=>v=.string sb,fun v _=>v=.bool (decide ((sa)=(sb))),fun v _=>v=.bool (decide ((sa)=(sb))),fun v _=>(((decide ((sa)=(sb)))=true)→v=.pointer (some ⟨T,1,none⟩))∧(¬ ((decide ((sa)=(sb)))=true)→v=undef),fun v _=>(((decide ((sa)=(sb)))=true)→v=.int .i64 (ia))∧(¬ ((decide ((sa)=(sb)))=true)→v=undef),fun v _=>(((decide ((sa)=(sb)))=true)→v=.pointer (some ⟨U,1,none⟩))∧(¬ ((decide ((sa)=(sb)))=true)→v=undef),fun v _=>(((decide ((sa)=(sb)))=true)→v=.int .i64 (ib))∧(¬ ((decide ((sa)=(sb)))=true)→v=undef),fun v _=>(((decide ((sa)=(sb)))=true)→v=.bool ((ia)==(ib)))∧(¬ ((decide ((sa)=(sb)))=true)→v=undef),fun v _=>v=.bool ((decide ((sa)=(sb)))&&((ia)==(ib))),fun v _=>v=.bool ((decide ((sa)=(sb)))&&((ia)==(ib))),fun v _=>((((decide ((sa)=(sb)))&&((ia)==(ib)))=true)→v=.pointer (some ⟨T,2,none⟩))∧(¬ (((decide ((sa)=(sb)))&&((ia)==(ib)))=true)→v=undef),fun v _=>((((decide ((sa)=(sb)))&&((ia)==(ib)))=true)→v=.int .i64 (da))∧(¬ (((decide ((sa)=(sb)))&&((ia)==(ib)))=true)→v=undef),fun v _=>((((decide ((sa)=(sb)))&&((ia)==(ib)))=true)→v=.pointer (some ⟨U,2,none⟩))∧(¬ (((decide ((sa)=(sb)))&&((ia)==(ib)))=true)→v=undef),fun v _=>((((decide ((sa)=(sb)))&&((ia)==(ib)))=true)→v=.int .i64 (db))∧(¬ (((decide ((sa)=(sb)))&&((ia)==(ib)))=true)→v=undef),fun v _=>((((decide ((sa)=(sb)))&&((ia)==(ib)))=true)→v=.bool ((da)==(db)))∧(¬ (((decide ((sa)=(sb)))&&((ia)==(ib)))=true)→v=undef),fun v _=>v=.bool (((decide ((sa)=(sb)))&&((ia)==(ib)))&&((da)==(db))),fun v _=>v=.bool (((decide ((sa)=(sb)))&&((ia)==(ib)))&&((da)==(db))),fun v _=>(((((decide ((sa)=(sb)))&&((ia)==(ib)))&&((da)==(db)))=true)→v=.pointer (some ⟨T,3,none⟩))∧(¬ ((((decide ((sa)=(sb)))&&((ia)==(ib)))&&((da)==(db)))=true)→v=undef),fun v _=>(((((decide ((sa)=(sb)))&&((ia)==(ib)))&&((da)==(db)))=true)→v=.string ha)∧(¬ ((((decide ((sa)=(sb)))&&((ia)==(ib)))&&((da)==(db)))=true)→v=undef),fun v _=>(((((decide ((sa)=(sb)))&&((ia)==(ib)))&&((da)==(db)))=true)→v=.pointer (some ⟨U,3,none⟩))∧(¬ ((((decide ((sa)=(sb)))&&((ia)==(ib)))&&((da)==(db)))=true)→v=undef),fun v _=>(((((decide ((sa)=(sb)))&&((ia)==(ib)))&&((da)==(db)))=true)→v=.string hb)∧(¬ ((((decide ((sa)=(sb)))&&((ia)==(ib)))&&((da)==(db)))=true)→v=undef),fun v _=>(((((decide ((sa)=(sb)))&&((ia)==(ib)))&&((da)==(db)))=true)→v=.bool (decide ((ha)=(hb))))∧(¬ ((((decide ((sa)=(sb)))&&((ia)==(ib)))&&((da)==(db)))=true)→v=undef),fun v _=>v=.bool ((((decide ((sa)=(sb)))&&((ia)==(ib)))&&((da)==(db)))&&(decide ((ha)=(hb)))),fun v _=>v=.bool ((((decide ((sa)=(sb)))&&((ia)==(ib)))&&((da)==(db)))&&(decide ((ha)=(hb)))),fun v _=>((((((decide ((sa)=(sb)))&&((ia)==(ib)))&&((da)==(db)))&&(decide ((ha)=(hb))))=true)→v=.pointer (some ⟨T,4,none⟩))∧(¬ (((((decide ((sa)=(sb)))&&((ia)==(ib)))&&((da)==(db)))&&(decide ((ha)=(hb))))=true)→v=undef),fun v _=>((((((decide ((sa)=(sb)))&&((ia)==(ib)))&&((da)==(db)))&&(decide ((ha)=(hb))))=true)→v=.string ma)∧(¬ (((((decide ((sa)=(sb)))&&((ia)==(ib)))&&((da)==(db)))&&(decide ((ha)=(hb))))=true)→v=undef),fun v _=>((((((decide ((sa)=(sb)))&&((ia)==(ib)))&&((da)==(db)))&&(decide ((ha)=(hb))))=true)→v=.pointer (some ⟨U,4,none⟩))∧(¬ (((((decide ((sa)=(sb)))&&((ia)==(ib)))&&((da)==(db)))&&(decide ((ha)=(hb))))=true)→v=undef),fun v _=>((((((decide ((sa)=(sb)))&&((ia)==(ib)))&&((da)==(db)))&&(decide ((ha)=(hb))))=true)→v=.string mb)∧(¬ (((((decide ((sa)=(sb)))&&((ia)==(ib)))&&((da)==(db)))&&(decide ((ha)=(hb))))=true)→v=undef),fun v _=>((((((decide ((sa)=(sb)))&&((ia)==(ib)))&&((da)==(db)))&&(decide ((ha)=(hb))))=true)→v=.bool (decide ((ma)=(mb))))∧(¬ (((((decide ((sa)=(sb)))&&((ia)==(ib)))&&((da)==(db)))&&(decide ((ha)=(hb))))=true)→v=undef),fun v _=>v=.bool (((((decide ((sa)=(sb)))&&((ia)==(ib)))&&((da)==(db)))&&(decide ((ha)=(hb))))&&(decide ((ma)=(mb)))),fun v _=>v=.bool (((((decide ((sa)=(sb)))&&((ia)==(ib)))&&((da)==(db)))&&(decide ((ha)=(hb))))&&(decide ((ma)=(mb)))),fun v _=>(((((((decide ((sa)=(sb)))&&((ia)==(ib)))&&((da)==(db)))&&(decide ((ha)=(hb))))&&(decide ((ma)=(mb))))=true)→v=.pointer (some ⟨T,5,none⟩))∧(¬ ((((((decide ((sa)=(sb)))&&((ia)==(ib)))&&((da)==(db)))&&(decide ((ha)=(hb))))&&(decide ((ma)=(mb))))=true)→v=undef),fun v _=>(((((((decide ((sa)=(sb)))&&((ia)==(ib)))&&((da)==(db)))&&(decide ((ha)=(hb))))&&(decide ((ma)=(mb))))=true)→v=.int .i64 (na))∧(¬ ((((((decide ((sa)=(sb)))&&((ia)==(ib)))&&((da)==(db)))&&(decide ((ha)=(hb))))&&(decide ((ma)=(mb))))=true)→v=undef),fun v _=>(((((((decide ((sa)=(sb)))&&((ia)==(ib)))&&((da)==(db)))&&(decide ((ha)=(hb))))&&(decide ((ma)=(mb))))=true)→v=.pointer (some ⟨U,5,none⟩))∧(¬ ((((((decide ((sa)=(sb)))&&((ia)==(ib)))&&((da)==(db)))&&(decide ((ha)=(hb))))&&(decide ((ma)=(mb))))=true)→v=undef),fun v _=>(((((((decide ((sa)=(sb)))&&((ia)==(ib)))&&((da)==(db)))&&(decide ((ha)=(hb))))&&(decide ((ma)=(mb))))=true)→v=.int .i64 (nb))∧(¬ ((((((decide ((sa)=(sb)))&&((ia)==(ib)))&&((da)==(db)))&&(decide ((ha)=(hb))))&&(decide ((ma)=(mb))))=true)→v=undef),fun v _=>(((((((decide ((sa)=(sb)))&&((ia)==(ib)))&&((da)==(db)))&&(decide ((ha)=(hb))))&&(decide ((ma)=(mb))))=true)→v=.bool ((na)==(nb)))∧(¬ ((((((decide ((sa)=(sb)))&&((ia)==(ib)))&&((da)==(db)))&&(decide ((ha)=(hb))))&&(decide ((ma)=(mb))))=true)→v=undef),fun v _=>v=.bool ((((((decide ((sa)=(sb)))&&((ia)==(ib)))&&((da)==(db)))&&(decide ((ha)=(hb))))&&(decide ((ma)=(mb))))&&((na)==(nb))),fun v _=>v=.bool ((((((decide ((sa)=(sb)))&&((ia)==(ib)))&&((da)==(db)))&&(decide ((ha)=(hb))))&&(decide ((ma)=(mb))))&&((na)==(nb))),fun v _=>((((((((decide ((sa)=(sb)))&&((ia)==(ib)))&&((da)==(db)))&&(decide ((ha)=(hb))))&&(decide ((ma)=(mb))))&&((na)==(nb)))=true)→v=.pointer (some ⟨T,6,none⟩))∧(¬ (((((((decide ((sa)=(sb)))&&((ia)==(ib)))&&((da)==(db)))&&(decide ((ha)=(hb))))&&(decide ((ma)=(mb))))&&((na)==(nb)))=true)→v=undef),fun v _=>((((((((decide ((sa)=(sb)))&&((ia)==(ib)))&&((da)==(db)))&&(decide ((ha)=(hb))))&&(decide ((ma)=(mb))))&&((na)==(nb)))=true)→v=.slice bpa (ya.length) (bca))∧(¬ (((((((decide ((sa)=(sb)))&&((ia)==(ib)))&&((da)==(db)))&&(decide ((ha)=(hb))))&&(decide ((ma)=(mb))))&&((na)==(nb)))=true)→v=undef),fun v _=>((((((((decide ((sa)=(sb)))&&((ia)==(ib)))&&((da)==(db)))&&(decide ((ha)=(hb))))&&(decide ((ma)=(mb))))&&((na)==(nb)))=true)→v=.pointer (some ⟨U,6,none⟩))∧(¬ (((((((decide ((sa)=(sb)))&&((ia)==(ib)))&&((da)==(db)))&&(decide ((ha)=(hb))))&&(decide ((ma)=(mb))))&&((na)==(nb)))=true)→v=undef),fun v _=>((((((((decide ((sa)=(sb)))&&((ia)==(ib)))&&((da)==(db)))&&(decide ((ha)=(hb))))&&(decide ((ma)=(mb))))&&((na)==(nb)))=true)→v=.slice bpb (yb.length) (bcb))∧(¬ (((((((decide ((sa)=(sb)))&&((ia)==(ib)))&&((da)==(db)))&&(decide ((ha)=(hb))))&&(decide ((ma)=(mb))))&&((na)==(nb)))=true)→v=undef),fun v _=>((((((((decide ((sa)=(sb)))&&((ia)==(ib)))&&((da)==(db)))&&(decide ((ha)=(hb))))&&(decide ((ma)=(mb))))&&((na)==(nb)))=true)→v=.bool (eqL eqS ya yb))∧(¬ (((((((decide ((sa)=(sb)))&&((ia)==(ib)))&&((da)==(db)))&&(decide ((ha)=(hb))))&&(decide ((ma)=(mb))))&&((na)==(nb)))=true)→v=undef),fun v _=>v=.bool (((((((decide ((sa)=(sb)))&&((ia)==(ib)))&&((da)==(db)))&&(decide ((ha)=(hb))))&&(decide ((ma)=(mb))))&&((na)==(nb)))&&(eqL eqS ya yb)),fun v _=>v=.bool (((((((decide ((sa)=(sb)))&&((ia)==(ib)))&&((da)==(db)))&&(decide ((ha)=(hb))))&&(decide ((ma)=(mb))))&&((na)==(nb)))&&(eqL eqS ya yb))] (by kernel_rfl) rfl ?_ ⟨?_,?_,?_,?_,?_,?_,?_,?_,?_,?_,?_,?_,?_,?_,?_,?_,?_,?_,?_,?_,?_,?_,?_,?_,?_,?_,?_,?_,?_,?_,?_,?_,?_,?_,?_,?_,?_,?_,?_,?_,?_,?_,?_,?_,?_,?_,?_,?_,trivial⟩ ?_
 ·exact⟨Zi,Zi,Zi,Zi,Zi,Zi,Zi,Zi,Zi,Zi,Zi,Zi,Zi,Zi,Zi,Zi,Zi,Zi,Zi,Zi,Zi,Zi,Zi,Zi,Zi,Zi,Zi,Zi,Zi,Zi,Zi,Zi,Zi,Zi,Zi,Zi,Zi,Zi,Zi,Zi,Zi,Zi,Zi,Zi,Zi,Zi,Zi,Zi,trivial⟩
 ·intro u w hR hd;exact rn_fld_42_0 (ev rfl) Zr
 ·intro u w hR hd;exact rn_ld_9 (ev (hd.1 rfl)) (d0.kept hR) Zr
 ·intro u w hR hd;exact rn_fld_42_0 (ev rfl) Zr
 ·intro u w hR hd;exact rn_ld_9 (ev (hd.1 rfl)) (e0.kept hR) Zr
 ·intro u w hR hd;exact rn_eqs_9 (ev (hd.1 rfl)) (ev (hd.2.1 rfl)) Zr
 ·intro u w hR hd;exact runs_mv (ev (hd.1 rfl)) Zr
 ·intro u w hR hd;exact⟨fun hg=>have hG:((decide ((sa)=(sb)))=true):=Value.bool.inj ((hd.1 rfl).symm.trans hg);rn_fld_42_1 (ev rfl) (Zs hG),Zn (hd.1 rfl)⟩
 ·intro u w hR hd;exact⟨fun hg=>have hG:((decide ((sa)=(sb)))=true):=Value.bool.inj ((hd.2.1 rfl).symm.trans hg);rn_ld_3 (ev ((hd.1 rfl).1 hG)) (d1.kept hR) (Zs hG),Zn (hd.2.1 rfl)⟩
 ·intro u w hR hd;exact⟨fun hg=>have hG:((decide ((sa)=(sb)))=true):=Value.bool.inj ((hd.1 rfl).symm.trans hg);rn_fld_42_1 (ev rfl) (Zs hG),Zn (hd.1 rfl)⟩
 ·intro u w hR hd;exact⟨fun hg=>have hG:((decide ((sa)=(sb)))=true):=Value.bool.inj ((hd.2.1 rfl).symm.trans hg);rn_ld_3 (ev ((hd.1 rfl).1 hG)) (e1.kept hR) (Zs hG),Zn (hd.2.1 rfl)⟩
 ·intro u w hR hd;exact⟨fun hg=>have hG:((decide ((sa)=(sb)))=true):=Value.bool.inj ((hd.2.2.1 rfl).symm.trans hg);rn_eql_3 (ev ((hd.1 rfl).1 hG)) (ev ((hd.2.1 rfl).1 hG)) (Zs hG),Zn (hd.2.2.1 rfl)⟩
 ·intro u w hR hd;exact runs_an (ev (hd.1 rfl)) (fun hb=>ev ((hd.2.1 rfl).1 hb)) Zr
 ·intro u w hR hd;exact runs_mv (ev (hd.1 rfl)) Zr
 ·intro u w hR hd;exact⟨fun hg=>have hG:(((decide ((sa)=(sb)))&&((ia)==(ib)))=true):=Value.bool.inj ((hd.1 rfl).symm.trans hg);rn_fld_42_2 (ev rfl) (Zs hG),Zn (hd.1 rfl)⟩
 ·intro u w hR hd;exact⟨fun hg=>have hG:(((decide ((sa)=(sb)))&&((ia)==(ib)))=true):=Value.bool.inj ((hd.2.1 rfl).symm.trans hg);rn_ld_3 (ev ((hd.1 rfl).1 hG)) (d2.kept hR) (Zs hG),Zn (hd.2.1 rfl)⟩
 ·intro u w hR hd;exact⟨fun hg=>have hG:(((decide ((sa)=(sb)))&&((ia)==(ib)))=true):=Value.bool.inj ((hd.1 rfl).symm.trans hg);rn_fld_42_2 (ev rfl) (Zs hG),Zn (hd.1 rfl)⟩
 ·intro u w hR hd;exact⟨fun hg=>have hG:(((decide ((sa)=(sb)))&&((ia)==(ib)))=true):=Value.bool.inj ((hd.2.1 rfl).symm.trans hg);rn_ld_3 (ev ((hd.1 rfl).1 hG)) (e2.kept hR) (Zs hG),Zn (hd.2.1 rfl)⟩
 ·intro u w hR hd;exact⟨fun hg=>have hG:(((decide ((sa)=(sb)))&&((ia)==(ib)))=true):=Value.bool.inj ((hd.2.2.1 rfl).symm.trans hg);rn_eql_3 (ev ((hd.1 rfl).1 hG)) (ev ((hd.2.1 rfl).1 hG)) (Zs hG),Zn (hd.2.2.1 rfl)⟩
 ·intro u w hR hd;exact runs_an (ev (hd.1 rfl)) (fun hb=>ev ((hd.2.1 rfl).1 hb)) Zr
 ·intro u w hR hd;exact runs_mv (ev (hd.1 rfl)) Zr
 ·intro u w hR hd;exact⟨fun hg=>have hG:((((decide ((sa)=(sb)))&&((ia)==(ib)))&&((da)==(db)))=true):=Value.bool.inj ((hd.1 rfl).symm.trans hg);rn_fld_42_3 (ev rfl) (Zs hG),Zn (hd.1 rfl)⟩
 ·intro u w hR hd;exact⟨fun hg=>have hG:((((decide ((sa)=(sb)))&&((ia)==(ib)))&&((da)==(db)))=true):=Value.bool.inj ((hd.2.1 rfl).symm.trans hg);rn_ld_9 (ev ((hd.1 rfl).1 hG)) (d3.kept hR) (Zs hG),Zn (hd.2.1 rfl)⟩
 ·intro u w hR hd;exact⟨fun hg=>have hG:((((decide ((sa)=(sb)))&&((ia)==(ib)))&&((da)==(db)))=true):=Value.bool.inj ((hd.1 rfl).symm.trans hg);rn_fld_42_3 (ev rfl) (Zs hG),Zn (hd.1 rfl)⟩
 ·intro u w hR hd;exact⟨fun hg=>have hG:((((decide ((sa)=(sb)))&&((ia)==(ib)))&&((da)==(db)))=true):=Value.bool.inj ((hd.2.1 rfl).symm.trans hg);rn_ld_9 (ev ((hd.1 rfl).1 hG)) (e3.kept hR) (Zs hG),Zn (hd.2.1 rfl)⟩
 ·intro u w hR hd;exact⟨fun hg=>have hG:((((decide ((sa)=(sb)))&&((ia)==(ib)))&&((da)==(db)))=true):=Value.bool.inj ((hd.2.2.1 rfl).symm.trans hg);rn_eqs_9 (ev ((hd.1 rfl).1 hG)) (ev ((hd.2.1 rfl).1 hG)) (Zs hG),Zn (hd.2.2.1 rfl)⟩
 ·intro u w hR hd;exact runs_an (ev (hd.1 rfl)) (fun hb=>ev ((hd.2.1 rfl).1 hb)) Zr
 ·intro u w hR hd;exact runs_mv (ev (hd.1 rfl)) Zr
 ·intro u w hR hd;exact⟨fun hg=>have hG:(((((decide ((sa)=(sb)))&&((ia)==(ib)))&&((da)==(db)))&&(decide ((ha)=(hb))))=true):=Value.bool.inj ((hd.1 rfl).symm.trans hg);rn_fld_42_4 (ev rfl) (Zs hG),Zn (hd.1 rfl)⟩
 ·intro u w hR hd;exact⟨fun hg=>have hG:(((((decide ((sa)=(sb)))&&((ia)==(ib)))&&((da)==(db)))&&(decide ((ha)=(hb))))=true):=Value.bool.inj ((hd.2.1 rfl).symm.trans hg);rn_ld_9 (ev ((hd.1 rfl).1 hG)) (d4.kept hR) (Zs hG),Zn (hd.2.1 rfl)⟩
 ·intro u w hR hd;exact⟨fun hg=>have hG:(((((decide ((sa)=(sb)))&&((ia)==(ib)))&&((da)==(db)))&&(decide ((ha)=(hb))))=true):=Value.bool.inj ((hd.1 rfl).symm.trans hg);rn_fld_42_4 (ev rfl) (Zs hG),Zn (hd.1 rfl)⟩
 ·intro u w hR hd;exact⟨fun hg=>have hG:(((((decide ((sa)=(sb)))&&((ia)==(ib)))&&((da)==(db)))&&(decide ((ha)=(hb))))=true):=Value.bool.inj ((hd.2.1 rfl).symm.trans hg);rn_ld_9 (ev ((hd.1 rfl).1 hG)) (e4.kept hR) (Zs hG),Zn (hd.2.1 rfl)⟩
 ·intro u w hR hd;exact⟨fun hg=>have hG:(((((decide ((sa)=(sb)))&&((ia)==(ib)))&&((da)==(db)))&&(decide ((ha)=(hb))))=true):=Value.bool.inj ((hd.2.2.1 rfl).symm.trans hg);rn_eqs_9 (ev ((hd.1 rfl).1 hG)) (ev ((hd.2.1 rfl).1 hG)) (Zs hG),Zn (hd.2.2.1 rfl)⟩
 ·intro u w hR hd;exact runs_an (ev (hd.1 rfl)) (fun hb=>ev ((hd.2.1 rfl).1 hb)) Zr
 ·intro u w hR hd;exact runs_mv (ev (hd.1 rfl)) Zr
 ·intro u w hR hd;exact⟨fun hg=>have hG:((((((decide ((sa)=(sb)))&&((ia)==(ib)))&&((da)==(db)))&&(decide ((ha)=(hb))))&&(decide ((ma)=(mb))))=true):=Value.bool.inj ((hd.1 rfl).symm.trans hg);rn_fld_42_5 (ev rfl) (Zs hG),Zn (hd.1 rfl)⟩
 ·intro u w hR hd;exact⟨fun hg=>have hG:((((((decide ((sa)=(sb)))&&((ia)==(ib)))&&((da)==(db)))&&(decide ((ha)=(hb))))&&(decide ((ma)=(mb))))=true):=Value.bool.inj ((hd.2.1 rfl).symm.trans hg);rn_ld_3 (ev ((hd.1 rfl).1 hG)) (d5.kept hR) (Zs hG),Zn (hd.2.1 rfl)⟩
 ·intro u w hR hd;exact⟨fun hg=>have hG:((((((decide ((sa)=(sb)))&&((ia)==(ib)))&&((da)==(db)))&&(decide ((ha)=(hb))))&&(decide ((ma)=(mb))))=true):=Value.bool.inj ((hd.1 rfl).symm.trans hg);rn_fld_42_5 (ev rfl) (Zs hG),Zn (hd.1 rfl)⟩
 ·intro u w hR hd;exact⟨fun hg=>have hG:((((((decide ((sa)=(sb)))&&((ia)==(ib)))&&((da)==(db)))&&(decide ((ha)=(hb))))&&(decide ((ma)=(mb))))=true):=Value.bool.inj ((hd.2.1 rfl).symm.trans hg);rn_ld_3 (ev ((hd.1 rfl).1 hG)) (e5.kept hR) (Zs hG),Zn (hd.2.1 rfl)⟩
 ·intro u w hR hd;exact⟨fun hg=>have hG:((((((decide ((sa)=(sb)))&&((ia)==(ib)))&&((da)==(db)))&&(decide ((ha)=(hb))))&&(decide ((ma)=(mb))))=true):=Value.bool.inj ((hd.2.2.1 rfl).symm.trans hg);rn_eql_3 (ev ((hd.1 rfl).1 hG)) (ev ((hd.2.1 rfl).1 hG)) (Zs hG),Zn (hd.2.2.1 rfl)⟩
 ·intro u w hR hd;exact runs_an (ev (hd.1 rfl)) (fun hb=>ev ((hd.2.1 rfl).1 hb)) Zr
 ·intro u w hR hd;exact runs_mv (ev (hd.1 rfl)) Zr
 ·intro u w hR hd;exact⟨fun hg=>have hG:(((((((decide ((sa)=(sb)))&&((ia)==(ib)))&&((da)==(db)))&&(decide ((ha)=(hb))))&&(decide ((ma)=(mb))))&&((na)==(nb)))=true):=Value.bool.inj ((hd.1 rfl).symm.trans hg);rn_fld_42_6 (ev rfl) (Zs hG),Zn (hd.1 rfl)⟩
 ·intro u w hR hd;exact⟨fun hg=>have hG:(((((((decide ((sa)=(sb)))&&((ia)==(ib)))&&((da)==(db)))&&(decide ((ha)=(hb))))&&(decide ((ma)=(mb))))&&((na)==(nb)))=true):=Value.bool.inj ((hd.2.1 rfl).symm.trans hg);rn_ld_40 (ev ((hd.1 rfl).1 hG)) (d6.kept hR) (Zs hG),Zn (hd.2.1 rfl)⟩
 ·intro u w hR hd;exact⟨fun hg=>have hG:(((((((decide ((sa)=(sb)))&&((ia)==(ib)))&&((da)==(db)))&&(decide ((ha)=(hb))))&&(decide ((ma)=(mb))))&&((na)==(nb)))=true):=Value.bool.inj ((hd.1 rfl).symm.trans hg);rn_fld_42_6 (ev rfl) (Zs hG),Zn (hd.1 rfl)⟩
 ·intro u w hR hd;exact⟨fun hg=>have hG:(((((((decide ((sa)=(sb)))&&((ia)==(ib)))&&((da)==(db)))&&(decide ((ha)=(hb))))&&(decide ((ma)=(mb))))&&((na)==(nb)))=true):=Value.bool.inj ((hd.2.1 rfl).symm.trans hg);rn_ld_40 (ev ((hd.1 rfl).1 hG)) (e6.kept hR) (Zs hG),Zn (hd.2.1 rfl)⟩
 ·intro u w hR hd;exact⟨fun hg=>have hG:(((((((decide ((sa)=(sb)))&&((ia)==(ib)))&&((da)==(db)))&&(decide ((ha)=(hb))))&&(decide ((ma)=(mb))))&&((na)==(nb)))=true):=Value.bool.inj ((hd.2.2.1 rfl).symm.trans hg);runs_c3 en_efS (ev ((hd.1 rfl).1 hG)) (ev ((hd.2.1 rfl).1 hG)) rfl (callp (fun _ e=>⟨fun _=>e,fun hn=>absurd hG hn⟩) (HEY.out _ (HGV.out.trans hR))),Zn (hd.2.2.1 rfl)⟩
 ·intro u w hR hd;exact runs_an (ev (hd.1 rfl)) (fun hb=>ev ((hd.2.1 rfl).1 hb)) Zr
 ·intro u w hR hd;exact runs_mva (ev (hd.1 rfl)) Zr
 ·intro u w4 hR hh
  have he:u 4=.bool (((((((decide ((sa)=(sb)))&&((ia)==(ib)))&&((da)==(db)))&&(decide ((ha)=(hb))))&&(decide ((ma)=(mb))))&&((na)==(nb)))&&(eqL eqS ya yb)):=hh 47 (by decide)
  rw [HEQ.out] at he
  simp only [mixA,mixL,zz9,zz0,he]
  have HG4:Hid (Grew w w4):=Lib.hid (HGV.out.trans hR)
  clear hh he hR d0 d1 d2 d3 d4 d5 d6 d7 e0 e1 e2 e3 e4 e5 e6 e7 HGV
  go_wp2
  go_ret
  exact⟨rfl,HG4.out⟩
theorem eqP_eq2 (csa:List Cn) (gsa:List Gl) (ssa osa:List ByteArray) (hsa:List Cn) (tsa:List Ta) (csb:List Cn) (gsb:List Gl) (ssb osb:List ByteArray) (hsb:List Cn) (tsb:List Ta):((((((eqL eqCn csa csb)&&(eqL eqGl gsa gsb))&&(decide (ssa=ssb)))&&(decide (osa=osb)))&&(eqL eqCn hsa hsb))&&(eqL eqTa tsa tsb))=eqPg ⟨csa,gsa,ssa,osa,hsa,tsa⟩ ⟨csb,gsb,ssb,osb,hsb,tsb⟩:=by
 rw [eqPg]
set_option maxHeartbeats 8000000 in
theorem eqPP_any (P Q:Pg) (A B:Nat→Prop) (w:World) (cpa gpa spa opa hpa tpa:Option Addr) (cca gca sca oca hca tca:Nat) (cpb gpb spb opb hpb tpb:Option Addr) (ccb gcb scb ocb hcb tcb:Nat)
 (hp:PgIn A w P cpa gpa spa opa hpa tpa cca gca sca oca hca tca) (hq:PgIn B w Q cpb gpb spb opb hpb tpb ccb gcb scb ocb hcb tcb) :
 Calls Tryz.prog 20 #[pgv P cpa gpa spa opa hpa tpa cca gca sca oca hca tca,pgv Q cpb gpb spb opb hpb tpb ccb gcb scb ocb hcb tcb] w fun e w'=>e=.returned (.bool (eqPg P Q))∧Grew w w':=by
 have hcaps:=And.intro hp.caps hq.caps
 obtain ⟨csa,gsa,ssa,osa,hsa,tsa⟩:=P
 obtain ⟨csb,gsb,ssb,osb,hsb,tsb⟩:=Q
 have HPG:=Lib.hid hp
 have HQG_:=Lib.hid hq
 dsimp only at hcaps
 have HQC:Hid (∀W,Grew w W→Calls Tryz.prog 65 #[.slice cpa csa.length cca,.slice cpb csb.length ccb,.func (.func 66) #[] #[]] W fun e w'=>e=.returned (.bool (eqL eqCn csa csb))∧Grew W w') :=
  Lib.hid (fun W hW=>eqfC_any 66 #[] en_eC csa csb eqCn A B W _ _ _ _ (HPG.out.kept hW).cs.2 (HQG_.out.kept hW).cs.2 (fun x _ y _ W2 _=>eqC_any x.s y.s x.v y.v x.q y.q W2))
 have HQG:Hid (∀W,Grew w W→Calls Tryz.prog 67 #[.slice gpa gsa.length gca,.slice gpb gsb.length gcb,.func (.func 68) #[] #[]] W fun e w'=>e=.returned (.bool (eqL eqGl gsa gsb))∧Grew W w') :=
  Lib.hid (fun W hW=>eqfG_any 68 #[] en_eG gsa gsb eqGl A B W _ _ _ _ (HPG.out.kept hW).gs.2 (HQG_.out.kept hW).gs.2 (fun x _ y _ W2 _=>eqG_any x.s y.s x.l y.l x.i y.i x.q y.q W2))
 have HQS:Hid (∀W,Grew w W→Calls Tryz.prog 69 #[.slice spa ssa.length sca,.slice spb ssb.length scb] W fun e w'=>e=.returned (.bool (decide (ssa=ssb)))∧Grew W w'):=Lib.hid (fun W hW=>eqN_any ssa ssb A B W _ _ _ _ (HPG.out.kept hW).ss.2 (HQG_.out.kept hW).ss.2)
 have HQO:Hid (∀W,Grew w W→Calls Tryz.prog 69 #[.slice opa osa.length oca,.slice opb osb.length ocb] W fun e w'=>e=.returned (.bool (decide (osa=osb)))∧Grew W w'):=Lib.hid (fun W hW=>eqN_any osa osb A B W _ _ _ _ (HPG.out.kept hW).os.2 (HQG_.out.kept hW).os.2)
 have HQH:Hid (∀W,Grew w W→Calls Tryz.prog 70 #[.slice hpa hsa.length hca,.slice hpb hsb.length hcb,.func (.func 71) #[] #[]] W fun e w'=>e=.returned (.bool (eqL eqCn hsa hsb))∧Grew W w') :=
  Lib.hid (fun W hW=>eqfH_any 71 #[] en_eH hsa hsb eqCn A B W _ _ _ _ (HPG.out.kept hW).hs.2 (HQG_.out.kept hW).hs.2 (fun x _ y _ W2 _=>eqH_any x.s y.s x.v y.v x.q y.q W2))
 have HQT:Hid (∀W,Grew w W→Calls Tryz.prog 72 #[.slice tpa tsa.length tca,.slice tpb tsb.length tcb,.func (.func 73) #[] #[]] W fun e w'=>e=.returned (.bool (eqL eqTa tsa tsb))∧Grew W w') :=
  Lib.hid (fun W hW=>eqfT_any 73 #[] en_eT tsa tsb eqTa A B W _ _ _ _ (HPG.out.kept hW).ts (HQG_.out.kept hW).ts (fun x _ y _ a1 a2 b1 b2 W2 h1 _ h2 _ _=>eqTP_any x y A B W2 a1 a2 b1 b2 h1 h2))
 have HEQ:=Lib.hid (eqP_eq2 csa gsa ssa osa hsa tsa csb gsb ssb osb hsb tsb)
 show Calls Tryz.prog 20 #[.agg #[.slice cpa csa.length cca,.slice gpa gsa.length gca,.slice spa ssa.length sca,.slice opa osa.length oca,.slice hpa hsa.length hca,.slice tpa tsa.length tca],.agg #[.slice cpb csb.length ccb,.slice gpb gsb.length gcb,.slice spb ssb.length scb,.slice opb osb.length ocb,.slice hpb hsb.length hcb,.slice tpb tsb.length tcb]] w fun e w'=>e=.returned (.bool (eqPg ⟨csa,gsa,ssa,osa,hsa,tsa⟩ ⟨csb,gsb,ssb,osb,hsb,tsb⟩))∧Grew w w'
 clear hp hq HPG HQG_
 go_enter Tryz.func20,Tryz.ntmps20
 go_upto_region 1 with fail
 have hb1:Blk w.heap.size [.slice cpa csa.length cca,.slice gpa gsa.length gca,.slice spa ssa.length sca,.slice opa osa.length oca,.slice hpa hsa.length hca,.slice tpa tsa.length tca] 28 (w.alloc (Obj.cells #[.slice cpa csa.length cca,.slice gpa gsa.length gca,.slice spa ssa.length sca,.slice opa osa.length oca,.slice hpa hsa.length hca,.slice tpa tsa.length tca] 28)):=Blk.new w _ _
 have hb2:Blk (w.alloc (Obj.cells #[.slice cpa csa.length cca,.slice gpa gsa.length gca,.slice spa ssa.length sca,.slice opa osa.length oca,.slice hpa hsa.length hca,.slice tpa tsa.length tca] 28)).heap.size [.slice cpb csb.length ccb,.slice gpb gsb.length gcb,.slice spb ssb.length scb,.slice opb osb.length ocb,.slice hpb hsb.length hcb,.slice tpb tsb.length tcb] 28 ((w.alloc (Obj.cells #[.slice cpa csa.length cca,.slice gpa gsa.length gca,.slice spa ssa.length sca,.slice opa osa.length oca,.slice hpa hsa.length hca,.slice tpa tsa.length tca] 28)).alloc (Obj.cells #[.slice cpb csb.length ccb,.slice gpb gsb.length gcb,.slice spb ssb.length scb,.slice opb osb.length ocb,.slice hpb hsb.length hcb,.slice tpb tsb.length tcb] 28)):=Blk.new _ _ _
 have hb3:=hb1.grew ((Grew.refl _).alloc (Obj.cells #[.slice cpb csb.length ccb,.slice gpb gsb.length gcb,.slice spb ssb.length scb,.slice opb osb.length ocb,.slice hpb hsb.length hcb,.slice tpb tsb.length tcb] 28))
 have hgV:Grew w ((w.alloc (Obj.cells #[.slice cpa csa.length cca,.slice gpa gsa.length gca,.slice spa ssa.length sca,.slice opa osa.length oca,.slice hpa hsa.length hca,.slice tpa tsa.length tca] 28)).alloc (Obj.cells #[.slice cpb csb.length ccb,.slice gpb gsb.length gcb,.slice spb ssb.length scb,.slice opb osb.length ocb,.slice hpb hsb.length hcb,.slice tpb tsb.length tcb] 28)):=((Grew.refl w).alloc _).alloc _
 rw [alloc_sz] at hb2
 try rw [alloc_sz]
 generalize ((w.alloc (Obj.cells #[.slice cpa csa.length cca,.slice gpa gsa.length gca,.slice spa ssa.length sca,.slice opa osa.length oca,.slice hpa hsa.length hca,.slice tpa tsa.length tca] 28)).alloc (Obj.cells #[.slice cpb csb.length ccb,.slice gpb gsb.length gcb,.slice spb ssb.length scb,.slice opb osb.length ocb,.slice hpb hsb.length hcb,.slice tpb tsb.length tcb] 28))=V at hb2 hb3 hgV ⊢
 generalize w.heap.size+1=U at hb2 ⊢
 generalize w.heap.size=T at hb3 ⊢
 have HGV:=Lib.hid hgV
 have d0:Atv ⟨T,0,none⟩ (.slice cpa csa.length cca) V:=hb3.atv 0 rfl
 have d1:Atv ⟨T,1,none⟩ (.slice gpa gsa.length gca) V:=hb3.atv 1 rfl
 have d2:Atv ⟨T,2,none⟩ (.slice spa ssa.length sca) V:=hb3.atv 2 rfl
 have d3:Atv ⟨T,3,none⟩ (.slice opa osa.length oca) V:=hb3.atv 3 rfl
 have d4:Atv ⟨T,4,none⟩ (.slice hpa hsa.length hca) V:=hb3.atv 4 rfl
 have d5:Atv ⟨T,5,none⟩ (.slice tpa tsa.length tca) V:=hb3.atv 5 rfl
 have e0:Atv ⟨U,0,none⟩ (.slice cpb csb.length ccb) V:=hb2.atv 0 rfl
 have e1:Atv ⟨U,1,none⟩ (.slice gpb gsb.length gcb) V:=hb2.atv 1 rfl
 have e2:Atv ⟨U,2,none⟩ (.slice spb ssb.length scb) V:=hb2.atv 2 rfl
 have e3:Atv ⟨U,3,none⟩ (.slice opb osb.length ocb) V:=hb2.atv 3 rfl
 have e4:Atv ⟨U,4,none⟩ (.slice hpb hsb.length hcb) V:=hb2.atv 4 rfl
 have e5:Atv ⟨U,5,none⟩ (.slice tpb tsb.length tcb) V:=hb2.atv 5 rfl
 clear hb1 hb2 hb3 hgV
 refine wp_postsL [some 5,some 6,some 7,some 8,some 9,some 10,some 11,some 12,some 13,some 14,some 15,some 16,some 17,some 18,some 19,some 20,some 21,some 22,some 23,some 24,some 25,some 26,some 27,some 28,some 29,some 30,some 31,some 32,some 33,some 34,some 35,some 36,some 37,some 38,some 39,some 40,some 41,some 42,some 43,some 44,some 4] zD0 [fun v _=>v=.pointer (some ⟨T,0,none⟩),fun v _=>v=.slice cpa (csa.length) (cca),fun v _=>v=.pointer (some ⟨U,0,none⟩),fun v _=>v=.slice cpb (csb.length) (ccb),fun v _=>v=.bool (eqL eqCn csa csb),fun v _=>v=.bool (eqL eqCn csa csb),fun v _=>(((eqL eqCn csa csb)=true)→v=.pointer (some ⟨T,1,none⟩))∧(¬ ((eqL eqCn csa csb)=true)→v=undef),fun v _=>(((eqL eqCn csa csb)=true)→v=.slice gpa (gsa.length) (gca))∧(¬ ((eqL eqCn csa csb)=true)→v=undef),fun v _=>(((eqL eqCn csa csb)=true)→v=.pointer (some ⟨U,1,none⟩))∧(¬ ((eqL eqCn csa csb)=true)→v=undef),fun v _=>(((eqL eqCn csa csb)=true)→v=.slice gpb (gsb.length) (gcb))∧(¬ ((eqL eqCn csa csb)=true)→v=undef),fun v _=>(((eqL eqCn csa csb)=true)→v=.bool (eqL eqGl gsa gsb))∧(¬ ((eqL eqCn csa csb)=true)→v=undef),fun v _=>v=.bool ((eqL eqCn csa csb)&&(eqL eqGl gsa gsb)),fun v _=>v=.bool ((eqL eqCn csa csb)&&(eqL eqGl gsa gsb)),fun v _=>((((eqL eqCn csa csb)&&(eqL eqGl gsa gsb))=true)→v=.pointer (some ⟨T,2,none⟩))∧(¬ (((eqL eqCn csa csb)&&(eqL eqGl gsa gsb))=true)→v=undef),fun v _=>((((eqL eqCn csa csb)&&(eqL eqGl gsa gsb))=true)→v=.slice spa (ssa.length) (sca))∧(¬ (((eqL eqCn csa csb)&&(eqL eqGl gsa gsb))=true)→v=undef),fun v _=>((((eqL eqCn csa csb)&&(eqL eqGl gsa gsb))=true)→v=.pointer (some ⟨U,2,none⟩))∧(¬ (((eqL eqCn csa csb)&&(eqL eqGl gsa gsb))=true)→v=undef),fun v _=>((((eqL eqCn csa csb)&&(eqL eqGl gsa gsb))=true)→v=.slice spb (ssb.length) (scb))∧(¬ (((eqL eqCn csa csb)&&(eqL eqGl gsa gsb))=true)→v=undef),fun v _=>((((eqL eqCn csa csb)&&(eqL eqGl gsa gsb))=true)→v=.bool (decide (ssa=ssb)))∧(¬ (((eqL eqCn csa csb)&&(eqL eqGl gsa gsb))=true)→v=undef),fun v _=>v=.bool (((eqL eqCn csa csb)&&(eqL eqGl gsa gsb))&&(decide (ssa=ssb))),fun v _=>v=.bool (((eqL eqCn csa csb)&&(eqL eqGl gsa gsb))&&(decide (ssa=ssb))),fun v _=>(((((eqL eqCn csa csb)&&(eqL eqGl gsa gsb))&&(decide (ssa=ssb)))=true)→v=.pointer (some ⟨T,3,none⟩))∧(¬ ((((eqL eqCn csa csb)&&(eqL eqGl gsa gsb))&&(decide (ssa=ssb)))=true)→v=undef),fun v _=>(((((eqL eqCn csa csb)&&(eqL eqGl gsa gsb))&&(decide (ssa=ssb)))=true)→v=.slice opa (osa.length) (oca))∧(¬ ((((eqL eqCn csa csb)&&(eqL eqGl gsa gsb))&&(decide (ssa=ssb)))=true)→v=undef),fun v _=>(((((eqL eqCn csa csb)&&(eqL eqGl gsa gsb))&&(decide (ssa=ssb)))=true)→v=.pointer (some ⟨U,3,none⟩))∧(¬ ((((eqL eqCn csa csb)&&(eqL eqGl gsa gsb))&&(decide (ssa=ssb)))=true)→v=undef),fun v _=>(((((eqL eqCn csa csb)&&(eqL eqGl gsa gsb))&&(decide (ssa=ssb)))=true)→v=.slice opb (osb.length) (ocb))∧(¬ ((((eqL eqCn csa csb)&&(eqL eqGl gsa gsb))&&(decide (ssa=ssb)))=true)→v=undef),fun v _=>(((((eqL eqCn csa csb)&&(eqL eqGl gsa gsb))&&(decide (ssa=ssb)))=true)→v=.bool (decide (osa=osb)))∧(¬ ((((eqL eqCn csa csb)&&(eqL eqGl gsa gsb))&&(decide (ssa=ssb)))=true)→v=undef),fun v _=>v=.bool ((((eqL eqCn csa csb)&&(eqL eqGl gsa gsb))&&(decide (ssa=ssb)))&&(decide (osa=osb))),fun v _=>v=.bool ((((eqL eqCn csa csb)&&(eqL eqGl gsa gsb))&&(decide (ssa=ssb)))&&(decide (osa=osb))),fun v _=>((((((eqL eqCn csa csb)&&(eqL eqGl gsa gsb))&&(decide (ssa=ssb)))&&(decide (osa=osb)))=true)→v=.pointer (some ⟨T,4,none⟩))∧(¬ (((((eqL eqCn csa csb)&&(eqL eqGl gsa gsb))&&(decide (ssa=ssb)))&&(decide (osa=osb)))=true)→v=undef),fun v _=>((((((eqL eqCn csa csb)&&(eqL eqGl gsa gsb))&&(decide (ssa=ssb)))&&(decide (osa=osb)))=true)→v=.slice hpa (hsa.length) (hca))∧(¬ (((((eqL eqCn csa csb)&&(eqL eqGl gsa gsb))&&(decide (ssa=ssb)))&&(decide (osa=osb)))=true)→v=undef),fun v _=>((((((eqL eqCn csa csb)&&(eqL eqGl gsa gsb))&&(decide (ssa=ssb)))&&(decide (osa=osb)))=true)→v=.pointer (some ⟨U,4,none⟩))∧(¬ (((((eqL eqCn csa csb)&&(eqL eqGl gsa gsb))&&(decide (ssa=ssb)))&&(decide (osa=osb)))=true)→v=undef),fun v _=>((((((eqL eqCn csa csb)&&(eqL eqGl gsa gsb))&&(decide (ssa=ssb)))&&(decide (osa=osb)))=true)→v=.slice hpb (hsb.length) (hcb))∧(¬ (((((eqL eqCn csa csb)&&(eqL eqGl gsa gsb))&&(decide (ssa=ssb)))&&(decide (osa=osb)))=true)→v=undef),fun v _=>((((((eqL eqCn csa csb)&&(eqL eqGl gsa gsb))&&(decide (ssa=ssb)))&&(decide (osa=osb)))=true)→v=.bool (eqL eqCn hsa hsb))∧(¬ (((((eqL eqCn csa csb)&&(eqL eqGl gsa gsb))&&(decide (ssa=ssb)))&&(decide (osa=osb)))=true)→v=undef),fun v _=>v=.bool (((((eqL eqCn csa csb)&&(eqL eqGl gsa gsb))&&(decide (ssa=ssb)))&&(decide (osa=osb)))&&(eqL eqCn hsa hsb)),fun v _=>v=.bool (((((eqL eqCn csa csb)&&(eqL eqGl gsa gsb))&&(decide (ssa=ssb)))&&(decide (osa=osb)))&&(eqL eqCn hsa hsb)),fun v _=>(((((((eqL eqCn csa csb)&&(eqL eqGl gsa gsb))&&(decide (ssa=ssb)))&&(decide (osa=osb)))&&(eqL eqCn hsa hsb))=true)→v=.pointer (some ⟨T,5,none⟩))∧(¬ ((((((eqL eqCn csa csb)&&(eqL eqGl gsa gsb))&&(decide (ssa=ssb)))&&(decide (osa=osb)))&&(eqL eqCn hsa hsb))=true)→v=undef),fun v _=>(((((((eqL eqCn csa csb)&&(eqL eqGl gsa gsb))&&(decide (ssa=ssb)))&&(decide (osa=osb)))&&(eqL eqCn hsa hsb))=true)→v=.slice tpa (tsa.length) (tca))∧(¬ ((((((eqL eqCn csa csb)&&(eqL eqGl gsa gsb))&&(decide (ssa=ssb)))&&(decide (osa=osb)))&&(eqL eqCn hsa hsb))=true)→v=undef),fun v _=>(((((((eqL eqCn csa csb)&&(eqL eqGl gsa gsb))&&(decide (ssa=ssb)))&&(decide (osa=osb)))&&(eqL eqCn hsa hsb))=true)→v=.pointer (some ⟨U,5,none⟩))∧(¬ ((((((eqL eqCn csa csb)&&(eqL eqGl gsa gsb))&&(decide (ssa=ssb)))&&(decide (osa=osb)))&&(eqL eqCn hsa hsb))=true)→v=undef),fun v _=>(((((((eqL eqCn csa csb)&&(eqL eqGl gsa gsb))&&(decide (ssa=ssb)))&&(decide (osa=osb)))&&(eqL eqCn hsa hsb))=true)→v=.slice tpb (tsb.length) (tcb))∧(¬ ((((((eqL eqCn csa csb)&&(eqL eqGl gsa gsb))&&(decide (ssa=ssb)))&&(decide (osa=osb)))&&(eqL eqCn hsa hsb))=true)→v=undef),fun v _=>(((((((eqL eqCn csa csb)&&(eqL eqGl gsa gsb))&&(decide (ssa=ssb)))&&(decide (osa=osb)))&&(eqL eqCn hsa hsb))=true)→v=.bool (eqL eqTa tsa tsb))∧(¬ ((((((eqL eqCn csa csb)&&(eqL eqGl gsa gsb))&&(decide (ssa=ssb)))&&(decide (osa=osb)))&&(eqL eqCn hsa hsb))=true)→v=undef),fun v _=>v=.bool ((((((eqL eqCn csa csb)&&(eqL eqGl gsa gsb))&&(decide (ssa=ssb)))&&(decide (osa=osb)))&&(eqL eqCn hsa hsb))&&(eqL eqTa tsa tsb)),fun v _=>v=.bool ((((((eqL eqCn csa csb)&&(eqL eqGl gsa gsb))&&(decide (ssa=ssb)))&&(decide (osa=osb)))&&(eqL eqCn hsa hsb))&&(eqL eqTa tsa tsb))] (by kernel_rfl) rfl ?_ ⟨?_,?_,?_,?_,?_,?_,?_,?_,?_,?_,?_,?_,?_,?_,?_,?_,?_,?_,?_,?_,?_,?_,?_,?_,?_,?_,?_,?_,?_,?_,?_,?_,?_,?_,?_,?_,?_,?_,?_,?_,?_,trivial⟩ ?_
 ·exact⟨Zi,Zi,Zi,Zi,Zi,Zi,Zi,Zi,Zi,Zi,Zi,Zi,Zi,Zi,Zi,Zi,Zi,Zi,Zi,Zi,Zi,Zi,Zi,Zi,Zi,Zi,Zi,Zi,Zi,Zi,Zi,Zi,Zi,Zi,Zi,Zi,Zi,Zi,Zi,Zi,Zi,trivial⟩
 ·intro u w hR hd;exact rn_fld_28_0 (ev rfl) Zr
 ·intro u w hR hd;exact rn_ld_22 (ev (hd.1 rfl)) (d0.kept hR) Zr
 ·intro u w hR hd;exact rn_fld_28_0 (ev rfl) Zr
 ·intro u w hR hd;exact rn_ld_22 (ev (hd.1 rfl)) (e0.kept hR) Zr
 ·intro u w hR hd;exact runs_c3 en_efC (ev (hd.1 rfl)) (ev (hd.2.1 rfl)) rfl (callp (fun _ e=>e) (HQC.out _ (HGV.out.trans hR)))
 ·intro u w hR hd;exact runs_mv (ev (hd.1 rfl)) Zr
 ·intro u w hR hd;exact⟨fun hg=>have hG:((eqL eqCn csa csb)=true):=Value.bool.inj ((hd.1 rfl).symm.trans hg);rn_fld_28_1 (ev rfl) (Zs hG),Zn (hd.1 rfl)⟩
 ·intro u w hR hd;exact⟨fun hg=>have hG:((eqL eqCn csa csb)=true):=Value.bool.inj ((hd.2.1 rfl).symm.trans hg);rn_ld_23 (ev ((hd.1 rfl).1 hG)) (d1.kept hR) (Zs hG),Zn (hd.2.1 rfl)⟩
 ·intro u w hR hd;exact⟨fun hg=>have hG:((eqL eqCn csa csb)=true):=Value.bool.inj ((hd.1 rfl).symm.trans hg);rn_fld_28_1 (ev rfl) (Zs hG),Zn (hd.1 rfl)⟩
 ·intro u w hR hd;exact⟨fun hg=>have hG:((eqL eqCn csa csb)=true):=Value.bool.inj ((hd.2.1 rfl).symm.trans hg);rn_ld_23 (ev ((hd.1 rfl).1 hG)) (e1.kept hR) (Zs hG),Zn (hd.2.1 rfl)⟩
 ·intro u w hR hd;exact⟨fun hg=>have hG:((eqL eqCn csa csb)=true):=Value.bool.inj ((hd.2.2.1 rfl).symm.trans hg);runs_c3 en_efG (ev ((hd.1 rfl).1 hG)) (ev ((hd.2.1 rfl).1 hG)) rfl (callp (fun _ e=>⟨fun _=>e,fun hn=>absurd hG hn⟩) (HQG.out _ (HGV.out.trans hR))),Zn (hd.2.2.1 rfl)⟩
 ·intro u w hR hd;exact runs_an (ev (hd.1 rfl)) (fun hb=>ev ((hd.2.1 rfl).1 hb)) Zr
 ·intro u w hR hd;exact runs_mv (ev (hd.1 rfl)) Zr
 ·intro u w hR hd;exact⟨fun hg=>have hG:(((eqL eqCn csa csb)&&(eqL eqGl gsa gsb))=true):=Value.bool.inj ((hd.1 rfl).symm.trans hg);rn_fld_28_2 (ev rfl) (Zs hG),Zn (hd.1 rfl)⟩
 ·intro u w hR hd;exact⟨fun hg=>have hG:(((eqL eqCn csa csb)&&(eqL eqGl gsa gsb))=true):=Value.bool.inj ((hd.2.1 rfl).symm.trans hg);rn_ld_24 (ev ((hd.1 rfl).1 hG)) (d2.kept hR) (Zs hG),Zn (hd.2.1 rfl)⟩
 ·intro u w hR hd;exact⟨fun hg=>have hG:(((eqL eqCn csa csb)&&(eqL eqGl gsa gsb))=true):=Value.bool.inj ((hd.1 rfl).symm.trans hg);rn_fld_28_2 (ev rfl) (Zs hG),Zn (hd.1 rfl)⟩
 ·intro u w hR hd;exact⟨fun hg=>have hG:(((eqL eqCn csa csb)&&(eqL eqGl gsa gsb))=true):=Value.bool.inj ((hd.2.1 rfl).symm.trans hg);rn_ld_24 (ev ((hd.1 rfl).1 hG)) (e2.kept hR) (Zs hG),Zn (hd.2.1 rfl)⟩
 ·intro u w hR hd;exact⟨fun hg=>have hG:(((eqL eqCn csa csb)&&(eqL eqGl gsa gsb))=true):=Value.bool.inj ((hd.2.2.1 rfl).symm.trans hg);runs_c2 en_sl (ev ((hd.1 rfl).1 hG)) (ev ((hd.2.1 rfl).1 hG)) (callp (fun _ e=>⟨fun _=>e,fun hn=>absurd hG hn⟩) (HQS.out _ (HGV.out.trans hR))),Zn (hd.2.2.1 rfl)⟩
 ·intro u w hR hd;exact runs_an (ev (hd.1 rfl)) (fun hb=>ev ((hd.2.1 rfl).1 hb)) Zr
 ·intro u w hR hd;exact runs_mv (ev (hd.1 rfl)) Zr
 ·intro u w hR hd;exact⟨fun hg=>have hG:((((eqL eqCn csa csb)&&(eqL eqGl gsa gsb))&&(decide (ssa=ssb)))=true):=Value.bool.inj ((hd.1 rfl).symm.trans hg);rn_fld_28_3 (ev rfl) (Zs hG),Zn (hd.1 rfl)⟩
 ·intro u w hR hd;exact⟨fun hg=>have hG:((((eqL eqCn csa csb)&&(eqL eqGl gsa gsb))&&(decide (ssa=ssb)))=true):=Value.bool.inj ((hd.2.1 rfl).symm.trans hg);rn_ld_24 (ev ((hd.1 rfl).1 hG)) (d3.kept hR) (Zs hG),Zn (hd.2.1 rfl)⟩
 ·intro u w hR hd;exact⟨fun hg=>have hG:((((eqL eqCn csa csb)&&(eqL eqGl gsa gsb))&&(decide (ssa=ssb)))=true):=Value.bool.inj ((hd.1 rfl).symm.trans hg);rn_fld_28_3 (ev rfl) (Zs hG),Zn (hd.1 rfl)⟩
 ·intro u w hR hd;exact⟨fun hg=>have hG:((((eqL eqCn csa csb)&&(eqL eqGl gsa gsb))&&(decide (ssa=ssb)))=true):=Value.bool.inj ((hd.2.1 rfl).symm.trans hg);rn_ld_24 (ev ((hd.1 rfl).1 hG)) (e3.kept hR) (Zs hG),Zn (hd.2.1 rfl)⟩
 ·intro u w hR hd;exact⟨fun hg=>have hG:((((eqL eqCn csa csb)&&(eqL eqGl gsa gsb))&&(decide (ssa=ssb)))=true):=Value.bool.inj ((hd.2.2.1 rfl).symm.trans hg);runs_c2 en_sl (ev ((hd.1 rfl).1 hG)) (ev ((hd.2.1 rfl).1 hG)) (callp (fun _ e=>⟨fun _=>e,fun hn=>absurd hG hn⟩) (HQO.out _ (HGV.out.trans hR))),Zn (hd.2.2.1 rfl)⟩
 ·intro u w hR hd;exact runs_an (ev (hd.1 rfl)) (fun hb=>ev ((hd.2.1 rfl).1 hb)) Zr
 ·intro u w hR hd;exact runs_mv (ev (hd.1 rfl)) Zr
 ·intro u w hR hd;exact⟨fun hg=>have hG:(((((eqL eqCn csa csb)&&(eqL eqGl gsa gsb))&&(decide (ssa=ssb)))&&(decide (osa=osb)))=true):=Value.bool.inj ((hd.1 rfl).symm.trans hg);rn_fld_28_4 (ev rfl) (Zs hG),Zn (hd.1 rfl)⟩
 ·intro u w hR hd;exact⟨fun hg=>have hG:(((((eqL eqCn csa csb)&&(eqL eqGl gsa gsb))&&(decide (ssa=ssb)))&&(decide (osa=osb)))=true):=Value.bool.inj ((hd.2.1 rfl).symm.trans hg);rn_ld_25 (ev ((hd.1 rfl).1 hG)) (d4.kept hR) (Zs hG),Zn (hd.2.1 rfl)⟩
 ·intro u w hR hd;exact⟨fun hg=>have hG:(((((eqL eqCn csa csb)&&(eqL eqGl gsa gsb))&&(decide (ssa=ssb)))&&(decide (osa=osb)))=true):=Value.bool.inj ((hd.1 rfl).symm.trans hg);rn_fld_28_4 (ev rfl) (Zs hG),Zn (hd.1 rfl)⟩
 ·intro u w hR hd;exact⟨fun hg=>have hG:(((((eqL eqCn csa csb)&&(eqL eqGl gsa gsb))&&(decide (ssa=ssb)))&&(decide (osa=osb)))=true):=Value.bool.inj ((hd.2.1 rfl).symm.trans hg);rn_ld_25 (ev ((hd.1 rfl).1 hG)) (e4.kept hR) (Zs hG),Zn (hd.2.1 rfl)⟩
 ·intro u w hR hd;exact⟨fun hg=>have hG:(((((eqL eqCn csa csb)&&(eqL eqGl gsa gsb))&&(decide (ssa=ssb)))&&(decide (osa=osb)))=true):=Value.bool.inj ((hd.2.2.1 rfl).symm.trans hg);runs_c3 en_efH (ev ((hd.1 rfl).1 hG)) (ev ((hd.2.1 rfl).1 hG)) rfl (callp (fun _ e=>⟨fun _=>e,fun hn=>absurd hG hn⟩) (HQH.out _ (HGV.out.trans hR))),Zn (hd.2.2.1 rfl)⟩
 ·intro u w hR hd;exact runs_an (ev (hd.1 rfl)) (fun hb=>ev ((hd.2.1 rfl).1 hb)) Zr
 ·intro u w hR hd;exact runs_mv (ev (hd.1 rfl)) Zr
 ·intro u w hR hd;exact⟨fun hg=>have hG:((((((eqL eqCn csa csb)&&(eqL eqGl gsa gsb))&&(decide (ssa=ssb)))&&(decide (osa=osb)))&&(eqL eqCn hsa hsb))=true):=Value.bool.inj ((hd.1 rfl).symm.trans hg);rn_fld_28_5 (ev rfl) (Zs hG),Zn (hd.1 rfl)⟩
 ·intro u w hR hd;exact⟨fun hg=>have hG:((((((eqL eqCn csa csb)&&(eqL eqGl gsa gsb))&&(decide (ssa=ssb)))&&(decide (osa=osb)))&&(eqL eqCn hsa hsb))=true):=Value.bool.inj ((hd.2.1 rfl).symm.trans hg);rn_ld_26 (ev ((hd.1 rfl).1 hG)) (d5.kept hR) (Zs hG),Zn (hd.2.1 rfl)⟩
 ·intro u w hR hd;exact⟨fun hg=>have hG:((((((eqL eqCn csa csb)&&(eqL eqGl gsa gsb))&&(decide (ssa=ssb)))&&(decide (osa=osb)))&&(eqL eqCn hsa hsb))=true):=Value.bool.inj ((hd.1 rfl).symm.trans hg);rn_fld_28_5 (ev rfl) (Zs hG),Zn (hd.1 rfl)⟩
 ·intro u w hR hd;exact⟨fun hg=>have hG:((((((eqL eqCn csa csb)&&(eqL eqGl gsa gsb))&&(decide (ssa=ssb)))&&(decide (osa=osb)))&&(eqL eqCn hsa hsb))=true):=Value.bool.inj ((hd.2.1 rfl).symm.trans hg);rn_ld_26 (ev ((hd.1 rfl).1 hG)) (e5.kept hR) (Zs hG),Zn (hd.2.1 rfl)⟩
 ·intro u w hR hd;exact⟨fun hg=>have hG:((((((eqL eqCn csa csb)&&(eqL eqGl gsa gsb))&&(decide (ssa=ssb)))&&(decide (osa=osb)))&&(eqL eqCn hsa hsb))=true):=Value.bool.inj ((hd.2.2.1 rfl).symm.trans hg);runs_c3 en_efT (ev ((hd.1 rfl).1 hG)) (ev ((hd.2.1 rfl).1 hG)) rfl (callp (fun _ e=>⟨fun _=>e,fun hn=>absurd hG hn⟩) (HQT.out _ (HGV.out.trans hR))),Zn (hd.2.2.1 rfl)⟩
 ·intro u w hR hd;exact runs_an (ev (hd.1 rfl)) (fun hb=>ev ((hd.2.1 rfl).1 hb)) Zr
 ·intro u w hR hd;exact runs_mva (ev (hd.1 rfl)) Zr
 ·intro u w4 hR hh
  have he:u 4=.bool ((((((eqL eqCn csa csb)&&(eqL eqGl gsa gsb))&&(decide (ssa=ssb)))&&(decide (osa=osb)))&&(eqL eqCn hsa hsb))&&(eqL eqTa tsa tsb)):=hh 40 (by decide)
  rw [HEQ.out] at he
  simp only [mixA,mixL,zz9,zz0,he]
  have HG4:Hid (Grew w w4):=Lib.hid (HGV.out.trans hR)
  clear hh he hR d0 d1 d2 d3 d4 d5 e0 e1 e2 e3 e4 e5 HGV
  go_wp2
  go_ret
  exact⟨rfl,HG4.out⟩
end Go.Proofs.YtcknpcbkofgdoaaGreatDoor
namespace Go.Proofs.YtcknpcbkofgdoaaGreatDoor
open Go
open Go.Lib (decDigits)
set_option linter.unusedSimpArgs false
set_option linter.unusedVariables false
set_option maxRecDepth 8000
theorem stXs_len':∀l:List Xp,(stXs l).length=l.length
 | []=>by rw [stXs]
 | x :: l=>by rw [stXs,List.length_cons,List.length_cons,stXs_len' l]
theorem eqH_iff (k k' v v' o o':Int) (s s':ByteArray) (n n':Nat):eqH k s v o n k' s' v' o' n'=true↔k=k'∧s=s'∧v=v'∧o=o'∧n=n':=by
 rw [eqH,Bool.not_eq_true']
 simp only [Bool.or_eq_false_iff,bne_eq_false_iff_eq,Bool.not_eq_false',decide_eq_true_eq,Int.natCast_inj,and_assoc]
theorem eqHS_iff (k k' n n':Int) (s s':ByteArray) (l l':Nat) (m1 m2:Bool):eqHS k s n l k' s' n' l' m1 m2=true↔k=k'∧s=s'∧n=n'∧l=l'∧m1=true∧m2=true:=by
 rw [eqHS,Bool.not_eq_true']
 simp only [Bool.or_eq_false_iff,bne_eq_false_iff_eq,Bool.not_eq_false',decide_eq_true_eq,Int.natCast_inj,and_assoc]
mutual
theorem eqX_st:∀x y:Xp,eqX x y=true↔stX x=stX y
 | ⟨k,s,v,o,ar,q⟩,⟨k',s',v',o',ar',q'⟩=>by
   rw [eqX,Bool.and_eq_true,eqH_iff,stX,stX,Xp.mk.injEq]
   constructor
   ·rintro ⟨⟨h1,h2,h3,h4,h5⟩,h6⟩
    exact⟨h1,h2,h3,h4,(eqXs_st ar ar' h5).1 h6,rfl⟩
   ·rintro ⟨h1,h2,h3,h4,h5,_⟩
    have hl:=congrArg List.length h5
    rw [stXs_len',stXs_len'] at hl
    exact⟨⟨h1,h2,h3,h4,hl⟩,(eqXs_st ar ar' hl).2 h5⟩
theorem eqXs_st:∀l m:List Xp,l.length=m.length→(eqXs l m=true↔stXs l=stXs m)
 | [],[],_=>by rw [eqXs_nil];exact⟨fun _=>rfl,fun _=>rfl⟩
 | [],_ :: _,h=>by cases h
 | _ :: _,[],h=>by cases h
 | x :: l,y :: m,h=>by
   rw [eqXs,Bool.and_eq_true,eqX_st x y,eqXs_st l m (by simpa using h),stXs,stXs,List.cons.injEq]
end
mutual
theorem eqS_st:∀x y:Sm,eqS x y=true↔stS x=stS y
 | ⟨k,s,n,ar,b,e,q⟩,⟨k',s',n',ar',b',e',q'⟩=>by
   rw [eqS,Bool.and_eq_true,eqHS_iff,stS,stS,Sm.mk.injEq,Bool.and_eq_true,Bool.and_eq_true,decide_eq_true_eq,decide_eq_true_eq]
   constructor
   ·rintro ⟨⟨h1,h2,h3,h4,⟨h5,h6⟩,h7,h8⟩,h9⟩
    exact⟨h1,h2,h3,(eqXs_st ar ar' h4).1 h9,(eqSz_st b b' h5).1 h6,(eqSz_st e e' h7).1 h8,rfl⟩
   ·rintro ⟨h1,h2,h3,h4,h5,h6,_⟩
    have l1:=congrArg List.length h4
    have l2:=congrArg List.length h5
    have l3:=congrArg List.length h6
    rw [stXs_len',stXs_len'] at l1
    rw [stSs_len,stSs_len] at l2 l3
    exact⟨⟨h1,h2,h3,l1,⟨l2,(eqSz_st b b' l2).2 h5⟩,l3,(eqSz_st e e' l3).2 h6⟩,(eqXs_st ar ar' l1).2 h4⟩
theorem eqSz_st:∀l m:List Sm,l.length=m.length→(eqSz l m=true↔stSs l=stSs m)
 | [],[],_=>by rw [eqSz_nil];exact⟨fun _=>rfl,fun _=>rfl⟩
 | [],_ :: _,h=>by cases h
 | _ :: _,[],h=>by cases h
 | x :: l,y :: m,h=>by
   rw [eqSz,Bool.and_eq_true,eqS_st x y,eqSz_st l m (by simpa using h),stSs,stSs,List.cons.injEq]
end
theorem all2_map {α β:Type}{R:α→α→Bool}{f:α→β}(h:∀x y,R x y=true↔f x=f y):∀a b:List α,a.length=b.length→(all2 R a b=true↔a.map f=b.map f)
 | [],[],_=>⟨fun _=>rfl,fun _=>rfl⟩
 | [],_ :: _,h=>by cases h
 | _ :: _,[],h=>by cases h
 | x :: a,y :: b,hl=>by rw [all2,Bool.and_eq_true,h x y,all2_map h a b (by simpa using hl),List.map_cons,List.map_cons,List.cons.injEq]
theorem eqL_map {α β:Type}{R:α→α→Bool}{f:α→β}(h:∀x y,R x y=true↔f x=f y) (a b:List α):eqL R a b=true↔a.map f=b.map f:=by
 rw [eqL,Bool.and_eq_true,decide_eq_true_eq]
 constructor
 ·rintro ⟨h1,h2⟩
  exact(all2_map h a b h1).1 h2
 ·intro h1
  have hl:=congrArg List.length h1
  rw [List.length_map,List.length_map] at hl
  exact⟨hl,(all2_map h a b hl).2 h1⟩
theorem eqCn_st (x y:Cn):eqCn x y=true↔stCn x=stCn y:=by
 rw [eqCn,Bool.and_eq_true,decide_eq_true_eq,beq_iff_eq,stCn,stCn,Cn.mk.injEq]
 exact⟨fun h=>⟨h.1,h.2,rfl⟩,fun h=>⟨h.1,h.2.1⟩⟩
theorem eqGl_st (x y:Gl):eqGl x y=true↔stGl x=stGl y:=by
 rw [eqGl,Bool.and_eq_true,Bool.and_eq_true,decide_eq_true_eq,beq_iff_eq,beq_iff_eq,stGl,stGl,Gl.mk.injEq]
 exact⟨fun h=>⟨h.1.1,h.1.2,h.2,rfl⟩,fun h=>⟨⟨h.1,h.2.1⟩,h.2.2.1⟩⟩
theorem eqSs_st (a b:List Sm):eqL eqS a b=true↔stSs a=stSs b:=by
 rw [← eqSs_eqL,eqSs,Bool.and_eq_true,decide_eq_true_eq]
 constructor
 ·rintro ⟨h1,h2⟩
  exact(eqSz_st a b h1).1 h2
 ·intro h1
  have hl:=congrArg List.length h1
  rw [stSs_len,stSs_len] at hl
  exact⟨hl,(eqSz_st a b hl).2 h1⟩
theorem eqTa_st (x y:Ta):eqTa x y=true↔stTa x=stTa y:=by
 rw [eqTa]
 simp only [Bool.and_eq_true,decide_eq_true_eq,beq_iff_eq]
 rw [eqSs_st,stTa,stTa,Ta.mk.injEq]
 exact⟨fun⟨⟨⟨⟨⟨⟨h1,h2⟩,h3⟩,h4⟩,h5⟩,h6⟩,h7⟩=>⟨h1,h2,h3,h4,h5,h6,h7,rfl⟩,fun⟨h1,h2,h3,h4,h5,h6,h7,_⟩=>⟨⟨⟨⟨⟨⟨h1,h2⟩,h3⟩,h4⟩,h5⟩,h6⟩,h7⟩⟩
theorem eqPg_maps (P Q:Pg):eqPg P Q=true↔P.cs.map stCn=Q.cs.map stCn∧P.gs.map stGl=Q.gs.map stGl∧P.ss=Q.ss∧P.os=Q.os∧P.hs.map stCn=Q.hs.map stCn∧P.ts.map stTa=Q.ts.map stTa:=by
 rw [eqPg]
 simp only [Bool.and_eq_true,decide_eq_true_eq]
 rw [eqL_map eqCn_st,eqL_map eqGl_st,eqL_map eqCn_st,eqL_map eqTa_st]
 exact⟨fun⟨⟨⟨⟨⟨h1,h2⟩,h3⟩,h4⟩,h5⟩,h6⟩=>⟨h1,h2,h3,h4,h5,h6⟩,fun⟨h1,h2,h3,h4,h5,h6⟩=>⟨⟨⟨⟨⟨h1,h2⟩,h3⟩,h4⟩,h5⟩,h6⟩⟩
theorem fm_some {α β γ:Type}{f:α→γ}{p:γ→Option β}{g:α→β}(h:∀x,p (f x)=some (g x)):∀l:List α,(l.map f).filterMap p=l.map g
 | []=>rfl
 | x :: l=>by rw [List.map_cons,List.filterMap_cons,h x,List.map_cons,fm_some h l]
theorem fm_none {α β γ:Type}{f:α→γ}{p:γ→Option β}(h:∀x,p (f x)=none):∀l:List α,(l.map f).filterMap p=[]
 | []=>rfl
 | x :: l=>by rw [List.map_cons,List.filterMap_cons,h x,fm_none h l]
def isC:Dc→Option Cn | .c x=>some x | _=>none
def isG:Dc→Option Gl | .g x=>some x | _=>none
def isS:Dc→Option ByteArray | .s x=>some x | _=>none
def isO:Dc→Option ByteArray | .o x=>some x | _=>none
def isH:Dc→Option Cn | .h x=>some x | _=>none
def isK:Dc→Option Ta | .t x=>some x | _=>none
theorem dcls_st (P:Pg):(dcls P).map stD=P.cs.map (fun x=>.c (stCn x))++(P.gs.map (fun x=>.g (stGl x))++(P.ss.map .s++(P.os.map .o++(P.hs.map (fun x=>.h (stCn x))++P.ts.map (fun x=>.t (stTa x)))))):=by
 simp only [dcls,List.map_append,List.map_map]
 rfl
theorem eqPg_dcls (P Q:Pg):eqPg P Q=true↔(dcls P).map stD=(dcls Q).map stD:=by
 rw [eqPg_maps,dcls_st,dcls_st]
 constructor
 ·rintro ⟨h1,h2,h3,h4,h5,h6⟩
  have e:∀(α β γ:Type) (f:α→β) (g:β→γ) (l:List α),l.map (fun x=>g (f x))=(l.map f).map g:=fun α β γ f g l=>by rw [List.map_map];rfl
  rw [e _ _ _ stCn Dc.c,e _ _ _ stGl Dc.g,e _ _ _ stCn Dc.h,e _ _ _ stTa Dc.t,e _ _ _ stCn Dc.c,e _ _ _ stGl Dc.g,e _ _ _ stCn Dc.h,e _ _ _ stTa Dc.t,h1,h2,h3,h4,h5,h6]
 ·intro h
  have hC:=congrArg (List.filterMap isC) h
  have hG:=congrArg (List.filterMap isG) h
  have hS:=congrArg (List.filterMap isS) h
  have hO:=congrArg (List.filterMap isO) h
  have hH:=congrArg (List.filterMap isH) h
  have hK:=congrArg (List.filterMap isK) h
  simp only [List.filterMap_append] at hC hG hS hO hH hK
  have n1:∀l:List Cn,(l.map (fun x=>Dc.c (stCn x))).filterMap isG=[]∧(l.map (fun x=>Dc.c (stCn x))).filterMap isS=[]∧(l.map (fun x=>Dc.c (stCn x))).filterMap isO=[]∧(l.map (fun x=>Dc.c (stCn x))).filterMap isH=[]∧(l.map (fun x=>Dc.c (stCn x))).filterMap isK=[]:=fun l=>⟨fm_none (fun _=>rfl) l,fm_none (fun _=>rfl) l,fm_none (fun _=>rfl) l,fm_none (fun _=>rfl) l,fm_none (fun _=>rfl) l⟩
  have n2:∀l:List Gl,(l.map (fun x=>Dc.g (stGl x))).filterMap isC=[]∧(l.map (fun x=>Dc.g (stGl x))).filterMap isS=[]∧(l.map (fun x=>Dc.g (stGl x))).filterMap isO=[]∧(l.map (fun x=>Dc.g (stGl x))).filterMap isH=[]∧(l.map (fun x=>Dc.g (stGl x))).filterMap isK=[]:=fun l=>⟨fm_none (fun _=>rfl) l,fm_none (fun _=>rfl) l,fm_none (fun _=>rfl) l,fm_none (fun _=>rfl) l,fm_none (fun _=>rfl) l⟩
  have n3:∀l:List ByteArray,(l.map Dc.s).filterMap isC=[]∧(l.map Dc.s).filterMap isG=[]∧(l.map Dc.s).filterMap isO=[]∧(l.map Dc.s).filterMap isH=[]∧(l.map Dc.s).filterMap isK=[]:=fun l=>⟨fm_none (fun _=>rfl) l,fm_none (fun _=>rfl) l,fm_none (fun _=>rfl) l,fm_none (fun _=>rfl) l,fm_none (fun _=>rfl) l⟩
  have n4:∀l:List ByteArray,(l.map Dc.o).filterMap isC=[]∧(l.map Dc.o).filterMap isG=[]∧(l.map Dc.o).filterMap isS=[]∧(l.map Dc.o).filterMap isH=[]∧(l.map Dc.o).filterMap isK=[]:=fun l=>⟨fm_none (fun _=>rfl) l,fm_none (fun _=>rfl) l,fm_none (fun _=>rfl) l,fm_none (fun _=>rfl) l,fm_none (fun _=>rfl) l⟩
  have n5:∀l:List Cn,(l.map (fun x=>Dc.h (stCn x))).filterMap isC=[]∧(l.map (fun x=>Dc.h (stCn x))).filterMap isG=[]∧(l.map (fun x=>Dc.h (stCn x))).filterMap isS=[]∧(l.map (fun x=>Dc.h (stCn x))).filterMap isO=[]∧(l.map (fun x=>Dc.h (stCn x))).filterMap isK=[]:=fun l=>⟨fm_none (fun _=>rfl) l,fm_none (fun _=>rfl) l,fm_none (fun _=>rfl) l,fm_none (fun _=>rfl) l,fm_none (fun _=>rfl) l⟩
  have n6:∀l:List Ta,(l.map (fun x=>Dc.t (stTa x))).filterMap isC=[]∧(l.map (fun x=>Dc.t (stTa x))).filterMap isG=[]∧(l.map (fun x=>Dc.t (stTa x))).filterMap isS=[]∧(l.map (fun x=>Dc.t (stTa x))).filterMap isO=[]∧(l.map (fun x=>Dc.t (stTa x))).filterMap isH=[]:=fun l=>⟨fm_none (fun _=>rfl) l,fm_none (fun _=>rfl) l,fm_none (fun _=>rfl) l,fm_none (fun _=>rfl) l,fm_none (fun _=>rfl) l⟩
  have y1:∀l:List Cn,(l.map (fun x=>Dc.c (stCn x))).filterMap isC=l.map stCn:=fm_some (fun _=>rfl)
  have y2:∀l:List Gl,(l.map (fun x=>Dc.g (stGl x))).filterMap isG=l.map stGl:=fm_some (fun _=>rfl)
  have y3:∀l:List ByteArray,(l.map Dc.s).filterMap isS=l:=fun l=>(fm_some (f:=Dc.s) (p:=isS) (g:=id) (fun _=>rfl) l).trans (List.map_id l)
  have y4:∀l:List ByteArray,(l.map Dc.o).filterMap isO=l:=fun l=>(fm_some (f:=Dc.o) (p:=isO) (g:=id) (fun _=>rfl) l).trans (List.map_id l)
  have y5:∀l:List Cn,(l.map (fun x=>Dc.h (stCn x))).filterMap isH=l.map stCn:=fm_some (fun _=>rfl)
  have y6:∀l:List Ta,(l.map (fun x=>Dc.t (stTa x))).filterMap isK=l.map stTa:=fm_some (fun _=>rfl)
  simp only [n1,n2,n3,n4,n5,n6,y1,y2,y3,y4,y5,y6,List.append_nil,List.nil_append] at hC hG hS hO hH hK
  exact⟨hC,hG,hS,hO,hH,hK⟩
theorem stX_ko:∀x:Xp,(stX x).k=x.k∧(stX x).o=x.o
 | ⟨_,_,_,_,_,_⟩=>by rw [stX];exact⟨rfl,rfl⟩
theorem stXs_ko:∀l:List Xp,(stXs l).map (fun a=>(a.k,a.o))=l.map (fun a=>(a.k,a.o))
 | []=>by rw [stXs]
 | x :: l=>by rw [stXs,List.map_cons,List.map_cons,stXs_ko l,(stX_ko x).1,(stX_ko x).2]
mutual
theorem txX_st:∀x:Xp,txX (stX x)=txX x
 | ⟨k,s,v,o,ar,q⟩=>by rw [stX,txX,txX,stXs_ko ar,txXs_st ar]
theorem txXs_st:∀l:List Xp,txXs (stXs l)=txXs l
 | []=>by rw [stXs]
 | x :: l=>by rw [stXs,txXs,txXs,txX_st x,txXs_st l]
end
theorem agT_st (l:List Xp) (i:Nat):agT (stXs l) i=agT l i:=by rw [agT,agT,txXs_st]
theorem stS_k:∀x:Sm,(stS x).k=x.k
 | ⟨_,_,_,_,_,_,_⟩=>by rw [stS];rfl
mutual
theorem linS_st:∀(x:Sm) (i:List UInt8),linS (stS x) i=linS x i
 | ⟨k,s,n,ar,b,e,q⟩,i=>by rw [stS,linS,linS,agT_st,agT_st,linL_st b,elsT_st e]
theorem linL_st:∀(l:List Sm) (i:List UInt8),linL (stSs l) i=linL l i
 | [],i=>by rw [stSs]
 | x :: l,i=>by rw [stSs,linL,linL,linS_st x,linL_st l]
theorem elsT_st:∀(e:List Sm) (i:List UInt8),elsT (stSs e) i=elsT e i
 | [],i=>by rw [stSs]
 | [x],i=>by rw [stSs,stSs,elsT,elsT,stS_k x,linS_st x,linS_st x]
 | x :: y :: r,i=>by rw [stSs,stSs,elsT,elsT,linS_st x,linS_st y,linL_st r]
end
theorem dcT_st:∀d:Dc,dcT (stD d)=dcT d
 | .c _=>rfl
 | .g _=>rfl
 | .s _=>rfl
 | .o _=>rfl
 | .h _=>rfl
 | .t x=>by
   show tskF (tskH x) (linL (stSs x.b) [32,32,32,32]) x.d=tskF (tskH x) (linL x.b [32,32,32,32]) x.d
   rw [linL_st]
theorem dcTs_st:∀l:List Dc,(l.map stD).flatMap dcT=l.flatMap dcT
 | []=>rfl
 | d :: l=>by rw [List.map_cons,List.flatMap_cons,List.flatMap_cons,dcT_st,dcTs_st l]
def fitP (P:Pg):Prop:=(∀c ∈ P.cs,c.v≤32767)∧(∀c ∈ P.gs,c.i≤32767)∧∀t ∈ P.ts,fitSs t.b
theorem okP_dcls {P:Pg}(h:okP P=true) (hf:fitP P):∀d ∈ dcls P,okD d=true∧fitD d:=by
 rw [okP,Bool.and_eq_true,Bool.and_eq_true,Bool.and_eq_true,Bool.and_eq_true,okCs,okGs,okNs,okHs,okTs,List.all_eq_true,List.all_eq_true,List.all_eq_true,List.all_eq_true,List.all_eq_true] at h
 obtain ⟨h1,h2,h3,h4,h5⟩:=h
 obtain ⟨f1,f2,f3⟩:=hf
 intro d hd
 simp only [dcls,List.mem_append,List.mem_map] at hd
 rcases hd with ⟨x,hx,rfl⟩ | ⟨x,hx,rfl⟩ | ⟨x,hx,rfl⟩ | ⟨x,hx,rfl⟩ | ⟨x,hx,rfl⟩ | ⟨x,hx,rfl⟩
 ·exact⟨h1 x hx,f1 x hx⟩
 ·exact⟨h2 x hx,f2 x hx⟩
 ·exact⟨h3 x (List.mem_append.2 (.inl hx)),trivial⟩
 ·exact⟨h3 x (List.mem_append.2 (.inr hx)),trivial⟩
 ·exact⟨h4 x hx,trivial⟩
 ·exact⟨h5 x hx,f3 x hx⟩
theorem text_det {P Q:Pg}(hP:okP P=true) (hQ:okP Q=true) (fP:fitP P) (fQ:fitP Q):fmT P=fmT Q↔eqPg P Q=true:=by
 rw [fmT_flat,fmT_flat,eqPg_dcls]
 constructor
 ·exact text_dcls (okP_dcls hP fP) (okP_dcls hQ fQ)
 ·intro h
  rw [← dcTs_st (dcls P),← dcTs_st (dcls Q),h]
end Go.Proofs.YtcknpcbkofgdoaaGreatDoor
namespace Go.Proofs.YtcknpcbkofgdoaaGreatDoor
open Go Go.RowKit Go.IntWalk
set_option linter.unusedSimpArgs false
set_option linter.unusedVariables false
set_option maxRecDepth 8000
section
variable {dst:Option Tmp}{ty:TypeId}{pos:String}{after:Array Edge}{g:Option (Nat × Bool)}{a:Act}{w:World}{T:Value→World→Prop}
theorem rn_fld_151_1 {x:Operand}{S o:Nat}(hx:a.eval x=.pointer (some ⟨S,o,none⟩)) (h:T (.pointer (some ⟨S,o+1,none⟩)) w):Runs Tryz.prog ⟨dst,.fieldAddr 151 x 1,ty,pos,after,g⟩ a w T:=by
 refine Runs.value (v:=.pointer (some ⟨S,o+1,none⟩)) (w':=w) ?_ h
 simp only [execOp,hx]
 go_simp
theorem rn_ld_151 {x:Operand}{S o:Nat}{v0 v1:Value}(hx:a.eval x=.pointer (some ⟨S,o,none⟩)) (h0:w.cell? ⟨S,o,none⟩=some v0) (h1:w.cell? ⟨S,o+1,none⟩=some v1) (h:T (.agg #[v0,v1]) w):Runs Tryz.prog ⟨dst,.load 151 x,ty,pos,after,g⟩ a w T:=by
 refine Runs.value (v:=.agg #[v0,v1]) (w':=w) ?_ h
 simp only [execOp,hx]
 go_simp
end
theorem EnvB.env {N:Nat}{w:World}(h:EnvB N w):Env w:=h.1
abbrev WxF (k:Int) (s:ByteArray) (v o:Int) (ar:List Xp) (q:Int):Prop:=∀(N b:Nat) (xs:List UInt8) (B:Nat→Prop) (w:World) (p:Option Addr) (c:Nat),BldT 70 [] N b xs w→N≤w.heap.size→(∀i,B i→i < N)→XL B w p c ar→(s.size≤1048576∧v≤32767)→EnvB N w→okX ⟨k,s,v,o,ar,q⟩=true→xs.length+(txX ⟨k,s,v,o,ar,q⟩).length≤140737488355328 →
 Calls Tryz.prog 101 #[PtrTo b,xv k s v o p ar.length c q] w fun e w'=>e=.returned (.tuple #[])∧BldT 70 [] N b (xs++txX ⟨k,s,v,o,ar,q⟩) w'∧Wrote N b w w'
abbrev OpF (k:Int) (s:ByteArray) (v o:Int) (ar:List Xp) (q:Int):Prop:=∀(least:Int) (N b:Nat) (xs:List UInt8) (B:Nat→Prop) (w:World) (p:Option Addr) (c:Nat),BldT 70 [] N b xs w→N≤w.heap.size→(∀i,B i→i < N)→XL B w p c ar→(s.size≤1048576∧v≤32767)→EnvB N w→okX ⟨k,s,v,o,ar,q⟩=true→xs.length+(opd least k o (txX ⟨k,s,v,o,ar,q⟩)).length≤140737488355328 →
 Calls Tryz.prog 142 #[PtrTo b,xv k s v o p ar.length c q,.int .i64 least] w fun e w'=>e=.returned (.tuple #[])∧BldT 70 [] N b (xs++opd least k o (txX ⟨k,s,v,o,ar,q⟩)) w'∧Wrote N b w w'
theorem app_list (a b:ByteArray):(a++b).data.toList=a.data.toList++b.data.toList:=by simp
theorem wstrS_any {T:TypeId}{rs:List Value}(hT:BT T rs.length) (N b:Nat) (xs:List UInt8) (s:ByteArray) (w:World) (h:BldT T rs N b xs w) (hl:xs.length+s.data.toList.length≤140737488355328) (hN:N≤w.heap.size) :
 Calls Tryz.prog 93 #[PtrTo b,.string s] w fun e w'=>(∃v,e=.returned v)∧BldT T rs N b (xs++s.data.toList) w'∧Wrote N b w w':=by
 obtain ⟨l,rfl⟩:=str_eta s
 exact wstr_any hT N b xs l w h hl hN
set_option maxHeartbeats 16000000 in
theorem wx_any:∀x,WxC x:=by
 intro x
 induction x using Xp.ind with
 | h k s v o ar q ih =>
 intro N b xs B w p c hb hN hB hX hz hE hok hlen
 have HB:=Lib.hid hb
 have HE:=Lib.hid hE
 have HBN:=Lib.hid hB
 have HNw:=Lib.hid hN
 have hcap:=hX.cap.1
 have hmax:=hX.cap.2.1
 clear hN
 rcases ok_cases hok with ⟨rfl,rfl,rfl,rfl,hv⟩ | ⟨hk,rfl,rfl,rfl,hs⟩ | ⟨rfl,a,rfl,rfl,rfl,hs,ha⟩ | ⟨rfl,a,rfl,rfl,rfl,ho,ha⟩ | ⟨rfl,a,b',rfl,rfl,rfl,ho,ha,hb'⟩
 ·rw [tx1] at hlen ⊢
  show Calls Tryz.prog 101 #[PtrTo b,xv 1 ⟨#[]⟩ v 0 p 0 c q] w fun e w'=>e=.returned (.tuple #[])∧BldT 70 [] N b (xs++numZ v) w'∧Wrote N b w w'
  have HLN:=Lib.hid hlen
  have hv2:=hz.2
  replace hv2:v≤32767:=hv2
  clear hlen hX hz ih hb hE hB hok
  go_enter Tryz.func101,Tryz.ntmps101
  go_upto_region 1 with fail
  have hb1_:Blk w.heap.size [.int .i64 1,.string ⟨#[]⟩,.int .i16 v,.int .i64 0,.slice p 0 c,.int .i64 q] 35 (w.alloc (Obj.cells #[.int .i64 1,.string ⟨#[]⟩,.int .i16 v,.int .i64 0,.slice p 0 c,.int .i64 q] 35)):=Blk.new w _ _
  have hgV:Grew w (w.alloc (Obj.cells #[.int .i64 1,.string ⟨#[]⟩,.int .i16 v,.int .i64 0,.slice p 0 c,.int .i64 q] 35)):=(Grew.refl w).alloc _
  have hne_:w.heap.size≠b:=by have:=HB.out.lt;omega
  generalize (w.alloc (Obj.cells #[.int .i64 1,.string ⟨#[]⟩,.int .i16 v,.int .i64 0,.slice p 0 c,.int .i64 q] 35))=V0 at hb1_ hgV ⊢
  generalize w.heap.size=S at hb1_ hne_ ⊢
  have HW0:=Lib.hid (Wrote.of_grew (N:=N) (b:=b) hgV HNw.out)
  have HB0:=Lib.hid (HB.out.grew hgV)
  have HN0:=Lib.hid (Nat.le_trans HNw.out hgV.sz)
  have HX0:=Lib.hid hb1_
  have HNE:=Lib.hid hne_
  clear hb1_ hgV hne_
  have x0V0:V0.cell? ⟨S,0,none⟩=some (.int .i64 1):=HX0.out.cell 0
  have x1V0:V0.cell? ⟨S,1,none⟩=some (.string ⟨#[]⟩):=HX0.out.cell 1
  have x2V0:V0.cell? ⟨S,2,none⟩=some (.int .i16 v):=HX0.out.cell 2
  have x3V0:V0.cell? ⟨S,3,none⟩=some (.int .i64 0):=HX0.out.cell 3
  have x4V0:V0.cell? ⟨S,4,none⟩=some (.slice p 0 c):=HX0.out.cell 4
  have x5V0:V0.cell? ⟨S,5,none⟩=some (.int .i64 q):=HX0.out.cell 5
  go_wp2_with (first
   | (go_at_call 40;(with_reducible refine(itoa_any v (by omega) V0 (HE.out.wrote HW0.out).env).mono ?_);rintro e V1 ⟨rfl,g_⟩;have HW1:=Lib.hid (HW0.out.grew g_ HNw.out);have HB1:=Lib.hid (HB0.out.grew g_);have HN1:=Lib.hid (Nat.le_trans HN0.out g_.sz);have HX1:=Lib.hid (HX0.out.grew g_);clear g_;have x0V1:V1.cell? ⟨S,0,none⟩=some (.int .i64 1):=HX1.out.cell 0;have x1V1:V1.cell? ⟨S,1,none⟩=some (.string ⟨#[]⟩):=HX1.out.cell 1;have x2V1:V1.cell? ⟨S,2,none⟩=some (.int .i16 v):=HX1.out.cell 2;have x3V1:V1.cell? ⟨S,3,none⟩=some (.int .i64 0):=HX1.out.cell 3;have x4V1:V1.cell? ⟨S,4,none⟩=some (.slice p 0 c):=HX1.out.cell 4;have x5V1:V1.cell? ⟨S,5,none⟩=some (.int .i64 q):=HX1.out.cell 5)
   | (go_at_call 93;(with_reducible refine(wstr_any btB N b xs (numZ v) V1 HB1.out (by have h_:=HLN.out;first | omega | (simp only [app_list,List.length_append,List.length_cons,List.length_nil] at h_ ⊢;omega) | (simp only [app_list,List.length_append,List.length_cons,List.length_nil] at h_ ⊢;done) | (simp [app_list,List.length_append] at h_ ⊢;omega)) HN1.out).mono ?_);rintro e V2 ⟨⟨v_1,rfl⟩,hb_,hw_⟩;have HW2:=Lib.hid (HW1.out.trans hw_);have HB2:=Lib.hid hb_;have HN2:=Lib.hid (Nat.le_trans HN1.out hw_.bel.size);have HX2:=Lib.hid (HX1.out.wrote hw_ HNE.out (by decide));clear hb_ hw_;have x0V2:V2.cell? ⟨S,0,none⟩=some (.int .i64 1):=HX2.out.cell 0;have x1V2:V2.cell? ⟨S,1,none⟩=some (.string ⟨#[]⟩):=HX2.out.cell 1;have x2V2:V2.cell? ⟨S,2,none⟩=some (.int .i16 v):=HX2.out.cell 2;have x3V2:V2.cell? ⟨S,3,none⟩=some (.int .i64 0):=HX2.out.cell 3;have x4V2:V2.cell? ⟨S,4,none⟩=some (.slice p 0 c):=HX2.out.cell 4;have x5V2:V2.cell? ⟨S,5,none⟩=some (.int .i64 q):=HX2.out.cell 5))
  go_end0
  exact⟨rfl,by have h_:=HB2.out;simpa [app_list,List.append_assoc] using h_,HW2.out⟩
 ·rcases hk with rfl | rfl
  ·rw [tx2] at hlen ⊢
   show Calls Tryz.prog 101 #[PtrTo b,xv 2 s 0 0 p 0 c q] w fun e w'=>e=.returned (.tuple #[])∧BldT 70 [] N b (xs++s.data.toList) w'∧Wrote N b w w'
   have HLN:=Lib.hid hlen
   have hs1:s.size≤1048576:=hz.1
   clear hlen hX hz ih hb hE hB hok hs
   go_enter Tryz.func101,Tryz.ntmps101
   go_upto_region 1 with fail
   have hb1_:Blk w.heap.size [.int .i64 2,.string s,.int .i16 0,.int .i64 0,.slice p 0 c,.int .i64 q] 35 (w.alloc (Obj.cells #[.int .i64 2,.string s,.int .i16 0,.int .i64 0,.slice p 0 c,.int .i64 q] 35)):=Blk.new w _ _
   have hgV:Grew w (w.alloc (Obj.cells #[.int .i64 2,.string s,.int .i16 0,.int .i64 0,.slice p 0 c,.int .i64 q] 35)):=(Grew.refl w).alloc _
   have hne_:w.heap.size≠b:=by have:=HB.out.lt;omega
   generalize (w.alloc (Obj.cells #[.int .i64 2,.string s,.int .i16 0,.int .i64 0,.slice p 0 c,.int .i64 q] 35))=V0 at hb1_ hgV ⊢
   generalize w.heap.size=S at hb1_ hne_ ⊢
   have HW0:=Lib.hid (Wrote.of_grew (N:=N) (b:=b) hgV HNw.out)
   have HB0:=Lib.hid (HB.out.grew hgV)
   have HN0:=Lib.hid (Nat.le_trans HNw.out hgV.sz)
   have HX0:=Lib.hid hb1_
   have HNE:=Lib.hid hne_
   clear hb1_ hgV hne_
   have x0V0:V0.cell? ⟨S,0,none⟩=some (.int .i64 2):=HX0.out.cell 0
   have x1V0:V0.cell? ⟨S,1,none⟩=some (.string s):=HX0.out.cell 1
   have x2V0:V0.cell? ⟨S,2,none⟩=some (.int .i16 0):=HX0.out.cell 2
   have x3V0:V0.cell? ⟨S,3,none⟩=some (.int .i64 0):=HX0.out.cell 3
   have x4V0:V0.cell? ⟨S,4,none⟩=some (.slice p 0 c):=HX0.out.cell 4
   have x5V0:V0.cell? ⟨S,5,none⟩=some (.int .i64 q):=HX0.out.cell 5
   go_wp2_with (first
    | (go_at_call 93;(with_reducible refine(wstrS_any btB N b (xs) s V0 HB0.out (by have h_:=HLN.out;first | omega | (simp only [app_list,List.length_append,List.length_cons,List.length_nil] at h_ ⊢;omega) | (simp only [app_list,List.length_append,List.length_cons,List.length_nil] at h_ ⊢;done) | (simp [app_list,List.length_append] at h_ ⊢;omega)) HN0.out).mono ?_);rintro e V1 ⟨⟨v_0,rfl⟩,hb_,hw_⟩;have HW1:=Lib.hid (HW0.out.trans hw_);have HB1:=Lib.hid hb_;have HN1:=Lib.hid (Nat.le_trans HN0.out hw_.bel.size);have HX1:=Lib.hid (HX0.out.wrote hw_ HNE.out (by decide));clear hb_ hw_;have x0V1:V1.cell? ⟨S,0,none⟩=some (.int .i64 2):=HX1.out.cell 0;have x1V1:V1.cell? ⟨S,1,none⟩=some (.string s):=HX1.out.cell 1;have x2V1:V1.cell? ⟨S,2,none⟩=some (.int .i16 0):=HX1.out.cell 2;have x3V1:V1.cell? ⟨S,3,none⟩=some (.int .i64 0):=HX1.out.cell 3;have x4V1:V1.cell? ⟨S,4,none⟩=some (.slice p 0 c):=HX1.out.cell 4;have x5V1:V1.cell? ⟨S,5,none⟩=some (.int .i64 q):=HX1.out.cell 5))
   go_end0
   exact⟨rfl,by have h_:=HB1.out;simpa [app_list,List.append_assoc] using h_,HW1.out⟩
  ·rw [tx4] at hlen ⊢
   show Calls Tryz.prog 101 #[PtrTo b,xv 4 s 0 0 p 0 c q] w fun e w'=>e=.returned (.tuple #[])∧BldT 70 [] N b (xs++(([114,101,97,100,40]++s.data.toList)++[41])) w'∧Wrote N b w w'
   have HLN:=Lib.hid hlen
   have hs1:s.size≤1048576:=hz.1
   clear hlen hX hz ih hb hE hB hok hs
   go_enter Tryz.func101,Tryz.ntmps101
   go_upto_region 1 with fail
   have hb1_:Blk w.heap.size [.int .i64 4,.string s,.int .i16 0,.int .i64 0,.slice p 0 c,.int .i64 q] 35 (w.alloc (Obj.cells #[.int .i64 4,.string s,.int .i16 0,.int .i64 0,.slice p 0 c,.int .i64 q] 35)):=Blk.new w _ _
   have hgV:Grew w (w.alloc (Obj.cells #[.int .i64 4,.string s,.int .i16 0,.int .i64 0,.slice p 0 c,.int .i64 q] 35)):=(Grew.refl w).alloc _
   have hne_:w.heap.size≠b:=by have:=HB.out.lt;omega
   generalize (w.alloc (Obj.cells #[.int .i64 4,.string s,.int .i16 0,.int .i64 0,.slice p 0 c,.int .i64 q] 35))=V0 at hb1_ hgV ⊢
   generalize w.heap.size=S at hb1_ hne_ ⊢
   have HW0:=Lib.hid (Wrote.of_grew (N:=N) (b:=b) hgV HNw.out)
   have HB0:=Lib.hid (HB.out.grew hgV)
   have HN0:=Lib.hid (Nat.le_trans HNw.out hgV.sz)
   have HX0:=Lib.hid hb1_
   have HNE:=Lib.hid hne_
   clear hb1_ hgV hne_
   have x0V0:V0.cell? ⟨S,0,none⟩=some (.int .i64 4):=HX0.out.cell 0
   have x1V0:V0.cell? ⟨S,1,none⟩=some (.string s):=HX0.out.cell 1
   have x2V0:V0.cell? ⟨S,2,none⟩=some (.int .i16 0):=HX0.out.cell 2
   have x3V0:V0.cell? ⟨S,3,none⟩=some (.int .i64 0):=HX0.out.cell 3
   have x4V0:V0.cell? ⟨S,4,none⟩=some (.slice p 0 c):=HX0.out.cell 4
   have x5V0:V0.cell? ⟨S,5,none⟩=some (.int .i64 q):=HX0.out.cell 5
   go_wp2_with (first
    | (go_at_call 93;(with_reducible refine(wstrS_any btB N b (xs) ((⟨#[114,101,97,100,40]⟩:ByteArray)++s++⟨#[41]⟩) V0 HB0.out (by have h_:=HLN.out;first | omega | (simp only [app_list,List.length_append,List.length_cons,List.length_nil] at h_ ⊢;omega) | (simp only [app_list,List.length_append,List.length_cons,List.length_nil] at h_ ⊢;done) | (simp [app_list,List.length_append] at h_ ⊢;omega)) HN0.out).mono ?_);rintro e V1 ⟨⟨v_0,rfl⟩,hb_,hw_⟩;have HW1:=Lib.hid (HW0.out.trans hw_);have HB1:=Lib.hid hb_;have HN1:=Lib.hid (Nat.le_trans HN0.out hw_.bel.size);have HX1:=Lib.hid (HX0.out.wrote hw_ HNE.out (by decide));clear hb_ hw_;have x0V1:V1.cell? ⟨S,0,none⟩=some (.int .i64 4):=HX1.out.cell 0;have x1V1:V1.cell? ⟨S,1,none⟩=some (.string s):=HX1.out.cell 1;have x2V1:V1.cell? ⟨S,2,none⟩=some (.int .i16 0):=HX1.out.cell 2;have x3V1:V1.cell? ⟨S,3,none⟩=some (.int .i64 0):=HX1.out.cell 3;have x4V1:V1.cell? ⟨S,4,none⟩=some (.slice p 0 c):=HX1.out.cell 4;have x5V1:V1.cell? ⟨S,5,none⟩=some (.int .i64 q):=HX1.out.cell 5))
   go_end0
   exact⟨rfl,by have h_:=HB1.out;simpa [app_list,List.append_assoc] using h_,HW1.out⟩
 ·rw [tx3] at hlen ⊢
  have hIA:=ih a (by simp)
  replace hX:XL B w p c [a]:=hX
  obtain ⟨bz,oz,pa,ca,rfl,hba,haa,hca⟩:=hX.get 0 (by simp)
  obtain ⟨ka,sa,va,oa,ra,qa⟩:=a
  replace haa:XL B w pa ca ra:=haa
  replace hba:B bz∧sa.size≤1048576∧va≤32767:=hba
  have HAa:=Lib.hid haa
  have HZa:=Lib.hid hba.2
  have hcapa:ra.length≤ca:=haa.cap.1
  have hmaxa:=haa.cap.2.1
  have HCa:Hid (∀i_ u_,(xdc ⟨ka,sa,va,oa,pa,ra.length,ca,qa⟩)[i_]?=some u_→w.cell? ⟨bz,oz+0 * 6+i_,none⟩=some u_):=Lib.hid hca
  have HLT:Hid (bz < N):=Lib.hid (hB bz hba.1)
  clear haa hba hca
  show Calls Tryz.prog 101 #[PtrTo b,xv 3 s 0 0 (some ⟨bz,oz,none⟩) 1 c q] w fun e w'=>e=.returned (.tuple #[])∧BldT 70 [] N b (xs++((s.data.toList++[91])++txX ⟨ka,sa,va,oa,ra,qa⟩++[93])) w'∧Wrote N b w w'
  have HLN:=Lib.hid hlen
  have HIA:Hid (WxF ka sa va oa ra qa):=Lib.hid hIA
  have HOA:=Lib.hid ha
  have hs1:s.size≤1048576:=hz.1
  have hcp1:=hcap
  clear hlen hX hz ih hb hE hB hok hs hIA ha
  go_enter Tryz.func101,Tryz.ntmps101
  go_upto_region 1 with fail
  have hb1_:Blk w.heap.size [.int .i64 3,.string s,.int .i16 0,.int .i64 0,.slice (some ⟨bz,oz,none⟩) 1 c,.int .i64 q] 35 (w.alloc (Obj.cells #[.int .i64 3,.string s,.int .i16 0,.int .i64 0,.slice (some ⟨bz,oz,none⟩) 1 c,.int .i64 q] 35)):=Blk.new w _ _
  have hgV:Grew w (w.alloc (Obj.cells #[.int .i64 3,.string s,.int .i16 0,.int .i64 0,.slice (some ⟨bz,oz,none⟩) 1 c,.int .i64 q] 35)):=(Grew.refl w).alloc _
  have hne_:w.heap.size≠b:=by have:=HB.out.lt;omega
  generalize (w.alloc (Obj.cells #[.int .i64 3,.string s,.int .i16 0,.int .i64 0,.slice (some ⟨bz,oz,none⟩) 1 c,.int .i64 q] 35))=V0 at hb1_ hgV ⊢
  generalize w.heap.size=S at hb1_ hne_ ⊢
  have HW0:=Lib.hid (Wrote.of_grew (N:=N) (b:=b) hgV HNw.out)
  have HB0:=Lib.hid (HB.out.grew hgV)
  have HN0:=Lib.hid (Nat.le_trans HNw.out hgV.sz)
  have HX0:=Lib.hid hb1_
  have HNE:=Lib.hid hne_
  clear hb1_ hgV hne_
  have x0V0:V0.cell? ⟨S,0,none⟩=some (.int .i64 3):=HX0.out.cell 0
  have x1V0:V0.cell? ⟨S,1,none⟩=some (.string s):=HX0.out.cell 1
  have x2V0:V0.cell? ⟨S,2,none⟩=some (.int .i16 0):=HX0.out.cell 2
  have x3V0:V0.cell? ⟨S,3,none⟩=some (.int .i64 0):=HX0.out.cell 3
  have x4V0:V0.cell? ⟨S,4,none⟩=some (.slice (some ⟨bz,oz,none⟩) 1 c):=HX0.out.cell 4
  have x5V0:V0.cell? ⟨S,5,none⟩=some (.int .i64 q):=HX0.out.cell 5
  have bw_aV0:=HW0.out.bel
  have a0V0:V0.cell? ⟨bz,oz,none⟩=some (.int .i64 ka):=(by simpa [Nat.add_assoc] using below_cell bw_aV0 HLT.out (HCa.out 0 _ rfl))
  have a1V0:V0.cell? ⟨bz,oz+1,none⟩=some (.string sa):=(by simpa [Nat.add_assoc] using below_cell bw_aV0 HLT.out (HCa.out 1 _ rfl))
  have a2V0:V0.cell? ⟨bz,oz+2,none⟩=some (.int .i16 va):=(by simpa [Nat.add_assoc] using below_cell bw_aV0 HLT.out (HCa.out 2 _ rfl))
  have a3V0:V0.cell? ⟨bz,oz+3,none⟩=some (.int .i64 oa):=(by simpa [Nat.add_assoc] using below_cell bw_aV0 HLT.out (HCa.out 3 _ rfl))
  have a4V0:V0.cell? ⟨bz,oz+4,none⟩=some (.slice pa ra.length ca):=(by simpa [Nat.add_assoc] using below_cell bw_aV0 HLT.out (HCa.out 4 _ rfl))
  have a5V0:V0.cell? ⟨bz,oz+5,none⟩=some (.int .i64 qa):=(by simpa [Nat.add_assoc] using below_cell bw_aV0 HLT.out (HCa.out 5 _ rfl))
  go_wp2_with (first
   | (go_at_call 93;(with_reducible refine(wstrS_any btB N b (xs) (s++⟨#[91]⟩) V0 HB0.out (by have h_:=HLN.out;first | omega | (simp only [app_list,List.length_append,List.length_cons,List.length_nil] at h_ ⊢;omega) | (simp only [app_list,List.length_append,List.length_cons,List.length_nil] at h_ ⊢;done) | (simp [app_list,List.length_append] at h_ ⊢;omega)) HN0.out).mono ?_);rintro e V1 ⟨⟨v_0,rfl⟩,hb_,hw_⟩;have HW1:=Lib.hid (HW0.out.trans hw_);have HB1:=Lib.hid hb_;have HN1:=Lib.hid (Nat.le_trans HN0.out hw_.bel.size);have HX1:=Lib.hid (HX0.out.wrote hw_ HNE.out (by decide));clear hb_ hw_;have x0V1:V1.cell? ⟨S,0,none⟩=some (.int .i64 3):=HX1.out.cell 0;have x1V1:V1.cell? ⟨S,1,none⟩=some (.string s):=HX1.out.cell 1;have x2V1:V1.cell? ⟨S,2,none⟩=some (.int .i16 0):=HX1.out.cell 2;have x3V1:V1.cell? ⟨S,3,none⟩=some (.int .i64 0):=HX1.out.cell 3;have x4V1:V1.cell? ⟨S,4,none⟩=some (.slice (some ⟨bz,oz,none⟩) 1 c):=HX1.out.cell 4;have x5V1:V1.cell? ⟨S,5,none⟩=some (.int .i64 q):=HX1.out.cell 5;have bw_aV1:=HW1.out.bel;have a0V1:V1.cell? ⟨bz,oz,none⟩=some (.int .i64 ka):=(by simpa [Nat.add_assoc] using below_cell bw_aV1 HLT.out (HCa.out 0 _ rfl));have a1V1:V1.cell? ⟨bz,oz+1,none⟩=some (.string sa):=(by simpa [Nat.add_assoc] using below_cell bw_aV1 HLT.out (HCa.out 1 _ rfl));have a2V1:V1.cell? ⟨bz,oz+2,none⟩=some (.int .i16 va):=(by simpa [Nat.add_assoc] using below_cell bw_aV1 HLT.out (HCa.out 2 _ rfl));have a3V1:V1.cell? ⟨bz,oz+3,none⟩=some (.int .i64 oa):=(by simpa [Nat.add_assoc] using below_cell bw_aV1 HLT.out (HCa.out 3 _ rfl));have a4V1:V1.cell? ⟨bz,oz+4,none⟩=some (.slice pa ra.length ca):=(by simpa [Nat.add_assoc] using below_cell bw_aV1 HLT.out (HCa.out 4 _ rfl));have a5V1:V1.cell? ⟨bz,oz+5,none⟩=some (.int .i64 qa):=(by simpa [Nat.add_assoc] using below_cell bw_aV1 HLT.out (HCa.out 5 _ rfl)))
   | (go_at_call 101;(with_reducible refine(HIA.out N b (xs++(s++⟨#[91]⟩).data.toList) B V1 pa ca HB1.out HN1.out HBN.out (HAa.out.below HBN.out HW1.out.bel) HZa.out (HE.out.wrote HW1.out) HOA.out (by have h_:=HLN.out;first | omega | (simp only [app_list,List.length_append,List.length_cons,List.length_nil] at h_ ⊢;omega) | (simp only [app_list,List.length_append,List.length_cons,List.length_nil] at h_ ⊢;done) | (simp [app_list,List.length_append] at h_ ⊢;omega))).mono ?_);rintro e V2 ⟨rfl,hb_,hw_⟩;have HW2:=Lib.hid (HW1.out.trans hw_);have HB2:=Lib.hid hb_;have HN2:=Lib.hid (Nat.le_trans HN1.out hw_.bel.size);have HX2:=Lib.hid (HX1.out.wrote hw_ HNE.out (by decide));clear hb_ hw_;have x0V2:V2.cell? ⟨S,0,none⟩=some (.int .i64 3):=HX2.out.cell 0;have x1V2:V2.cell? ⟨S,1,none⟩=some (.string s):=HX2.out.cell 1;have x2V2:V2.cell? ⟨S,2,none⟩=some (.int .i16 0):=HX2.out.cell 2;have x3V2:V2.cell? ⟨S,3,none⟩=some (.int .i64 0):=HX2.out.cell 3;have x4V2:V2.cell? ⟨S,4,none⟩=some (.slice (some ⟨bz,oz,none⟩) 1 c):=HX2.out.cell 4;have x5V2:V2.cell? ⟨S,5,none⟩=some (.int .i64 q):=HX2.out.cell 5;have bw_aV2:=HW2.out.bel;have a0V2:V2.cell? ⟨bz,oz,none⟩=some (.int .i64 ka):=(by simpa [Nat.add_assoc] using below_cell bw_aV2 HLT.out (HCa.out 0 _ rfl));have a1V2:V2.cell? ⟨bz,oz+1,none⟩=some (.string sa):=(by simpa [Nat.add_assoc] using below_cell bw_aV2 HLT.out (HCa.out 1 _ rfl));have a2V2:V2.cell? ⟨bz,oz+2,none⟩=some (.int .i16 va):=(by simpa [Nat.add_assoc] using below_cell bw_aV2 HLT.out (HCa.out 2 _ rfl));have a3V2:V2.cell? ⟨bz,oz+3,none⟩=some (.int .i64 oa):=(by simpa [Nat.add_assoc] using below_cell bw_aV2 HLT.out (HCa.out 3 _ rfl));have a4V2:V2.cell? ⟨bz,oz+4,none⟩=some (.slice pa ra.length ca):=(by simpa [Nat.add_assoc] using below_cell bw_aV2 HLT.out (HCa.out 4 _ rfl));have a5V2:V2.cell? ⟨bz,oz+5,none⟩=some (.int .i64 qa):=(by simpa [Nat.add_assoc] using below_cell bw_aV2 HLT.out (HCa.out 5 _ rfl)))
   | (go_at_call 93;(with_reducible refine(wstrS_any btB N b (xs++(s++⟨#[91]⟩).data.toList++txX ⟨ka,sa,va,oa,ra,qa⟩) ⟨#[93]⟩ V2 HB2.out (by have h_:=HLN.out;first | omega | (simp only [app_list,List.length_append,List.length_cons,List.length_nil] at h_ ⊢;omega) | (simp only [app_list,List.length_append,List.length_cons,List.length_nil] at h_ ⊢;done) | (simp [app_list,List.length_append] at h_ ⊢;omega)) HN2.out).mono ?_);rintro e V3 ⟨⟨v_2,rfl⟩,hb_,hw_⟩;have HW3:=Lib.hid (HW2.out.trans hw_);have HB3:=Lib.hid hb_;have HN3:=Lib.hid (Nat.le_trans HN2.out hw_.bel.size);have HX3:=Lib.hid (HX2.out.wrote hw_ HNE.out (by decide));clear hb_ hw_;have x0V3:V3.cell? ⟨S,0,none⟩=some (.int .i64 3):=HX3.out.cell 0;have x1V3:V3.cell? ⟨S,1,none⟩=some (.string s):=HX3.out.cell 1;have x2V3:V3.cell? ⟨S,2,none⟩=some (.int .i16 0):=HX3.out.cell 2;have x3V3:V3.cell? ⟨S,3,none⟩=some (.int .i64 0):=HX3.out.cell 3;have x4V3:V3.cell? ⟨S,4,none⟩=some (.slice (some ⟨bz,oz,none⟩) 1 c):=HX3.out.cell 4;have x5V3:V3.cell? ⟨S,5,none⟩=some (.int .i64 q):=HX3.out.cell 5;have bw_aV3:=HW3.out.bel;have a0V3:V3.cell? ⟨bz,oz,none⟩=some (.int .i64 ka):=(by simpa [Nat.add_assoc] using below_cell bw_aV3 HLT.out (HCa.out 0 _ rfl));have a1V3:V3.cell? ⟨bz,oz+1,none⟩=some (.string sa):=(by simpa [Nat.add_assoc] using below_cell bw_aV3 HLT.out (HCa.out 1 _ rfl));have a2V3:V3.cell? ⟨bz,oz+2,none⟩=some (.int .i16 va):=(by simpa [Nat.add_assoc] using below_cell bw_aV3 HLT.out (HCa.out 2 _ rfl));have a3V3:V3.cell? ⟨bz,oz+3,none⟩=some (.int .i64 oa):=(by simpa [Nat.add_assoc] using below_cell bw_aV3 HLT.out (HCa.out 3 _ rfl));have a4V3:V3.cell? ⟨bz,oz+4,none⟩=some (.slice pa ra.length ca):=(by simpa [Nat.add_assoc] using below_cell bw_aV3 HLT.out (HCa.out 4 _ rfl));have a5V3:V3.cell? ⟨bz,oz+5,none⟩=some (.int .i64 qa):=(by simpa [Nat.add_assoc] using below_cell bw_aV3 HLT.out (HCa.out 5 _ rfl))))
  go_end0
  exact⟨rfl,by have h_:=HB3.out;simpa [app_list,List.append_assoc] using h_,HW3.out⟩
 ·rw [tx5] at hlen ⊢
  have hIA:=ih a (by simp)
  replace hX:XL B w p c [a]:=hX
  have ho15:1≤o∧o≤15:=by omega
  have hlo:o=1∨o=2:=ho
  obtain ⟨bz,oz,pa,ca,rfl,hba,haa,hca⟩:=hX.get 0 (by simp)
  obtain ⟨ka,sa,va,oa,ra,qa⟩:=a
  replace haa:XL B w pa ca ra:=haa
  replace hba:B bz∧sa.size≤1048576∧va≤32767:=hba
  have HAa:=Lib.hid haa
  have HZa:=Lib.hid hba.2
  have hcapa:ra.length≤ca:=haa.cap.1
  have hmaxa:=haa.cap.2.1
  have HCa:Hid (∀i_ u_,(xdc ⟨ka,sa,va,oa,pa,ra.length,ca,qa⟩)[i_]?=some u_→w.cell? ⟨bz,oz+0 * 6+i_,none⟩=some u_):=Lib.hid hca
  have HLT:Hid (bz < N):=Lib.hid (hB bz hba.1)
  clear haa hba hca
  obtain ⟨on,rfl⟩:∃m:Nat,o=(m:Int):=⟨o.toNat,by omega⟩
  have t0_:w.cell? ⟨1,on * 2,none⟩=some (.string ⟨(sgT (on:Int)).toArray⟩):=hE.env.op on (by omega) (by omega) 0 rfl
  have t1_:w.cell? ⟨1,on * 2+1,none⟩=some (.int .i64 (lvO (on:Int))):=hE.env.op on (by omega) (by omega) 1 rfl
  have hgo:1 < N:=hE.2 _ (by decide)
  have b1_:(on:Int) < 16:=by omega
  have b2_:(0:Int)≤(on:Int):=by omega
  have hl6:lvO (on:Int)=6:=by rw [lvO,if_pos (by omega)]
  show Calls Tryz.prog 101 #[PtrTo b,xv 5 ⟨#[]⟩ 0 (on:Int) (some ⟨bz,oz,none⟩) 1 c q] w fun e w'=>e=.returned (.tuple #[])∧BldT 70 [] N b (xs++(sgT (on:Int)++opd 6 ka oa (txX ⟨ka,sa,va,oa,ra,qa⟩))) w'∧Wrote N b w w'
  replace hlen:xs.length+(sgT (on:Int)++opd 6 ka oa (txX ⟨ka,sa,va,oa,ra,qa⟩)).length≤140737488355328:=hlen
  have HLN:=Lib.hid hlen
  have HIA:Hid (OpF ka sa va oa ra qa):=Lib.hid (operand_wx _ hIA)
  have HOA:=Lib.hid ha
  have HLO:Hid (lvO (on:Int)≤6):=Lib.hid (by omega)
  have HL6:=Lib.hid hl6
  have HT0:=Lib.hid t0_
  have HT1:=Lib.hid t1_
  have HGO:=Lib.hid hgo
  clear hlen hX hz ih hb hE hB hok hIA ha ho hlo ho15 hl6 t0_ t1_ hgo
  go_enter Tryz.func101,Tryz.ntmps101
  go_upto_region 1 with fail
  have hb1_:Blk w.heap.size [.int .i64 5,.string ⟨#[]⟩,.int .i16 0,.int .i64 (on:Int),.slice (some ⟨bz,oz,none⟩) 1 c,.int .i64 q] 35 (w.alloc (Obj.cells #[.int .i64 5,.string ⟨#[]⟩,.int .i16 0,.int .i64 (on:Int),.slice (some ⟨bz,oz,none⟩) 1 c,.int .i64 q] 35)):=Blk.new w _ _
  have hgV:Grew w (w.alloc (Obj.cells #[.int .i64 5,.string ⟨#[]⟩,.int .i16 0,.int .i64 (on:Int),.slice (some ⟨bz,oz,none⟩) 1 c,.int .i64 q] 35)):=(Grew.refl w).alloc _
  have hne_:w.heap.size≠b:=by have:=HB.out.lt;omega
  generalize (w.alloc (Obj.cells #[.int .i64 5,.string ⟨#[]⟩,.int .i16 0,.int .i64 (on:Int),.slice (some ⟨bz,oz,none⟩) 1 c,.int .i64 q] 35))=V0 at hb1_ hgV ⊢
  generalize w.heap.size=S at hb1_ hne_ ⊢
  have HW0:=Lib.hid (Wrote.of_grew (N:=N) (b:=b) hgV HNw.out)
  have HB0:=Lib.hid (HB.out.grew hgV)
  have HN0:=Lib.hid (Nat.le_trans HNw.out hgV.sz)
  have HX0:=Lib.hid hb1_
  have HNE:=Lib.hid hne_
  clear hb1_ hgV hne_
  have x0V0:V0.cell? ⟨S,0,none⟩=some (.int .i64 5):=HX0.out.cell 0
  have x1V0:V0.cell? ⟨S,1,none⟩=some (.string ⟨#[]⟩):=HX0.out.cell 1
  have x2V0:V0.cell? ⟨S,2,none⟩=some (.int .i16 0):=HX0.out.cell 2
  have x3V0:V0.cell? ⟨S,3,none⟩=some (.int .i64 (on:Int)):=HX0.out.cell 3
  have x4V0:V0.cell? ⟨S,4,none⟩=some (.slice (some ⟨bz,oz,none⟩) 1 c):=HX0.out.cell 4
  have x5V0:V0.cell? ⟨S,5,none⟩=some (.int .i64 q):=HX0.out.cell 5
  have bw_aV0:=HW0.out.bel
  have a0V0:V0.cell? ⟨bz,oz,none⟩=some (.int .i64 ka):=(by simpa [Nat.add_assoc] using below_cell bw_aV0 HLT.out (HCa.out 0 _ rfl))
  have a1V0:V0.cell? ⟨bz,oz+1,none⟩=some (.string sa):=(by simpa [Nat.add_assoc] using below_cell bw_aV0 HLT.out (HCa.out 1 _ rfl))
  have a2V0:V0.cell? ⟨bz,oz+2,none⟩=some (.int .i16 va):=(by simpa [Nat.add_assoc] using below_cell bw_aV0 HLT.out (HCa.out 2 _ rfl))
  have a3V0:V0.cell? ⟨bz,oz+3,none⟩=some (.int .i64 oa):=(by simpa [Nat.add_assoc] using below_cell bw_aV0 HLT.out (HCa.out 3 _ rfl))
  have a4V0:V0.cell? ⟨bz,oz+4,none⟩=some (.slice pa ra.length ca):=(by simpa [Nat.add_assoc] using below_cell bw_aV0 HLT.out (HCa.out 4 _ rfl))
  have a5V0:V0.cell? ⟨bz,oz+5,none⟩=some (.int .i64 qa):=(by simpa [Nat.add_assoc] using below_cell bw_aV0 HLT.out (HCa.out 5 _ rfl))
  have t0V:V0.cell? ⟨1,on * 2,none⟩=some (.string ⟨(sgT (on:Int)).toArray⟩):=below_cell HW0.out.bel HGO.out HT0.out
  have t1V:V0.cell? ⟨1,on * 2+1,none⟩=some (.int .i64 (lvO (on:Int))):=below_cell HW0.out.bel HGO.out HT1.out
  have b3_:1 < V0.heap.size:=World.block_lt_of_cell? _ _ t0V
  go_upto_region 14 with fail
  have hb1_:Blk V0.heap.size [.string ⟨(sgT (on:Int)).toArray⟩,.int .i64 (lvO (on:Int))] 151 (V0.alloc (Obj.cells #[.string ⟨(sgT (on:Int)).toArray⟩,.int .i64 (lvO (on:Int))] 151)):=Blk.new V0 _ _
  have hgV:Grew V0 (V0.alloc (Obj.cells #[.string ⟨(sgT (on:Int)).toArray⟩,.int .i64 (lvO (on:Int))] 151)):=(Grew.refl V0).alloc _
  have hne_:V0.heap.size≠b:=by have:=HB0.out.lt;omega
  generalize (V0.alloc (Obj.cells #[.string ⟨(sgT (on:Int)).toArray⟩,.int .i64 (lvO (on:Int))] 151))=V1 at hb1_ hgV ⊢
  generalize V0.heap.size=O at hb1_ hne_ ⊢
  have HW1:=Lib.hid (HW0.out.grew hgV HNw.out)
  have HB1:=Lib.hid (HB0.out.grew hgV)
  have HN1:=Lib.hid (Nat.le_trans HN0.out hgV.sz)
  have HX1:=Lib.hid (HX0.out.grew hgV)
  have HO1:=Lib.hid hb1_
  have HNO:=Lib.hid hne_
  clear hb1_ hgV hne_
  have y0V1:V1.cell? ⟨O,0,none⟩=some (.string ⟨(sgT (on:Int)).toArray⟩):=HO1.out.cell 0
  have y1V1:V1.cell? ⟨O,1,none⟩=some (.int .i64 (lvO (on:Int))):=HO1.out.cell 1
  have x0V1:V1.cell? ⟨S,0,none⟩=some (.int .i64 5):=HX1.out.cell 0
  have x1V1:V1.cell? ⟨S,1,none⟩=some (.string ⟨#[]⟩):=HX1.out.cell 1
  have x2V1:V1.cell? ⟨S,2,none⟩=some (.int .i16 0):=HX1.out.cell 2
  have x3V1:V1.cell? ⟨S,3,none⟩=some (.int .i64 (on:Int)):=HX1.out.cell 3
  have x4V1:V1.cell? ⟨S,4,none⟩=some (.slice (some ⟨bz,oz,none⟩) 1 c):=HX1.out.cell 4
  have x5V1:V1.cell? ⟨S,5,none⟩=some (.int .i64 q):=HX1.out.cell 5
  go_upto_region 15 with (go_at_call 93;(with_reducible refine(wstr_any btB N b xs (sgT (on:Int)) V1 HB1.out (by have h_:=HLN.out;first | omega | (simp only [app_list,List.length_append,List.length_cons,List.length_nil] at h_ ⊢;omega) | (simp only [app_list,List.length_append,List.length_cons,List.length_nil] at h_ ⊢;done) | (simp [app_list,List.length_append] at h_ ⊢;omega)) HN1.out).mono ?_);rintro e V2 ⟨⟨v_1,rfl⟩,hb_,hw_⟩;have HW2:=Lib.hid (HW1.out.trans hw_);have HB2:=Lib.hid hb_;have HN2:=Lib.hid (Nat.le_trans HN1.out hw_.bel.size);have HX2:=Lib.hid (HX1.out.wrote hw_ HNE.out (by decide));have HO2:=Lib.hid (HO1.out.wrote hw_ HNO.out (by decide));clear hb_ hw_)
  have d3:Atv ⟨S,3,none⟩ (.int .i64 (on:Int)) V2.drew:=(HX2.out.grew (Grew.refl _).drw).atv 3 rfl
  have d4:Atv ⟨S,4,none⟩ (.slice (some ⟨bz,oz,none⟩) 1 c) V2.drew:=(HX2.out.grew (Grew.refl _).drw).atv 4 rfl
  have l0:Atv ⟨O,0,none⟩ (.string ⟨(sgT (on:Int)).toArray⟩) V2.drew:=(HO2.out.grew (Grew.refl _).drw).atv 0 rfl
  have l1:Atv ⟨O,1,none⟩ (.int .i64 (lvO (on:Int))) V2.drew:=(HO2.out.grew (Grew.refl _).drw).atv 1 rfl
  have bw_:Below N w V2.drew:=Below.drew HW2.out.bel
  have a0:Atv ⟨bz,oz+0 * 6,none⟩ (.int .i64 ka) V2.drew:=below_cell bw_ HLT.out (HCa.out 0 _ rfl)
  have a1:Atv ⟨bz,oz+0 * 6+1,none⟩ (.string sa) V2.drew:=below_cell bw_ HLT.out (HCa.out 1 _ rfl)
  have a2:Atv ⟨bz,oz+0 * 6+2,none⟩ (.int .i16 va) V2.drew:=below_cell bw_ HLT.out (HCa.out 2 _ rfl)
  have a3:Atv ⟨bz,oz+0 * 6+3,none⟩ (.int .i64 oa) V2.drew:=below_cell bw_ HLT.out (HCa.out 3 _ rfl)
  have a4:Atv ⟨bz,oz+0 * 6+4,none⟩ (.slice pa ra.length ca) V2.drew:=below_cell bw_ HLT.out (HCa.out 4 _ rfl)
  have a5:Atv ⟨bz,oz+0 * 6+5,none⟩ (.int .i64 qa) V2.drew:=below_cell bw_ HLT.out (HCa.out 5 _ rfl)
  refine wp_grew_tail 7 [some 55,some 56,some 57,some 58,some 59,some 60,some 61] [Zf,Zf,Zf,Zf,Zf,Zf,Zf,Zf,Zf,Zf,Zf,Zf,Zf,Zf,Zf,Zf,Zf,Zf,Zf,Zf,Zf,Zf,Zf,Zf,Zf,Zf,Zf,Zf,Zf,Zf,Zf,Zf,Zf,Zf,Zf,Zf,Zf,Zf,Zf,Zf,Zf,Zf,Zf,Zf,Zf,Zf,Zf,Zf,Zf,Zf,Zf,Zf,Zf,Zf,Zf,Zt,Zt,Zt,Zt,Zt,Zt,Zt,Zf,Zf,Zf,Zf,Zf,Zf,Zf,Zf,Zf,Zf,Zf,Zf,Zf,Zf,Zf,Zf,Zf,Zf,Zf,Zf,Zf,Zf,Zf,Zf,Zf,Zf,Zf,Zf,Zf,Zf] [fun v _=>v=.pointer (some ⟨b,0,none⟩),fun v _=>v=.pointer (some ⟨S,4,none⟩),fun v _=>v=.slice (some ⟨bz,oz,none⟩) (1) (c),fun v _=>v=.pointer (some ⟨bz,oz+0 * 6,none⟩),fun v _=>v=.agg #[.int .i64 (ka),.string sa,.int .i16 (va),.int .i64 (oa),.slice pa ra.length ca,.int .i64 (qa)],fun v _=>v=.pointer (some ⟨O,1,none⟩),fun v _=>v=.int .i64 (lvO (on:Int))] (by kernel_rfl) (by kernel_rfl) (by kernel_rfl) rfl ?_ ⟨?_,?_,?_,?_,?_,?_,?_,trivial⟩ ?_
  ·exact⟨Zi,Zi,Zi,Zi,Zi,Zi,Zi,trivial⟩
  ·intro u w hR hd;exact runs_mv (ev rfl) Zr
  ·intro u w hR hd;exact rn_fld_35_4 (ev rfl) Zr
  ·intro u w hR hd;exact rn_ld_33 (ev (hd.1 rfl)) (d4.kept hR) Zr
  ·intro u w hR hd;exact rn_idx_33 (0) (ev (hd.1 rfl)) rfl (by omega) Zr
  ·intro u w hR hd;exact rn_ld_35 (ev (hd.1 rfl)) (a0.kept hR) (a1.kept hR) (a2.kept hR) (a3.kept hR) (a4.kept hR) (a5.kept hR) Zr
  ·intro u w hR hd;exact rn_fld_151_1 (ev rfl) Zr
  ·intro u w hR hd;exact rn_ld_3 (ev (hd.1 rfl)) (l1.kept hR) Zr
  ·intro u w5 hR5 h
   have e0:u 55=PtrTo b:=h 0 (by decide)
   have e4:u 59=.agg #[.int .i64 (ka),.string sa,.int .i16 (va),.int .i64 (oa),.slice pa ra.length ca,.int .i64 (qa)]:=h 4 (by decide)
   have e6:u 61=.int .i64 (lvO (on:Int)):=h 6 (by decide)
   have g5:Grew V2 w5:=(Grew.refl V2).drw.trans hR5
   have HW5:=Lib.hid (HW2.out.grew g5 HNw.out)
   have HB5:=Lib.hid (HB2.out.grew g5)
   have HN5:=Lib.hid (Nat.le_trans HN2.out g5.sz)
   have HX5:=Lib.hid (HX2.out.grew g5)
   have HO5:=Lib.hid (HO2.out.grew g5)
   refine wpAny_one (i:=7) (some 62) (by kernel_rfl) rfl rfl rfl (runs_c3 en_wo (ev e0) (ev e4) (ev e6) ((HIA.out (lvO (on:Int)) N b (xs++sgT (on:Int)) B w5 pa ca HB5.out HN5.out HBN.out (HAa.out.below HBN.out HW5.out.bel) HZa.out (HE.out.wrote HW5.out) HOA.out (by rw [HL6.out];exact(by have h_:=HLN.out;first | omega | (simp only [app_list,List.length_append,List.length_cons,List.length_nil] at h_ ⊢;omega) | (simp only [app_list,List.length_append,List.length_cons,List.length_nil] at h_ ⊢;done) | (simp [app_list,List.length_append] at h_ ⊢;omega)))).mono ?_))
   rintro e_ V3 ⟨rfl,hb_,hw_⟩
   refine⟨_,rfl,?_⟩
   refine wpAny_done (by kernel_rfl) ?_ _
   simp only [zz1,zz2,zz3,Act.put,mixA,mixL,zz9,zz0,zz4,zz5,zz6]
   try simp only [Nat.zero_add,Nat.reduceAdd]
   have HW3:=Lib.hid (HW5.out.trans hw_)
   have HB3:=Lib.hid hb_
   have HN3:=Lib.hid (Nat.le_trans HN5.out hw_.bel.size)
   have HX3:=Lib.hid (HX5.out.wrote hw_ HNE.out (by decide))
   have HO3:=Lib.hid (HO5.out.wrote hw_ HNO.out (by decide))
   clear h hR5 g5 hb_ hw_ e0 e4 e6 HW5 HB5 HN5 HX5 HO5 d3 d4 l0 l1 bw_ a0 a1 a2 a3 a4 a5
   generalize u 55=z55
   generalize u 56=z56
   generalize u 57=z57
   generalize u 58=z58
   generalize u 59=z59
   generalize u 60=z60
   generalize u 61=z61
   go_wp2
   go_end0
   exact⟨rfl,by have h_:=HB3.out;rw [HL6.out] at h_;rw [← List.append_assoc];exact h_,HW3.out⟩
 ·rw [tx6] at hlen ⊢
  have hIA:=ih a (by simp)
  have hIB:=ih b' (by simp)
  replace hX:XL B w p c [a,b']:=hX
  have ho15:1≤o∧o≤15:=by omega
  obtain ⟨bz,oz,pa,ca,rfl,hba,haa,hca⟩:=hX.get 0 (by simp)
  obtain ⟨bz1,oz1,pb,cb,he1,hbb,hab,hcb⟩:=hX.get 1 (by simp)
  obtain ⟨rfl,rfl⟩:bz=bz1∧oz=oz1:=by simpa using he1
  obtain ⟨ka,sa,va,oa,ra,qa⟩:=a
  replace haa:XL B w pa ca ra:=haa
  replace hba:B bz∧sa.size≤1048576∧va≤32767:=hba
  have HAa:=Lib.hid haa
  have HZa:=Lib.hid hba.2
  have hcapa:ra.length≤ca:=haa.cap.1
  have hmaxa:=haa.cap.2.1
  have HCa:Hid (∀i_ u_,(xdc ⟨ka,sa,va,oa,pa,ra.length,ca,qa⟩)[i_]?=some u_→w.cell? ⟨bz,oz+0 * 6+i_,none⟩=some u_):=Lib.hid hca
  obtain ⟨kb,sb,vb,ob,rb,qb⟩:=b'
  replace hab:XL B w pb cb rb:=hab
  replace hbb:B bz∧sb.size≤1048576∧vb≤32767:=hbb
  have HAb:=Lib.hid hab
  have HZb:=Lib.hid hbb.2
  have hcapb:rb.length≤cb:=hab.cap.1
  have hmaxb:=hab.cap.2.1
  have HCb:Hid (∀i_ u_,(xdc ⟨kb,sb,vb,ob,pb,rb.length,cb,qb⟩)[i_]?=some u_→w.cell? ⟨bz,oz+1 * 6+i_,none⟩=some u_):=Lib.hid hcb
  have HLT:Hid (bz < N):=Lib.hid (hB bz hba.1)
  clear haa hba hca hab hbb hcb
  obtain ⟨on,rfl⟩:∃m:Nat,o=(m:Int):=⟨o.toNat,by omega⟩
  have t0_:w.cell? ⟨1,on * 2,none⟩=some (.string ⟨(sgT (on:Int)).toArray⟩):=hE.env.op on (by omega) (by omega) 0 rfl
  have t1_:w.cell? ⟨1,on * 2+1,none⟩=some (.int .i64 (lvO (on:Int))):=hE.env.op on (by omega) (by omega) 1 rfl
  have hgo:1 < N:=hE.2 _ (by decide)
  have b1_:(on:Int) < 16:=by omega
  have b2_:(0:Int)≤(on:Int):=by omega
  have hl6:lvO (on:Int)=lvT (on:Int):=by rw [lvO,if_neg (by omega)]
  show Calls Tryz.prog 101 #[PtrTo b,xv 6 ⟨#[]⟩ 0 (on:Int) (some ⟨bz,oz,none⟩) 2 c q] w fun e w'=>e=.returned (.tuple #[])∧BldT 70 [] N b (xs++(((((opd (lfT (on:Int)) ka oa (txX ⟨ka,sa,va,oa,ra,qa⟩))++[32])++sgT (on:Int))++[32])++opd (lvT (on:Int)+1) kb ob (txX ⟨kb,sb,vb,ob,rb,qb⟩))) w'∧Wrote N b w w'
  replace hlen:xs.length+((((((opd (lfT (on:Int)) ka oa (txX ⟨ka,sa,va,oa,ra,qa⟩))++[32])++sgT (on:Int))++[32])++opd (lvT (on:Int)+1) kb ob (txX ⟨kb,sb,vb,ob,rb,qb⟩))).length≤140737488355328:=hlen
  have HLN:=Lib.hid hlen
  have HIA:Hid (OpF ka sa va oa ra qa):=Lib.hid (operand_wx _ hIA)
  have HIB:Hid (OpF kb sb vb ob rb qb):=Lib.hid (operand_wx _ hIB)
  have HOA:=Lib.hid ha
  have HOB:=Lib.hid hb'
  have hlv:=(opF_lv (opF_sg ho).1)
  have HLO:Hid (1≤lvO (on:Int)∧lvO (on:Int)≤6):=Lib.hid (by omega)
  have HL6:=Lib.hid hl6
  have HLF:Hid ((if lvO (on:Int)=3 then 4 else lvO (on:Int))=lfT (on:Int)):=Lib.hid (by rw [hl6,lfT])
  have HSG:Hid ((⟨(sgT (on:Int)).toArray⟩:ByteArray).data.toList.length=(sgT (on:Int)).length∧(⟨#[32]⟩:ByteArray).data.toList.length=1):=Lib.hid ⟨by simp,rfl⟩
  have hsg1:(⟨(sgT (on:Int)).toArray⟩:ByteArray).size≤2:=by have:=sgT_len (on:Int);show (sgT (on:Int)).toArray.size≤2;rw [List.size_toArray];exact this
  have HSZ:=Lib.hid hsg1
  have HT0:=Lib.hid t0_
  have HT1:=Lib.hid t1_
  have HGO:=Lib.hid hgo
  clear hlen hX hz ih hb hE hB hok hIA hIB ha hb' ho ho15 hl6 t0_ t1_ hgo hlv
  go_enter Tryz.func101,Tryz.ntmps101
  go_upto_region 1 with fail
  have hb1_:Blk w.heap.size [.int .i64 6,.string ⟨#[]⟩,.int .i16 0,.int .i64 (on:Int),.slice (some ⟨bz,oz,none⟩) 2 c,.int .i64 q] 35 (w.alloc (Obj.cells #[.int .i64 6,.string ⟨#[]⟩,.int .i16 0,.int .i64 (on:Int),.slice (some ⟨bz,oz,none⟩) 2 c,.int .i64 q] 35)):=Blk.new w _ _
  have hgV:Grew w (w.alloc (Obj.cells #[.int .i64 6,.string ⟨#[]⟩,.int .i16 0,.int .i64 (on:Int),.slice (some ⟨bz,oz,none⟩) 2 c,.int .i64 q] 35)):=(Grew.refl w).alloc _
  have hne_:w.heap.size≠b:=by have:=HB.out.lt;omega
  generalize (w.alloc (Obj.cells #[.int .i64 6,.string ⟨#[]⟩,.int .i16 0,.int .i64 (on:Int),.slice (some ⟨bz,oz,none⟩) 2 c,.int .i64 q] 35))=V0 at hb1_ hgV ⊢
  generalize w.heap.size=S at hb1_ hne_ ⊢
  have HW0:=Lib.hid (Wrote.of_grew (N:=N) (b:=b) hgV HNw.out)
  have HB0:=Lib.hid (HB.out.grew hgV)
  have HN0:=Lib.hid (Nat.le_trans HNw.out hgV.sz)
  have HX0:=Lib.hid hb1_
  have HNE:=Lib.hid hne_
  clear hb1_ hgV hne_
  have x0V0:V0.cell? ⟨S,0,none⟩=some (.int .i64 6):=HX0.out.cell 0
  have x1V0:V0.cell? ⟨S,1,none⟩=some (.string ⟨#[]⟩):=HX0.out.cell 1
  have x2V0:V0.cell? ⟨S,2,none⟩=some (.int .i16 0):=HX0.out.cell 2
  have x3V0:V0.cell? ⟨S,3,none⟩=some (.int .i64 (on:Int)):=HX0.out.cell 3
  have x4V0:V0.cell? ⟨S,4,none⟩=some (.slice (some ⟨bz,oz,none⟩) 2 c):=HX0.out.cell 4
  have x5V0:V0.cell? ⟨S,5,none⟩=some (.int .i64 q):=HX0.out.cell 5
  have bw_aV0:=HW0.out.bel
  have a0V0:V0.cell? ⟨bz,oz,none⟩=some (.int .i64 ka):=(by simpa [Nat.add_assoc] using below_cell bw_aV0 HLT.out (HCa.out 0 _ rfl))
  have a1V0:V0.cell? ⟨bz,oz+1,none⟩=some (.string sa):=(by simpa [Nat.add_assoc] using below_cell bw_aV0 HLT.out (HCa.out 1 _ rfl))
  have a2V0:V0.cell? ⟨bz,oz+2,none⟩=some (.int .i16 va):=(by simpa [Nat.add_assoc] using below_cell bw_aV0 HLT.out (HCa.out 2 _ rfl))
  have a3V0:V0.cell? ⟨bz,oz+3,none⟩=some (.int .i64 oa):=(by simpa [Nat.add_assoc] using below_cell bw_aV0 HLT.out (HCa.out 3 _ rfl))
  have a4V0:V0.cell? ⟨bz,oz+4,none⟩=some (.slice pa ra.length ca):=(by simpa [Nat.add_assoc] using below_cell bw_aV0 HLT.out (HCa.out 4 _ rfl))
  have a5V0:V0.cell? ⟨bz,oz+5,none⟩=some (.int .i64 qa):=(by simpa [Nat.add_assoc] using below_cell bw_aV0 HLT.out (HCa.out 5 _ rfl))
  have bw_bV0:=HW0.out.bel
  have b0V0:V0.cell? ⟨bz,oz+6,none⟩=some (.int .i64 kb):=(by simpa [Nat.add_assoc] using below_cell bw_bV0 HLT.out (HCb.out 0 _ rfl))
  have b1V0:V0.cell? ⟨bz,oz+7,none⟩=some (.string sb):=(by simpa [Nat.add_assoc] using below_cell bw_bV0 HLT.out (HCb.out 1 _ rfl))
  have b2V0:V0.cell? ⟨bz,oz+8,none⟩=some (.int .i16 vb):=(by simpa [Nat.add_assoc] using below_cell bw_bV0 HLT.out (HCb.out 2 _ rfl))
  have b3V0:V0.cell? ⟨bz,oz+9,none⟩=some (.int .i64 ob):=(by simpa [Nat.add_assoc] using below_cell bw_bV0 HLT.out (HCb.out 3 _ rfl))
  have b4V0:V0.cell? ⟨bz,oz+10,none⟩=some (.slice pb rb.length cb):=(by simpa [Nat.add_assoc] using below_cell bw_bV0 HLT.out (HCb.out 4 _ rfl))
  have b5V0:V0.cell? ⟨bz,oz+11,none⟩=some (.int .i64 qb):=(by simpa [Nat.add_assoc] using below_cell bw_bV0 HLT.out (HCb.out 5 _ rfl))
  have t0V:V0.cell? ⟨1,on * 2,none⟩=some (.string ⟨(sgT (on:Int)).toArray⟩):=below_cell HW0.out.bel HGO.out HT0.out
  have t1V:V0.cell? ⟨1,on * 2+1,none⟩=some (.int .i64 (lvO (on:Int))):=below_cell HW0.out.bel HGO.out HT1.out
  have b3_:1 < V0.heap.size:=World.block_lt_of_cell? _ _ t0V
  clear hsg1
  go_upto_region 18 with fail
  have hb1_:Blk V0.heap.size [.string ⟨(sgT (on:Int)).toArray⟩,.int .i64 (lvO (on:Int))] 151 (V0.alloc (Obj.cells #[.string ⟨(sgT (on:Int)).toArray⟩,.int .i64 (lvO (on:Int))] 151)):=Blk.new V0 _ _
  have hgV:Grew V0 (V0.alloc (Obj.cells #[.string ⟨(sgT (on:Int)).toArray⟩,.int .i64 (lvO (on:Int))] 151)):=(Grew.refl V0).alloc _
  have hne_:V0.heap.size≠b:=by have:=HB0.out.lt;omega
  generalize (V0.alloc (Obj.cells #[.string ⟨(sgT (on:Int)).toArray⟩,.int .i64 (lvO (on:Int))] 151))=V1 at hb1_ hgV ⊢
  generalize V0.heap.size=O at hb1_ hne_ ⊢
  have HW1:=Lib.hid (HW0.out.grew hgV HNw.out)
  have HB1:=Lib.hid (HB0.out.grew hgV)
  have HN1:=Lib.hid (Nat.le_trans HN0.out hgV.sz)
  have HX1:=Lib.hid (HX0.out.grew hgV)
  have HO1:=Lib.hid hb1_
  have HNO:=Lib.hid hne_
  clear hb1_ hgV hne_
  have d3:Atv ⟨S,3,none⟩ (.int .i64 (on:Int)) V1.drew:=(HX1.out.grew (Grew.refl _).drw).atv 3 rfl
  have d4:Atv ⟨S,4,none⟩ (.slice (some ⟨bz,oz,none⟩) 2 c) V1.drew:=(HX1.out.grew (Grew.refl _).drw).atv 4 rfl
  have l0:Atv ⟨O,0,none⟩ (.string ⟨(sgT (on:Int)).toArray⟩) V1.drew:=(HO1.out.grew (Grew.refl _).drw).atv 0 rfl
  have l1:Atv ⟨O,1,none⟩ (.int .i64 (lvO (on:Int))) V1.drew:=(HO1.out.grew (Grew.refl _).drw).atv 1 rfl
  have bw_:Below N w V1.drew:=Below.drew HW1.out.bel
  have a0:Atv ⟨bz,oz+0 * 6,none⟩ (.int .i64 ka) V1.drew:=below_cell bw_ HLT.out (HCa.out 0 _ rfl)
  have a1:Atv ⟨bz,oz+0 * 6+1,none⟩ (.string sa) V1.drew:=below_cell bw_ HLT.out (HCa.out 1 _ rfl)
  have a2:Atv ⟨bz,oz+0 * 6+2,none⟩ (.int .i16 va) V1.drew:=below_cell bw_ HLT.out (HCa.out 2 _ rfl)
  have a3:Atv ⟨bz,oz+0 * 6+3,none⟩ (.int .i64 oa) V1.drew:=below_cell bw_ HLT.out (HCa.out 3 _ rfl)
  have a4:Atv ⟨bz,oz+0 * 6+4,none⟩ (.slice pa ra.length ca) V1.drew:=below_cell bw_ HLT.out (HCa.out 4 _ rfl)
  have a5:Atv ⟨bz,oz+0 * 6+5,none⟩ (.int .i64 qa) V1.drew:=below_cell bw_ HLT.out (HCa.out 5 _ rfl)
  have b0:Atv ⟨bz,oz+1 * 6,none⟩ (.int .i64 kb) V1.drew:=below_cell bw_ HLT.out (HCb.out 0 _ rfl)
  have b1:Atv ⟨bz,oz+1 * 6+1,none⟩ (.string sb) V1.drew:=below_cell bw_ HLT.out (HCb.out 1 _ rfl)
  have b2:Atv ⟨bz,oz+1 * 6+2,none⟩ (.int .i16 vb) V1.drew:=below_cell bw_ HLT.out (HCb.out 2 _ rfl)
  have b3:Atv ⟨bz,oz+1 * 6+3,none⟩ (.int .i64 ob) V1.drew:=below_cell bw_ HLT.out (HCb.out 3 _ rfl)
  have b4:Atv ⟨bz,oz+1 * 6+4,none⟩ (.slice pb rb.length cb) V1.drew:=below_cell bw_ HLT.out (HCb.out 4 _ rfl)
  have b5:Atv ⟨bz,oz+1 * 6+5,none⟩ (.int .i64 qb) V1.drew:=below_cell bw_ HLT.out (HCb.out 5 _ rfl)
  refine wp_grew_tail 7 [some 69,some 70,some 71,some 72,some 73,some 74,some 75] [Zf,Zf,Zf,Zf,Zf,Zf,Zf,Zf,Zf,Zf,Zf,Zf,Zf,Zf,Zf,Zf,Zf,Zf,Zf,Zf,Zf,Zf,Zf,Zf,Zf,Zf,Zf,Zf,Zf,Zf,Zf,Zf,Zf,Zf,Zf,Zf,Zf,Zf,Zf,Zf,Zf,Zf,Zf,Zf,Zf,Zf,Zf,Zf,Zf,Zf,Zf,Zf,Zf,Zf,Zf,Zf,Zf,Zf,Zf,Zf,Zf,Zf,Zf,Zf,Zf,Zf,Zf,Zf,Zf,Zt,Zt,Zt,Zt,Zt,Zt,Zt,Zf,Zf,Zf,Zf,Zf,Zf,Zf,Zf,Zf,Zf,Zf,Zf,Zf,Zf,Zf,Zf] [fun v _=>v=.pointer (some ⟨b,0,none⟩),fun v _=>v=.pointer (some ⟨S,4,none⟩),fun v _=>v=.slice (some ⟨bz,oz,none⟩) (2) (c),fun v _=>v=.pointer (some ⟨bz,oz+0 * 6,none⟩),fun v _=>v=.agg #[.int .i64 (ka),.string sa,.int .i16 (va),.int .i64 (oa),.slice pa ra.length ca,.int .i64 (qa)],fun v _=>v=.agg #[.string ⟨(sgT (on:Int)).toArray⟩,.int .i64 (lvO (on:Int))],fun v _=>v=.int .i64 (lfT (on:Int))] (by kernel_rfl) (by kernel_rfl) (by kernel_rfl) rfl ?_ ⟨?_,?_,?_,?_,?_,?_,?_,trivial⟩ ?_
  ·exact⟨Zi,Zi,Zi,Zi,Zi,Zi,Zi,trivial⟩
  ·intro u w hR hd;exact runs_mv (ev rfl) Zr
  ·intro u w hR hd;exact rn_fld_35_4 (ev rfl) Zr
  ·intro u w hR hd;exact rn_ld_33 (ev (hd.1 rfl)) (d4.kept hR) Zr
  ·intro u w hR hd;exact rn_idx_33 (0) (ev (hd.1 rfl)) rfl (by omega) Zr
  ·intro u w hR hd;exact rn_ld_35 (ev (hd.1 rfl)) (a0.kept hR) (a1.kept hR) (a2.kept hR) (a3.kept hR) (a4.kept hR) (a5.kept hR) Zr
  ·intro u w hR hd;exact rn_ld_151 (ev rfl) (l0.kept hR) (l1.kept hR) Zr
  ·intro u w hR hd;exact runs_c1 en_ll (ev (hd.1 rfl)) (callp (fun _ e=>e) ((least_any _ _ _ (by have h_:=HLO.out;omega)).mono fun e w9 h=>⟨h.1.trans (congrArg (fun z=>Ending.returned (.int .i64 z)) HLF.out),h.2⟩))
  ·intro u w5 hR5 h
   have e0:u 69=PtrTo b:=h 0 (by decide)
   have e4:u 73=.agg #[.int .i64 (ka),.string sa,.int .i16 (va),.int .i64 (oa),.slice pa ra.length ca,.int .i64 (qa)]:=h 4 (by decide)
   have e6:u 75=.int .i64 (lfT (on:Int)):=h 6 (by decide)
   have g5:Grew V1 w5:=(Grew.refl V1).drw.trans hR5
   have HW5:=Lib.hid (HW1.out.grew g5 HNw.out)
   have HB5:=Lib.hid (HB1.out.grew g5)
   have HN5:=Lib.hid (Nat.le_trans HN1.out g5.sz)
   have HX5:=Lib.hid (HX1.out.grew g5)
   have HO5:=Lib.hid (HO1.out.grew g5)
   refine wpAny_one (i:=7) (some 76) (by kernel_rfl) rfl rfl rfl (runs_c3 en_wo (ev e0) (ev e4) (ev e6) ((HIA.out (lfT (on:Int)) N b xs B w5 pa ca HB5.out HN5.out HBN.out (HAa.out.below HBN.out HW5.out.bel) HZa.out (HE.out.wrote HW5.out) HOA.out (by have h_:=HLN.out;first | omega | (simp only [app_list,List.length_append,List.length_cons,List.length_nil] at h_ ⊢;omega) | (simp only [app_list,List.length_append,List.length_cons,List.length_nil] at h_ ⊢;done) | (simp [app_list,List.length_append] at h_ ⊢;omega))).mono ?_))
   rintro e_ V2 ⟨rfl,hb_,hw_⟩
   refine⟨_,rfl,?_⟩
   refine wpAny_done (by kernel_rfl) ?_ _
   simp only [zz1,zz2,zz3,Act.put,mixA,mixL,zz9,zz0,zz4,zz5,zz6]
   try simp only [Nat.zero_add,Nat.reduceAdd]
   have HW2:=Lib.hid (HW5.out.trans hw_)
   have HB2:=Lib.hid hb_
   have HN2:=Lib.hid (Nat.le_trans HN5.out hw_.bel.size)
   have HX2:=Lib.hid (HX5.out.wrote hw_ HNE.out (by decide))
   have HO2:=Lib.hid (HO5.out.wrote hw_ HNO.out (by decide))
   clear h hR5 g5 hb_ hw_ e0 e4 e6 HW5 HB5 HN5 HX5 HO5 d3 d4 l0 l1 bw_ a0 a1 a2 a3 a4 a5 b0 b1 b2 b3 b4 b5
   generalize u 69=z69
   generalize u 70=z70
   generalize u 71=z71
   generalize u 72=z72
   generalize u 73=z73
   generalize u 74=z74
   generalize u 75=z75
   have y0V2:V2.cell? ⟨O,0,none⟩=some (.string ⟨(sgT (on:Int)).toArray⟩):=HO2.out.cell 0
   have y1V2:V2.cell? ⟨O,1,none⟩=some (.int .i64 (lvO (on:Int))):=HO2.out.cell 1

   have hsg1:=HSZ.out
   generalize hsg:(⟨(sgT (on:Int)).toArray⟩:ByteArray)=sg_ at y0V2 hsg1
   have HSG2:Hid (sg_.data.toList.length=(sgT (on:Int)).length∧(⟨#[32]⟩:ByteArray).data.toList.length=1):=Lib.hid (hsg ▸ HSG.out)
   have HSGE:=Lib.hid hsg
   clear hsg
   go_upto_region 20 with (go_at_call 93;(with_reducible refine(wstrS_any btB N b (xs++opd (lfT (on:Int)) ka oa (txX ⟨ka,sa,va,oa,ra,qa⟩)) ((⟨#[32]⟩:ByteArray)++sg_++⟨#[32]⟩) V2 HB2.out (by have h_:=HLN.out;have h2_:=HSG2.out;simp only [app_list,List.length_append,List.length_cons,List.length_nil] at h_ h2_ ⊢;omega) HN2.out).mono ?_);rintro e V3 ⟨⟨v_1,rfl⟩,hb_,hw_⟩;have HW3:=Lib.hid (HW2.out.trans hw_);have HB3:=Lib.hid hb_;have HN3:=Lib.hid (Nat.le_trans HN2.out hw_.bel.size);have HX3:=Lib.hid (HX2.out.wrote hw_ HNE.out (by decide));have HO3:=Lib.hid (HO2.out.wrote hw_ HNO.out (by decide));clear hb_ hw_)
   obtain rfl:=HSGE.out
   have d3:Atv ⟨S,3,none⟩ (.int .i64 (on:Int)) V3.drew:=(HX3.out.grew (Grew.refl _).drw).atv 3 rfl
   have d4:Atv ⟨S,4,none⟩ (.slice (some ⟨bz,oz,none⟩) 2 c) V3.drew:=(HX3.out.grew (Grew.refl _).drw).atv 4 rfl
   have l0:Atv ⟨O,0,none⟩ (.string ⟨(sgT (on:Int)).toArray⟩) V3.drew:=(HO3.out.grew (Grew.refl _).drw).atv 0 rfl
   have l1:Atv ⟨O,1,none⟩ (.int .i64 (lvO (on:Int))) V3.drew:=(HO3.out.grew (Grew.refl _).drw).atv 1 rfl
   have bw_:Below N w V3.drew:=Below.drew HW3.out.bel
   have a0:Atv ⟨bz,oz+0 * 6,none⟩ (.int .i64 ka) V3.drew:=below_cell bw_ HLT.out (HCa.out 0 _ rfl)
   have a1:Atv ⟨bz,oz+0 * 6+1,none⟩ (.string sa) V3.drew:=below_cell bw_ HLT.out (HCa.out 1 _ rfl)
   have a2:Atv ⟨bz,oz+0 * 6+2,none⟩ (.int .i16 va) V3.drew:=below_cell bw_ HLT.out (HCa.out 2 _ rfl)
   have a3:Atv ⟨bz,oz+0 * 6+3,none⟩ (.int .i64 oa) V3.drew:=below_cell bw_ HLT.out (HCa.out 3 _ rfl)
   have a4:Atv ⟨bz,oz+0 * 6+4,none⟩ (.slice pa ra.length ca) V3.drew:=below_cell bw_ HLT.out (HCa.out 4 _ rfl)
   have a5:Atv ⟨bz,oz+0 * 6+5,none⟩ (.int .i64 qa) V3.drew:=below_cell bw_ HLT.out (HCa.out 5 _ rfl)
   have b0:Atv ⟨bz,oz+1 * 6,none⟩ (.int .i64 kb) V3.drew:=below_cell bw_ HLT.out (HCb.out 0 _ rfl)
   have b1:Atv ⟨bz,oz+1 * 6+1,none⟩ (.string sb) V3.drew:=below_cell bw_ HLT.out (HCb.out 1 _ rfl)
   have b2:Atv ⟨bz,oz+1 * 6+2,none⟩ (.int .i16 vb) V3.drew:=below_cell bw_ HLT.out (HCb.out 2 _ rfl)
   have b3:Atv ⟨bz,oz+1 * 6+3,none⟩ (.int .i64 ob) V3.drew:=below_cell bw_ HLT.out (HCb.out 3 _ rfl)
   have b4:Atv ⟨bz,oz+1 * 6+4,none⟩ (.slice pb rb.length cb) V3.drew:=below_cell bw_ HLT.out (HCb.out 4 _ rfl)
   have b5:Atv ⟨bz,oz+1 * 6+5,none⟩ (.int .i64 qb) V3.drew:=below_cell bw_ HLT.out (HCb.out 5 _ rfl)
   refine wp_grew_tail 8 [some 83,some 84,some 85,some 86,some 87,some 88,some 89,some 90] [Zf,Zf,Zf,Zf,Zf,Zf,Zf,Zf,Zf,Zf,Zf,Zf,Zf,Zf,Zf,Zf,Zf,Zf,Zf,Zf,Zf,Zf,Zf,Zf,Zf,Zf,Zf,Zf,Zf,Zf,Zf,Zf,Zf,Zf,Zf,Zf,Zf,Zf,Zf,Zf,Zf,Zf,Zf,Zf,Zf,Zf,Zf,Zf,Zf,Zf,Zf,Zf,Zf,Zf,Zf,Zf,Zf,Zf,Zf,Zf,Zf,Zf,Zf,Zf,Zf,Zf,Zf,Zf,Zf,Zf,Zf,Zf,Zf,Zf,Zf,Zf,Zf,Zf,Zf,Zf,Zf,Zf,Zf,Zt,Zt,Zt,Zt,Zt,Zt,Zt,Zt,Zf] [fun v _=>v=.pointer (some ⟨b,0,none⟩),fun v _=>v=.pointer (some ⟨S,4,none⟩),fun v _=>v=.slice (some ⟨bz,oz,none⟩) (2) (c),fun v _=>v=.pointer (some ⟨bz,oz+1 * 6,none⟩),fun v _=>v=.agg #[.int .i64 (kb),.string sb,.int .i16 (vb),.int .i64 (ob),.slice pb rb.length cb,.int .i64 (qb)],fun v _=>v=.pointer (some ⟨O,1,none⟩),fun v _=>v=.int .i64 (lvO (on:Int)),fun v _=>v=.int .i64 ((lvO (on:Int))+(1))] (by kernel_rfl) (by kernel_rfl) (by kernel_rfl) rfl ?_ ⟨?_,?_,?_,?_,?_,?_,?_,?_,trivial⟩ ?_
   ·exact⟨Zi,Zi,Zi,Zi,Zi,Zi,Zi,Zi,trivial⟩
   ·intro u w hR hd;exact runs_mv (ev rfl) Zr
   ·intro u w hR hd;exact rn_fld_35_4 (ev rfl) Zr
   ·intro u w hR hd;exact rn_ld_33 (ev (hd.1 rfl)) (d4.kept hR) Zr
   ·intro u w hR hd;exact rn_idx_33 (1) (ev (hd.1 rfl)) rfl (by omega) Zr
   ·intro u w hR hd;exact rn_ld_35 (ev (hd.1 rfl)) (b0.kept hR) (b1.kept hR) (b2.kept hR) (b3.kept hR) (b4.kept hR) (b5.kept hR) Zr
   ·intro u w hR hd;exact rn_fld_151_1 (ev rfl) Zr
   ·intro u w hR hd;exact rn_ld_3 (ev (hd.1 rfl)) (l1.kept hR) Zr
   ·intro u w hR hd;exact rn_add_3 (ev (hd.1 rfl)) rfl (by have:=HLO.out;omega) Zr
   ·intro u w5 hR5 h
    have e0:u 83=PtrTo b:=h 0 (by decide)
    have e4:u 87=.agg #[.int .i64 (kb),.string sb,.int .i16 (vb),.int .i64 (ob),.slice pb rb.length cb,.int .i64 (qb)]:=h 4 (by decide)
    have e6:u 90=.int .i64 ((lvO (on:Int))+(1)):=h 7 (by decide)
    have g5:Grew V3 w5:=(Grew.refl V3).drw.trans hR5
    have HW5:=Lib.hid (HW3.out.grew g5 HNw.out)
    have HB5:=Lib.hid (HB3.out.grew g5)
    have HN5:=Lib.hid (Nat.le_trans HN3.out g5.sz)
    have HX5:=Lib.hid (HX3.out.grew g5)
    have HO5:=Lib.hid (HO3.out.grew g5)
    refine wpAny_one (i:=8) (some 91) (by kernel_rfl) rfl rfl rfl (runs_c3 en_wo (ev e0) (ev e4) (ev e6) ((HIB.out (lvO (on:Int)+1) N b ((xs++opd (lfT (on:Int)) ka oa (txX ⟨ka,sa,va,oa,ra,qa⟩))++((⟨#[32]⟩:ByteArray)++⟨(sgT (on:Int)).toArray⟩++⟨#[32]⟩).data.toList) B w5 pb cb HB5.out HN5.out HBN.out (HAb.out.below HBN.out HW5.out.bel) HZb.out (HE.out.wrote HW5.out) HOB.out (by rw [HL6.out];exact(by have h_:=HLN.out;have h2_:=HSG.out;simp only [app_list,List.length_append,List.length_cons,List.length_nil] at h_ h2_ ⊢;omega))).mono ?_))
    rintro e_ V4 ⟨rfl,hb_,hw_⟩
    refine⟨_,rfl,?_⟩
    refine wpAny_done (by kernel_rfl) ?_ _
    simp only [zz1,zz2,zz3,Act.put,mixA,mixL,zz9,zz0,zz4,zz5,zz6]
    try simp only [Nat.zero_add,Nat.reduceAdd]
    have HW4:=Lib.hid (HW5.out.trans hw_)
    have HB4:=Lib.hid hb_
    have HN4:=Lib.hid (Nat.le_trans HN5.out hw_.bel.size)
    have HX4:=Lib.hid (HX5.out.wrote hw_ HNE.out (by decide))
    have HO4:=Lib.hid (HO5.out.wrote hw_ HNO.out (by decide))
    clear h hR5 g5 hb_ hw_ e0 e4 e6 HW5 HB5 HN5 HX5 HO5 d3 d4 l0 l1 bw_ a0 a1 a2 a3 a4 a5 b0 b1 b2 b3 b4 b5
    generalize u 83=z83
    generalize u 84=z84
    generalize u 85=z85
    generalize u 86=z86
    generalize u 87=z87
    generalize u 88=z88
    generalize u 89=z89
    generalize u 90=z90
    go_wp2
    go_end0
    exact⟨rfl,by have h_:=HB4.out;rw [HL6.out] at h_;simpa [app_list,List.append_assoc] using h_,HW4.out⟩
end Go.Proofs.YtcknpcbkofgdoaaGreatDoor
namespace Go.Proofs.YtcknpcbkofgdoaaGreatDoor
open Go Go.RowKit Go.IntWalk
set_option linter.unusedSimpArgs false
set_option linter.unusedVariables false
set_option maxRecDepth 8000
set_option maxHeartbeats 8000000 in
theorem textP_any (x:Xp) (B:Nat→Prop) (w:World) (p:Option Addr) (c:Nat) (hB:∀i,B i→i < w.heap.size) (hX:XL B w p c x.ar) (hz:x.s.size≤1048576∧x.v≤32767) (hE:Env w) (hok:okX x=true) (hlen:(txX x).length≤140737488355328) :
 Calls Tryz.prog 49 #[xv x.k x.s x.v x.o p x.ar.length c x.q] w fun e w'=>e=.returned (.string ⟨(txX x).toArray⟩)∧Grew w w':=by
 obtain ⟨N,hN⟩:∃N,w.heap.size=N:=⟨_,rfl⟩
 rw [hN] at hB
 have HE:Hid (EnvB N w):=Lib.hid (hN ▸ EnvB.of hE)
 have HXL:=Lib.hid hX
 have HBN:=Lib.hid hB
 have HZ:=Lib.hid hz
 have HOK:=Lib.hid hok
 have HLN:=Lib.hid hlen
 have hcap:=hX.cap.1
 have hmax:=hX.cap.2.1
 have HNS:=Lib.hid hN
 clear hE hX hB hz hok hlen hN
 go_enter Tryz.func49,Tryz.ntmps49
 go_upto_region 2 with fail
 have hb1_:Blk w.heap.size [.int .i64 x.k,.string x.s,.int .i16 x.v,.int .i64 x.o,.slice p x.ar.length c,.int .i64 x.q] 35 (w.alloc (Obj.cells #[.int .i64 x.k,.string x.s,.int .i16 x.v,.int .i64 x.o,.slice p x.ar.length c,.int .i64 x.q] 35)):=Blk.new w _ _
 have hgV:Grew w (w.alloc (Obj.cells #[.int .i64 x.k,.string x.s,.int .i16 x.v,.int .i64 x.o,.slice p x.ar.length c,.int .i64 x.q] 35)):=(Grew.refl w).alloc _
 have hVs:(w.alloc (Obj.cells #[.int .i64 x.k,.string x.s,.int .i16 x.v,.int .i64 x.o,.slice p x.ar.length c,.int .i64 x.q] 35)).heap.size=w.heap.size+1:=by rw [alloc_sz]
 generalize (w.alloc (Obj.cells #[.int .i64 x.k,.string x.s,.int .i16 x.v,.int .i64 x.o,.slice p x.ar.length c,.int .i64 x.q] 35))=V at hb1_ hgV hVs ⊢
 have hS:w.heap.size < V.heap.size:=hb1_.lt
 have hN:=HNS.out
 generalize w.heap.size=S at hb1_ hS hN hVs ⊢
 have hbd:BldT 70 [] N V.heap.size [] (V.alloc (Obj.cells #[.pointer none,.slice none 0 0] 70)):=BldT.made N V (by omega) _ rfl
 have hgW:Grew V (V.alloc (Obj.cells #[.pointer none,.slice none 0 0] 70)):=(Grew.refl V).alloc _
 have hbS:=hb1_.grew hgW
 have hgT:=hgV.trans hgW
 have hne_:S≠V.heap.size:=by omega
 generalize (V.alloc (Obj.cells #[.pointer none,.slice none 0 0] 70))=V0 at hbd hgW hbS hgT ⊢
 have hNb:N≤V.heap.size:=by omega
 have hN0:N≤V0.heap.size:=Nat.le_trans hNb hgW.sz
 rw [hVs] at hbd hne_ hNb
 clear hVs
 generalize S+1=b at hbd hne_ hNb ⊢
 have HB0:=Lib.hid hbd
 have HN0:=Lib.hid hN0
 have HX0:=Lib.hid hbS
 have HW0:Hid (Wrote N b w V0):=Lib.hid (Wrote.of_grew hgT (Nat.le_of_eq HNS.out.symm))
 have HGT:=Lib.hid hgT
 have q0V0:V0.cell? ⟨S,0,none⟩=some (.int .i64 x.k):=HX0.out.cell 0
 have q1V0:V0.cell? ⟨S,1,none⟩=some (.string x.s):=HX0.out.cell 1
 have q2V0:V0.cell? ⟨S,2,none⟩=some (.int .i16 x.v):=HX0.out.cell 2
 have q3V0:V0.cell? ⟨S,3,none⟩=some (.int .i64 x.o):=HX0.out.cell 3
 have q4V0:V0.cell? ⟨S,4,none⟩=some (.slice p x.ar.length c):=HX0.out.cell 4
 have q5V0:V0.cell? ⟨S,5,none⟩=some (.int .i64 x.q):=HX0.out.cell 5
 clear hb1_ hgV hS hbd hgW hbS hgT hne_ hNb hN0 hN
 go_wp2_with (first
  | (go_at_call 101;(with_reducible refine(wx_any x N b [] B V0 p c HB0.out HN0.out HBN.out (HXL.out.below HBN.out HW0.out.bel) HZ.out (HE.out.wrote HW0.out) HOK.out (by have h_:=HLN.out;simpa using h_)).mono ?_);rintro e V1 ⟨rfl,hb_,hw_⟩;have HW1:=Lib.hid (HW0.out.trans hw_);have HB1:=Lib.hid hb_;have HN1:=Lib.hid (Nat.le_trans HN0.out hw_.bel.size);clear hb_ hw_)
  | (go_at_call 45;(with_reducible refine(str_any N b ([]++txX x) V1 HB1.out HN1.out).mono ?_);rintro e V2 ⟨rfl,hw_⟩;have HW2:=Lib.hid (HW1.out.bel.trans hw_);clear hw_))
 go_ret
 exact⟨rfl,by have h_:=HW2.out;rw [← HNS.out] at h_;exact h_⟩
set_option maxHeartbeats 8000000 in
theorem exprP_any (x:Xp) (B:Nat→Prop) (w:World) (p:Option Addr) (c:Nat) (hB:∀i,B i→i < w.heap.size) (hX:XL B w p c x.ar) (hz:x.s.size≤1048576∧x.v≤32767) (hE:Env w) (hn:nX x≤1048576) :
 Calls Tryz.prog 16 #[xv x.k x.s x.v x.o p x.ar.length c x.q] w fun e w'=>e=.returned (.string (if okX x=true then ⟨(txX x).toArray⟩ else ⟨#[]⟩))∧Grew w w':=by
 have hcap:=hX.cap.1
 have hmax:=hX.cap.2.1
 have HF:=Lib.hid (fun W (hW:Grew w W)=>formX_any x B W p c hz (hX.kept hW) (hE.grew hW))
 cases hok:okX x with
 | true =>
   rw [if_pos rfl]
   have hlen:(txX x).length≤140737488355328:=by have:=txX_len x hok (XL.fitX hz.2 hX);omega
   have HT:=Lib.hid (fun W (hW:Grew w W)=>textP_any x B W p c (fun i hi=>Nat.lt_of_lt_of_le (hB i hi) hW.sz) (hX.kept hW) hz (hE.grew hW) hok hlen)
   rw [hok] at HF
   clear hX hz hE hn hok hlen hB
   have HG1:=Lib.hid ((Grew.refl w).alloc (Obj.cells #[.int .i64 x.k,.string x.s,.int .i16 x.v,.int .i64 x.o,.slice p x.ar.length c,.int .i64 x.q] 35))
   go_enter Tryz.func16,Tryz.ntmps16
   go_wp2_with (first
    | (go_at_call 48;(with_reducible refine(HF.out _ HG1.out).mono ?_);rintro e w1 ⟨rfl,g1⟩;have HG:=Lib.hid (HG1.out.trans g1);have hbx:=(Blk.new w [.int .i64 x.k,.string x.s,.int .i16 x.v,.int .i64 x.o,.slice p x.ar.length c,.int .i64 x.q] 35).grew g1;have q0:w1.cell? ⟨w.heap.size,0,none⟩=some (.int .i64 x.k):=hbx.cell 0;have q1:w1.cell? ⟨w.heap.size,1,none⟩=some (.string x.s):=hbx.cell 1;have q2:w1.cell? ⟨w.heap.size,2,none⟩=some (.int .i16 x.v):=hbx.cell 2;have q3:w1.cell? ⟨w.heap.size,3,none⟩=some (.int .i64 x.o):=hbx.cell 3;have q4:w1.cell? ⟨w.heap.size,4,none⟩=some (.slice p x.ar.length c):=hbx.cell 4;have q5:w1.cell? ⟨w.heap.size,5,none⟩=some (.int .i64 x.q):=hbx.cell 5;clear g1 hbx)
    | (go_at_call 49;(with_reducible refine(HT.out _ HG.out).mono ?_);rintro e w2 ⟨rfl,g2⟩;have HG2:=Lib.hid (HG.out.trans g2);clear g2))
   go_ret
   exact⟨rfl,HG2.out⟩
 | false =>
   rw [if_neg (by simp)]
   rw [hok] at HF
   clear hX hz hE hn hok hB
   have HG1:=Lib.hid ((Grew.refl w).alloc (Obj.cells #[.int .i64 x.k,.string x.s,.int .i16 x.v,.int .i64 x.o,.slice p x.ar.length c,.int .i64 x.q] 35))
   go_enter Tryz.func16,Tryz.ntmps16
   go_wp2_with (go_at_call 48;(with_reducible refine(HF.out _ HG1.out).mono ?_);rintro e w1 ⟨rfl,g1⟩;have HG:=Lib.hid (HG1.out.trans g1);clear g1)
   go_ret
   exact⟨rfl,HG.out⟩
end Go.Proofs.YtcknpcbkofgdoaaGreatDoor
