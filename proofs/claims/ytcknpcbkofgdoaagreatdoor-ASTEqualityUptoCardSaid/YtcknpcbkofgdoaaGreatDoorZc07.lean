/-
  LAYER 16 (ast), THE PROGRAM: equalTask, Equal.
  CANONICAL TEXTS DETERMINE PROGRAMS (layer 16): two well-formed programs have the same text if and only if they are equal but for positions. Nothing of the program stands here.
-/
import Derived.Test.YtcknpcbkofgdoaaGreatDoorZcShort
import Derived.Test.YtcknpcbkofgdoaaGreatDoorZc06
import Derived.Test.YtcknpcbkofgdoaaGreatDoorZc01
import Derived.Test.YtcknpcbkofgdoaaGreatDoorZc00
import Derived.Deep.LoopGhost
import Derived.Deep.Cut
import Derived.Shelf.Abstract
import Derived.Test.YtcknpcbkofgdoaaGreatDoorZc03
namespace Go.Proofs.YtcknpcbkofgdoaaGreatDoor
open Go Go.RowKit Go.IntWalk
set_option linter.unusedSimpArgs false
set_option linter.unusedVariables false
set_option maxRecDepth 8000
section
variable {dst:Option Tmp}{ty:TypeId}{pos:String}{after:Array Edge}{g:Option (Nat × Bool)}{a:Act}{w:World}{T:Value→World→Prop}
end
def eqCn (x y:Cn):Bool:=decide (x.s=y.s)&&(x.v==y.v)
def eqGl (x y:Gl):Bool:=(decide (x.s=y.s)&&(x.l==y.l))&&(x.i==y.i)
def eqTa (x y:Ta):Bool:=decide (x.s=y.s)&&(x.p==y.p)&&(x.d==y.d)&&decide (x.c=y.c)&&decide (x.m=y.m)&&(x.w==y.w)&&eqL eqS x.b y.b
def eqPg (P Q:Pg):Bool:=eqL eqCn P.cs Q.cs&&eqL eqGl P.gs Q.gs&&decide (P.ss=Q.ss)&&decide (P.os=Q.os)&&eqL eqCn P.hs Q.hs&&eqL eqTa P.ts Q.ts
theorem eqT_eq2 (sa:ByteArray) (ia da:Int) (ha ma:ByteArray) (na:Int) (ya:List Sm) (qa:Int) (sb:ByteArray) (ib db:Int) (hb mb:ByteArray) (nb:Int) (yb:List Sm) (qb:Int):(((((((decide ((sa)=(sb)))&&((ia)==(ib)))&&((da)==(db)))&&(decide ((ha)=(hb))))&&(decide ((ma)=(mb))))&&((na)==(nb)))&&(eqL eqS ya yb))=eqTa ⟨sa,ia,da,ha,ma,na,ya,qa⟩ ⟨sb,ib,db,hb,mb,nb,yb,qb⟩:=by
 rw [eqTa]
set_option maxHeartbeats 8000000 in
theorem eqTP_any (x y:Ta) (A B:Nat→Prop) (w:World) (bpa:Option Addr) (bca:Nat) (bpb:Option Addr) (bcb:Nat) (hx:SL A w bpa bca x.b) (hy:SL B w bpb bcb y.b) :
 Calls Tryz.prog 73 #[tv x.s x.p x.d x.c x.m x.w bpa x.b.length bca x.q,tv y.s y.p y.d y.c y.m y.w bpb y.b.length bcb y.q] w fun e w'=>e=.returned (.bool (eqTa x y))∧Grew w w':=by
 obtain ⟨sa,ia,da,ha,ma,na,ya,qa⟩:=x
 obtain ⟨sb,ib,db,hb,mb,nb,yb,qb⟩:=y
 replace hx:SL A w bpa bca ya:=hx
 replace hy:SL B w bpb bcb yb:=hy
 show Calls Tryz.prog 73 #[tv sa ia da ha ma na bpa ya.length bca qa,tv sb ib db hb mb nb bpb yb.length bcb qb] w fun e w'=>e=.returned (.bool (eqTa ⟨sa,ia,da,ha,ma,na,ya,qa⟩ ⟨sb,ib,db,hb,mb,nb,yb,qb⟩))∧Grew w w'
 have hcap:=And.intro hx.cap.1 hy.cap.1
 have hmax:=And.intro hx.cap.2.1 hy.cap.2.1
 have HEQ:=Lib.hid (eqT_eq2 sa ia da ha ma na ya qa sb ib db hb mb nb yb qb)
 have HEY:Hid (∀W,Grew w W→Calls Tryz.prog 117 #[.slice bpa ya.length bca,.slice bpb yb.length bcb,.func (.func 118) #[] #[]] W fun e w'=>e=.returned (.bool (eqL eqS ya yb))∧Grew W w') :=
  Lib.hid (fun W hW=>eqfS_any 118 #[] en_eS ya yb eqS A B W bpa bpb bca bcb (hx.kept hW) (hy.kept hW) (fun x _ y _ a1 a2 a3 a4 a5 a6 b1 b2 b3 b4 b5 b6 W2 h1 h2 h3 _ g1 g2 g3 _ hW2=>eqSP_any x y A B W2 a1 a2 a3 a4 a5 a6 b1 b2 b3 b4 b5 b6 h1 h2 h3 g1 g2 g3))
 clear hx hy
 go_enter Tryz.func73,Tryz.ntmps73
 go_upto_region 1 with fail
 have hb1:Blk w.heap.size [.string sa,.int .i64 ia,.int .i64 da,.string ha,.string ma,.int .i64 na,.slice bpa ya.length bca,.int .i64 qa] 42 (w.alloc (Obj.cells #[.string sa,.int .i64 ia,.int .i64 da,.string ha,.string ma,.int .i64 na,.slice bpa ya.length bca,.int .i64 qa] 42)):=Blk.new w _ _
 have hb2:Blk (w.alloc (Obj.cells #[.string sa,.int .i64 ia,.int .i64 da,.string ha,.string ma,.int .i64 na,.slice bpa ya.length bca,.int .i64 qa] 42)).heap.size [.string sb,.int .i64 ib,.int .i64 db,.string hb,.string mb,.int .i64 nb,.slice bpb yb.length bcb,.int .i64 qb] 42 ((w.alloc (Obj.cells #[.string sa,.int .i64 ia,.int .i64 da,.string ha,.string ma,.int .i64 na,.slice bpa ya.length bca,.int .i64 qa] 42)).alloc (Obj.cells #[.string sb,.int .i64 ib,.int .i64 db,.string hb,.string mb,.int .i64 nb,.slice bpb yb.length bcb,.int .i64 qb] 42)):=Blk.new _ _ _
 have hb3:=hb1.grew ((Grew.refl _).alloc (Obj.cells #[.string sb,.int .i64 ib,.int .i64 db,.string hb,.string mb,.int .i64 nb,.slice bpb yb.length bcb,.int .i64 qb] 42))
 have hgV:Grew w ((w.alloc (Obj.cells #[.string sa,.int .i64 ia,.int .i64 da,.string ha,.string ma,.int .i64 na,.slice bpa ya.length bca,.int .i64 qa] 42)).alloc (Obj.cells #[.string sb,.int .i64 ib,.int .i64 db,.string hb,.string mb,.int .i64 nb,.slice bpb yb.length bcb,.int .i64 qb] 42)):=((Grew.refl w).alloc _).alloc _
 rw [alloc_sz] at hb2
 try rw [alloc_sz]
 generalize ((w.alloc (Obj.cells #[.string sa,.int .i64 ia,.int .i64 da,.string ha,.string ma,.int .i64 na,.slice bpa ya.length bca,.int .i64 qa] 42)).alloc (Obj.cells #[.string sb,.int .i64 ib,.int .i64 db,.string hb,.string mb,.int .i64 nb,.slice bpb yb.length bcb,.int .i64 qb] 42))=V at hb2 hb3 hgV ⊢
 generalize w.heap.size+1=U at hb2 ⊢
 generalize w.heap.size=T at hb3 ⊢
 have HGV:=Lib.hid hgV
 have d0:Atv ⟨T,0,none⟩ (.string sa) V:=hb3.atv 0 rfl
 have d1:Atv ⟨T,1,none⟩ (.int .i64 ia) V:=hb3.atv 1 rfl
 have d2:Atv ⟨T,2,none⟩ (.int .i64 da) V:=hb3.atv 2 rfl
 have d3:Atv ⟨T,3,none⟩ (.string ha) V:=hb3.atv 3 rfl
 have d4:Atv ⟨T,4,none⟩ (.string ma) V:=hb3.atv 4 rfl
 have d5:Atv ⟨T,5,none⟩ (.int .i64 na) V:=hb3.atv 5 rfl
 have d6:Atv ⟨T,6,none⟩ (.slice bpa ya.length bca) V:=hb3.atv 6 rfl
 have d7:Atv ⟨T,7,none⟩ (.int .i64 qa) V:=hb3.atv 7 rfl
 have e0:Atv ⟨U,0,none⟩ (.string sb) V:=hb2.atv 0 rfl
 have e1:Atv ⟨U,1,none⟩ (.int .i64 ib) V:=hb2.atv 1 rfl
 have e2:Atv ⟨U,2,none⟩ (.int .i64 db) V:=hb2.atv 2 rfl
 have e3:Atv ⟨U,3,none⟩ (.string hb) V:=hb2.atv 3 rfl
 have e4:Atv ⟨U,4,none⟩ (.string mb) V:=hb2.atv 4 rfl
 have e5:Atv ⟨U,5,none⟩ (.int .i64 nb) V:=hb2.atv 5 rfl
 have e6:Atv ⟨U,6,none⟩ (.slice bpb yb.length bcb) V:=hb2.atv 6 rfl
 have e7:Atv ⟨U,7,none⟩ (.int .i64 qb) V:=hb2.atv 7 rfl
 clear hb1 hb2 hb3 hgV
 refine wp_postsL [some 5,some 6,some 7,some 8,some 9,some 10,some 11,some 12,some 13,some 14,some 15,some 16,some 17,some 18,some 19,some 20,some 21,some 22,some 23,some 24,some 25,some 26,some 27,some 28,some 29,some 30,some 31,some 32,some 33,some 34,some 35,some 36,some 37,some 38,some 39,some 40,some 41,some 42,some 43,some 44,some 45,some 46,some 47,some 48,some 49,some 50,some 51,some 4] [Zf,Zf,Zf,Zf,Zt,Zt,Zt,Zt,Zt,Zt,Zt,Zt,Zt,Zt,Zt,Zt,Zt,Zt,Zt,Zt,Zt,Zt,Zt,Zt,Zt,Zt,Zt,Zt,Zt,Zt,Zt,Zt,Zt,Zt,Zt,Zt,Zt,Zt,Zt,Zt,Zt,Zt,Zt,Zt,Zt,Zt,Zt,Zt,Zt,Zt,Zt,Zt] [fun v _=>v=.pointer (some ⟨T,0,none⟩),fun v _=>v=.string sa,fun v _=>v=.pointer (some ⟨U,0,none⟩),fun v _=>v=.string sb,fun v _=>v=.bool (decide ((sa)=(sb))),fun v _=>v=.bool (decide ((sa)=(sb))),fun v _=>(((decide ((sa)=(sb)))=true)→v=.pointer (some ⟨T,1,none⟩))∧(¬ ((decide ((sa)=(sb)))=true)→v=undef),fun v _=>(((decide ((sa)=(sb)))=true)→v=.int .i64 (ia))∧(¬ ((decide ((sa)=(sb)))=true)→v=undef),fun v _=>(((decide ((sa)=(sb)))=true)→v=.pointer (some ⟨U,1,none⟩))∧(¬ ((decide ((sa)=(sb)))=true)→v=undef),fun v _=>(((decide ((sa)=(sb)))=true)→v=.int .i64 (ib))∧(¬ ((decide ((sa)=(sb)))=true)→v=undef),fun v _=>(((decide ((sa)=(sb)))=true)→v=.bool ((ia)==(ib)))∧(¬ ((decide ((sa)=(sb)))=true)→v=undef),fun v _=>v=.bool ((decide ((sa)=(sb)))&&((ia)==(ib))),fun v _=>v=.bool ((decide ((sa)=(sb)))&&((ia)==(ib))),fun v _=>((((decide ((sa)=(sb)))&&((ia)==(ib)))=true)→v=.pointer (some ⟨T,2,none⟩))∧(¬ (((decide ((sa)=(sb)))&&((ia)==(ib)))=true)→v=undef),fun v _=>((((decide ((sa)=(sb)))&&((ia)==(ib)))=true)→v=.int .i64 (da))∧(¬ (((decide ((sa)=(sb)))&&((ia)==(ib)))=true)→v=undef),fun v _=>((((decide ((sa)=(sb)))&&((ia)==(ib)))=true)→v=.pointer (some ⟨U,2,none⟩))∧(¬ (((decide ((sa)=(sb)))&&((ia)==(ib)))=true)→v=undef),fun v _=>((((decide ((sa)=(sb)))&&((ia)==(ib)))=true)→v=.int .i64 (db))∧(¬ (((decide ((sa)=(sb)))&&((ia)==(ib)))=true)→v=undef),fun v _=>((((decide ((sa)=(sb)))&&((ia)==(ib)))=true)→v=.bool ((da)==(db)))∧(¬ (((decide ((sa)=(sb)))&&((ia)==(ib)))=true)→v=undef),fun v _=>v=.bool (((decide ((sa)=(sb)))&&((ia)==(ib)))&&((da)==(db))),fun v _=>v=.bool (((decide ((sa)=(sb)))&&((ia)==(ib)))&&((da)==(db))),fun v _=>(((((decide ((sa)=(sb)))&&((ia)==(ib)))&&((da)==(db)))=true)→v=.pointer (some ⟨T,3,none⟩))∧(¬ ((((decide ((sa)=(sb)))&&((ia)==(ib)))&&((da)==(db)))=true)→v=undef),fun v _=>(((((decide ((sa)=(sb)))&&((ia)==(ib)))&&((da)==(db)))=true)→v=.string ha)∧(¬ ((((decide ((sa)=(sb)))&&((ia)==(ib)))&&((da)==(db)))=true)→v=undef),fun v _=>(((((decide ((sa)=(sb)))&&((ia)==(ib)))&&((da)==(db)))=true)→v=.pointer (some ⟨U,3,none⟩))∧(¬ ((((decide ((sa)=(sb)))&&((ia)==(ib)))&&((da)==(db)))=true)→v=undef),fun v _=>(((((decide ((sa)=(sb)))&&((ia)==(ib)))&&((da)==(db)))=true)→v=.string hb)∧(¬ ((((decide ((sa)=(sb)))&&((ia)==(ib)))&&((da)==(db)))=true)→v=undef),fun v _=>(((((decide ((sa)=(sb)))&&((ia)==(ib)))&&((da)==(db)))=true)→v=.bool (decide ((ha)=(hb))))∧(¬ ((((decide ((sa)=(sb)))&&((ia)==(ib)))&&((da)==(db)))=true)→v=undef),fun v _=>v=.bool ((((decide ((sa)=(sb)))&&((ia)==(ib)))&&((da)==(db)))&&(decide ((ha)=(hb)))),fun v _=>v=.bool ((((decide ((sa)=(sb)))&&((ia)==(ib)))&&((da)==(db)))&&(decide ((ha)=(hb)))),fun v _=>((((((decide ((sa)=(sb)))&&((ia)==(ib)))&&((da)==(db)))&&(decide ((ha)=(hb))))=true)→v=.pointer (some ⟨T,4,none⟩))∧(¬ (((((decide ((sa)=(sb)))&&((ia)==(ib)))&&((da)==(db)))&&(decide ((ha)=(hb))))=true)→v=undef),fun v _=>((((((decide ((sa)=(sb)))&&((ia)==(ib)))&&((da)==(db)))&&(decide ((ha)=(hb))))=true)→v=.string ma)∧(¬ (((((decide ((sa)=(sb)))&&((ia)==(ib)))&&((da)==(db)))&&(decide ((ha)=(hb))))=true)→v=undef),fun v _=>((((((decide ((sa)=(sb)))&&((ia)==(ib)))&&((da)==(db)))&&(decide ((ha)=(hb))))=true)→v=.pointer (some ⟨U,4,none⟩))∧(¬ (((((decide ((sa)=(sb)))&&((ia)==(ib)))&&((da)==(db)))&&(decide ((ha)=(hb))))=true)→v=undef),fun v _=>((((((decide ((sa)=(sb)))&&((ia)==(ib)))&&((da)==(db)))&&(decide ((ha)=(hb))))=true)→v=.string mb)∧(¬ (((((decide ((sa)=(sb)))&&((ia)==(ib)))&&((da)==(db)))&&(decide ((ha)=(hb))))=true)→v=undef),fun v _=>((((((decide ((sa)=(sb)))&&((ia)==(ib)))&&((da)==(db)))&&(decide ((ha)=(hb))))=true)→v=.bool (decide ((ma)=(mb))))∧(¬ (((((decide ((sa)=(sb)))&&((ia)==(ib)))&&((da)==(db)))&&(decide ((ha)=(hb))))=true)→v=undef),fun v _=>v=.bool (((((decide ((sa)=(sb)))&&((ia)==(ib)))&&((da)==(db)))&&(decide ((ha)=(hb))))&&(decide ((ma)=(mb)))),fun v _=>v=.bool (((((decide ((sa)=(sb)))&&((ia)==(ib)))&&((da)==(db)))&&(decide ((ha)=(hb))))&&(decide ((ma)=(mb)))),fun v _=>(((((((decide ((sa)=(sb)))&&((ia)==(ib)))&&((da)==(db)))&&(decide ((ha)=(hb))))&&(decide ((ma)=(mb))))=true)→v=.pointer (some ⟨T,5,none⟩))∧(¬ ((((((decide ((sa)=(sb)))&&((ia)==(ib)))&&((da)==(db)))&&(decide ((ha)=(hb))))&&(decide ((ma)=(mb))))=true)→v=undef),fun v _=>(((((((decide ((sa)=(sb)))&&((ia)==(ib)))&&((da)==(db)))&&(decide ((ha)=(hb))))&&(decide ((ma)=(mb))))=true)→v=.int .i64 (na))∧(¬ ((((((decide ((sa)=(sb)))&&((ia)==(ib)))&&((da)==(db)))&&(decide ((ha)=(hb))))&&(decide ((ma)=(mb))))=true)→v=undef),fun v _=>(((((((decide ((sa)=(sb)))&&((ia)==(ib)))&&((da)==(db)))&&(decide ((ha)=(hb))))&&(decide ((ma)=(mb))))=true)→v=.pointer (some ⟨U,5,none⟩))∧(¬ ((((((decide ((sa)=(sb)))&&((ia)==(ib)))&&((da)==(db)))&&(decide ((ha)=(hb))))&&(decide ((ma)=(mb))))=true)→v=undef),fun v _=>(((((((decide ((sa)=(sb)))&&((ia)==(ib)))&&((da)==(db)))&&(decide ((ha)=(hb))))&&(decide ((ma)=(mb))))=true)→v=.int .i64 (nb))∧(¬ ((((((decide ((sa)=(sb)))&&((ia)==(ib)))&&((da)==(db)))&&(decide ((ha)=(hb))))&&(decide ((ma)=(mb))))=true)→v=undef),fun v _=>(((((((decide ((sa)=(sb)))&&((ia)==(ib)))&&((da)==(db)))&&(decide ((ha)=(hb))))&&(decide ((ma)=(mb))))=true)→v=.bool ((na)==(nb)))∧(¬ ((((((decide ((sa)=(sb)))&&((ia)==(ib)))&&((da)==(db)))&&(decide ((ha)=(hb))))&&(decide ((ma)=(mb))))=true)→v=undef),fun v _=>v=.bool ((((((decide ((sa)=(sb)))&&((ia)==(ib)))&&((da)==(db)))&&(decide ((ha)=(hb))))&&(decide ((ma)=(mb))))&&((na)==(nb))),fun v _=>v=.bool ((((((decide ((sa)=(sb)))&&((ia)==(ib)))&&((da)==(db)))&&(decide ((ha)=(hb))))&&(decide ((ma)=(mb))))&&((na)==(nb))),fun v _=>((((((((decide ((sa)=(sb)))&&((ia)==(ib)))&&((da)==(db)))&&(decide ((ha)=(hb))))&&(decide ((ma)=(mb))))&&((na)==(nb)))=true)→v=.pointer (some ⟨T,6,none⟩))∧(¬ (((((((decide ((sa)=(sb)))&&((ia)==(ib)))&&((da)==(db)))&&(decide ((ha)=(hb))))&&(decide ((ma)=(mb))))&&((na)==(nb)))=true)→v=undef),fun v _=>((((((((decide ((sa)=(sb)))&&((ia)==(ib)))&&((da)==(db)))&&(decide ((ha)=(hb))))&&(decide ((ma)=(mb))))&&((na)==(nb)))=true)→v=.slice bpa (ya.length) (bca))∧(¬ (((((((decide ((sa)=(sb)))&&((ia)==(ib)))&&((da)==(db)))&&(decide ((ha)=(hb))))&&(decide ((ma)=(mb))))&&((na)==(nb)))=true)→v=undef),fun v _=>((((((((decide ((sa)=(sb)))&&((ia)==(ib)))&&((da)==(db)))&&(decide ((ha)=(hb))))&&(decide ((ma)=(mb))))&&((na)==(nb)))=true)→v=.pointer (some ⟨U,6,none⟩))∧(¬ (((((((decide ((sa)=(sb)))&&((ia)==(ib)))&&((da)==(db)))&&(decide ((ha)=(hb))))&&(decide ((ma)=(mb))))&&((na)==(nb)))=true)→v=undef),fun v _=>((((((((decide ((sa)=(sb)))&&((ia)==(ib)))&&((da)==(db)))&&(decide ((ha)=(hb))))&&(decide ((ma)=(mb))))&&((na)==(nb)))=true)→v=.slice bpb (yb.length) (bcb))∧(¬ (((((((decide ((sa)=(sb)))&&((ia)==(ib)))&&((da)==(db)))&&(decide ((ha)=(hb))))&&(decide ((ma)=(mb))))&&((na)==(nb)))=true)→v=undef),fun v _=>((((((((decide ((sa)=(sb)))&&((ia)==(ib)))&&((da)==(db)))&&(decide ((ha)=(hb))))&&(decide ((ma)=(mb))))&&((na)==(nb)))=true)→v=.bool (eqL eqS ya yb))∧(¬ (((((((decide ((sa)=(sb)))&&((ia)==(ib)))&&((da)==(db)))&&(decide ((ha)=(hb))))&&(decide ((ma)=(mb))))&&((na)==(nb)))=true)→v=undef),fun v _=>v=.bool (((((((decide ((sa)=(sb)))&&((ia)==(ib)))&&((da)==(db)))&&(decide ((ha)=(hb))))&&(decide ((ma)=(mb))))&&((na)==(nb)))&&(eqL eqS ya yb)),fun v _=>v=.bool (((((((decide ((sa)=(sb)))&&((ia)==(ib)))&&((da)==(db)))&&(decide ((ha)=(hb))))&&(decide ((ma)=(mb))))&&((na)==(nb)))&&(eqL eqS ya yb))] (by kernel_rfl) rfl ?_ ⟨?_,?_,?_,?_,?_,?_,?_,?_,?_,?_,?_,?_,?_,?_,?_,?_,?_,?_,?_,?_,?_,?_,?_,?_,?_,?_,?_,?_,?_,?_,?_,?_,?_,?_,?_,?_,?_,?_,?_,?_,?_,?_,?_,?_,?_,?_,?_,?_,trivial⟩ ?_
 ·exact⟨Zi,Zi,Zi,Zi,Zi,Zi,Zi,Zi,Zi,Zi,Zi,Zi,Zi,Zi,Zi,Zi,Zi,Zi,Zi,Zi,Zi,Zi,Zi,Zi,Zi,Zi,Zi,Zi,Zi,Zi,Zi,Zi,Zi,Zi,Zi,Zi,Zi,Zi,Zi,Zi,Zi,Zi,Zi,Zi,Zi,Zi,Zi,Zi,trivial⟩
 ·intro u w hR hd;exact rn_fld_42_0 (ev rfl) Zr
 ·intro u w hR hd;exact rn_ld_9 (ev (hd.1 rfl)) (d0.kept hR) Zr
 ·intro u w hR hd;exact rn_fld_42_0 (ev rfl) Zr
 ·intro u w hR hd;exact rn_ld_9 (ev (hd.1 rfl)) (e0.kept hR) Zr
 ·intro u w hR hd;exact rn_eqs_9 (ev (hd.1 rfl)) (ev (hd.2.1 rfl)) Zr
 ·intro u w hR hd;exact runs_mv (ev (hd.1 rfl)) Zr
 ·intro u w hR hd;exact⟨fun hg=>have hG:((decide ((sa)=(sb)))=true):=Value.bool.inj ((hd.1 rfl).symm.trans hg);rn_fld_42_1 (ev rfl) (Zs hG),Zn (hd.1 rfl)⟩
 ·intro u w hR hd;exact⟨fun hg=>have hG:((decide ((sa)=(sb)))=true):=Value.bool.inj ((hd.2.1 rfl).symm.trans hg);rn_ld_3 (ev ((hd.1 rfl).1 hG)) (d1.kept hR) (Zs hG),Zn (hd.2.1 rfl)⟩
 ·intro u w hR hd;exact⟨fun hg=>have hG:((decide ((sa)=(sb)))=true):=Value.bool.inj ((hd.1 rfl).symm.trans hg);rn_fld_42_1 (ev rfl) (Zs hG),Zn (hd.1 rfl)⟩
 ·intro u w hR hd;exact⟨fun hg=>have hG:((decide ((sa)=(sb)))=true):=Value.bool.inj ((hd.2.1 rfl).symm.trans hg);rn_ld_3 (ev ((hd.1 rfl).1 hG)) (e1.kept hR) (Zs hG),Zn (hd.2.1 rfl)⟩
 ·intro u w hR hd;exact⟨fun hg=>have hG:((decide ((sa)=(sb)))=true):=Value.bool.inj ((hd.2.2.1 rfl).symm.trans hg);rn_eql_3 (ev ((hd.1 rfl).1 hG)) (ev ((hd.2.1 rfl).1 hG)) (Zs hG),Zn (hd.2.2.1 rfl)⟩
 ·intro u w hR hd;exact runs_an (ev (hd.1 rfl)) (fun hb=>ev ((hd.2.1 rfl).1 hb)) Zr
 ·intro u w hR hd;exact runs_mv (ev (hd.1 rfl)) Zr
 ·intro u w hR hd;exact⟨fun hg=>have hG:(((decide ((sa)=(sb)))&&((ia)==(ib)))=true):=Value.bool.inj ((hd.1 rfl).symm.trans hg);rn_fld_42_2 (ev rfl) (Zs hG),Zn (hd.1 rfl)⟩
 ·intro u w hR hd;exact⟨fun hg=>have hG:(((decide ((sa)=(sb)))&&((ia)==(ib)))=true):=Value.bool.inj ((hd.2.1 rfl).symm.trans hg);rn_ld_3 (ev ((hd.1 rfl).1 hG)) (d2.kept hR) (Zs hG),Zn (hd.2.1 rfl)⟩
 ·intro u w hR hd;exact⟨fun hg=>have hG:(((decide ((sa)=(sb)))&&((ia)==(ib)))=true):=Value.bool.inj ((hd.1 rfl).symm.trans hg);rn_fld_42_2 (ev rfl) (Zs hG),Zn (hd.1 rfl)⟩
 ·intro u w hR hd;exact⟨fun hg=>have hG:(((decide ((sa)=(sb)))&&((ia)==(ib)))=true):=Value.bool.inj ((hd.2.1 rfl).symm.trans hg);rn_ld_3 (ev ((hd.1 rfl).1 hG)) (e2.kept hR) (Zs hG),Zn (hd.2.1 rfl)⟩
 ·intro u w hR hd;exact⟨fun hg=>have hG:(((decide ((sa)=(sb)))&&((ia)==(ib)))=true):=Value.bool.inj ((hd.2.2.1 rfl).symm.trans hg);rn_eql_3 (ev ((hd.1 rfl).1 hG)) (ev ((hd.2.1 rfl).1 hG)) (Zs hG),Zn (hd.2.2.1 rfl)⟩
 ·intro u w hR hd;exact runs_an (ev (hd.1 rfl)) (fun hb=>ev ((hd.2.1 rfl).1 hb)) Zr
 ·intro u w hR hd;exact runs_mv (ev (hd.1 rfl)) Zr
 ·intro u w hR hd;exact⟨fun hg=>have hG:((((decide ((sa)=(sb)))&&((ia)==(ib)))&&((da)==(db)))=true):=Value.bool.inj ((hd.1 rfl).symm.trans hg);rn_fld_42_3 (ev rfl) (Zs hG),Zn (hd.1 rfl)⟩
 ·intro u w hR hd;exact⟨fun hg=>have hG:((((decide ((sa)=(sb)))&&((ia)==(ib)))&&((da)==(db)))=true):=Value.bool.inj ((hd.2.1 rfl).symm.trans hg);rn_ld_9 (ev ((hd.1 rfl).1 hG)) (d3.kept hR) (Zs hG),Zn (hd.2.1 rfl)⟩
 ·intro u w hR hd;exact⟨fun hg=>have hG:((((decide ((sa)=(sb)))&&((ia)==(ib)))&&((da)==(db)))=true):=Value.bool.inj ((hd.1 rfl).symm.trans hg);rn_fld_42_3 (ev rfl) (Zs hG),Zn (hd.1 rfl)⟩
 ·intro u w hR hd;exact⟨fun hg=>have hG:((((decide ((sa)=(sb)))&&((ia)==(ib)))&&((da)==(db)))=true):=Value.bool.inj ((hd.2.1 rfl).symm.trans hg);rn_ld_9 (ev ((hd.1 rfl).1 hG)) (e3.kept hR) (Zs hG),Zn (hd.2.1 rfl)⟩
 ·intro u w hR hd;exact⟨fun hg=>have hG:((((decide ((sa)=(sb)))&&((ia)==(ib)))&&((da)==(db)))=true):=Value.bool.inj ((hd.2.2.1 rfl).symm.trans hg);rn_eqs_9 (ev ((hd.1 rfl).1 hG)) (ev ((hd.2.1 rfl).1 hG)) (Zs hG),Zn (hd.2.2.1 rfl)⟩
 ·intro u w hR hd;exact runs_an (ev (hd.1 rfl)) (fun hb=>ev ((hd.2.1 rfl).1 hb)) Zr
 ·intro u w hR hd;exact runs_mv (ev (hd.1 rfl)) Zr
 ·intro u w hR hd;exact⟨fun hg=>have hG:(((((decide ((sa)=(sb)))&&((ia)==(ib)))&&((da)==(db)))&&(decide ((ha)=(hb))))=true):=Value.bool.inj ((hd.1 rfl).symm.trans hg);rn_fld_42_4 (ev rfl) (Zs hG),Zn (hd.1 rfl)⟩
 ·intro u w hR hd;exact⟨fun hg=>have hG:(((((decide ((sa)=(sb)))&&((ia)==(ib)))&&((da)==(db)))&&(decide ((ha)=(hb))))=true):=Value.bool.inj ((hd.2.1 rfl).symm.trans hg);rn_ld_9 (ev ((hd.1 rfl).1 hG)) (d4.kept hR) (Zs hG),Zn (hd.2.1 rfl)⟩
 ·intro u w hR hd;exact⟨fun hg=>have hG:(((((decide ((sa)=(sb)))&&((ia)==(ib)))&&((da)==(db)))&&(decide ((ha)=(hb))))=true):=Value.bool.inj ((hd.1 rfl).symm.trans hg);rn_fld_42_4 (ev rfl) (Zs hG),Zn (hd.1 rfl)⟩
 ·intro u w hR hd;exact⟨fun hg=>have hG:(((((decide ((sa)=(sb)))&&((ia)==(ib)))&&((da)==(db)))&&(decide ((ha)=(hb))))=true):=Value.bool.inj ((hd.2.1 rfl).symm.trans hg);rn_ld_9 (ev ((hd.1 rfl).1 hG)) (e4.kept hR) (Zs hG),Zn (hd.2.1 rfl)⟩
 ·intro u w hR hd;exact⟨fun hg=>have hG:(((((decide ((sa)=(sb)))&&((ia)==(ib)))&&((da)==(db)))&&(decide ((ha)=(hb))))=true):=Value.bool.inj ((hd.2.2.1 rfl).symm.trans hg);rn_eqs_9 (ev ((hd.1 rfl).1 hG)) (ev ((hd.2.1 rfl).1 hG)) (Zs hG),Zn (hd.2.2.1 rfl)⟩
 ·intro u w hR hd;exact runs_an (ev (hd.1 rfl)) (fun hb=>ev ((hd.2.1 rfl).1 hb)) Zr
 ·intro u w hR hd;exact runs_mv (ev (hd.1 rfl)) Zr
 ·intro u w hR hd;exact⟨fun hg=>have hG:((((((decide ((sa)=(sb)))&&((ia)==(ib)))&&((da)==(db)))&&(decide ((ha)=(hb))))&&(decide ((ma)=(mb))))=true):=Value.bool.inj ((hd.1 rfl).symm.trans hg);rn_fld_42_5 (ev rfl) (Zs hG),Zn (hd.1 rfl)⟩
 ·intro u w hR hd;exact⟨fun hg=>have hG:((((((decide ((sa)=(sb)))&&((ia)==(ib)))&&((da)==(db)))&&(decide ((ha)=(hb))))&&(decide ((ma)=(mb))))=true):=Value.bool.inj ((hd.2.1 rfl).symm.trans hg);rn_ld_3 (ev ((hd.1 rfl).1 hG)) (d5.kept hR) (Zs hG),Zn (hd.2.1 rfl)⟩
 ·intro u w hR hd;exact⟨fun hg=>have hG:((((((decide ((sa)=(sb)))&&((ia)==(ib)))&&((da)==(db)))&&(decide ((ha)=(hb))))&&(decide ((ma)=(mb))))=true):=Value.bool.inj ((hd.1 rfl).symm.trans hg);rn_fld_42_5 (ev rfl) (Zs hG),Zn (hd.1 rfl)⟩
 ·intro u w hR hd;exact⟨fun hg=>have hG:((((((decide ((sa)=(sb)))&&((ia)==(ib)))&&((da)==(db)))&&(decide ((ha)=(hb))))&&(decide ((ma)=(mb))))=true):=Value.bool.inj ((hd.2.1 rfl).symm.trans hg);rn_ld_3 (ev ((hd.1 rfl).1 hG)) (e5.kept hR) (Zs hG),Zn (hd.2.1 rfl)⟩
 ·intro u w hR hd;exact⟨fun hg=>have hG:((((((decide ((sa)=(sb)))&&((ia)==(ib)))&&((da)==(db)))&&(decide ((ha)=(hb))))&&(decide ((ma)=(mb))))=true):=Value.bool.inj ((hd.2.2.1 rfl).symm.trans hg);rn_eql_3 (ev ((hd.1 rfl).1 hG)) (ev ((hd.2.1 rfl).1 hG)) (Zs hG),Zn (hd.2.2.1 rfl)⟩
 ·intro u w hR hd;exact runs_an (ev (hd.1 rfl)) (fun hb=>ev ((hd.2.1 rfl).1 hb)) Zr
 ·intro u w hR hd;exact runs_mv (ev (hd.1 rfl)) Zr
 ·intro u w hR hd;exact⟨fun hg=>have hG:(((((((decide ((sa)=(sb)))&&((ia)==(ib)))&&((da)==(db)))&&(decide ((ha)=(hb))))&&(decide ((ma)=(mb))))&&((na)==(nb)))=true):=Value.bool.inj ((hd.1 rfl).symm.trans hg);rn_fld_42_6 (ev rfl) (Zs hG),Zn (hd.1 rfl)⟩
 ·intro u w hR hd;exact⟨fun hg=>have hG:(((((((decide ((sa)=(sb)))&&((ia)==(ib)))&&((da)==(db)))&&(decide ((ha)=(hb))))&&(decide ((ma)=(mb))))&&((na)==(nb)))=true):=Value.bool.inj ((hd.2.1 rfl).symm.trans hg);rn_ld_40 (ev ((hd.1 rfl).1 hG)) (d6.kept hR) (Zs hG),Zn (hd.2.1 rfl)⟩
 ·intro u w hR hd;exact⟨fun hg=>have hG:(((((((decide ((sa)=(sb)))&&((ia)==(ib)))&&((da)==(db)))&&(decide ((ha)=(hb))))&&(decide ((ma)=(mb))))&&((na)==(nb)))=true):=Value.bool.inj ((hd.1 rfl).symm.trans hg);rn_fld_42_6 (ev rfl) (Zs hG),Zn (hd.1 rfl)⟩
 ·intro u w hR hd;exact⟨fun hg=>have hG:(((((((decide ((sa)=(sb)))&&((ia)==(ib)))&&((da)==(db)))&&(decide ((ha)=(hb))))&&(decide ((ma)=(mb))))&&((na)==(nb)))=true):=Value.bool.inj ((hd.2.1 rfl).symm.trans hg);rn_ld_40 (ev ((hd.1 rfl).1 hG)) (e6.kept hR) (Zs hG),Zn (hd.2.1 rfl)⟩
 ·intro u w hR hd;exact⟨fun hg=>have hG:(((((((decide ((sa)=(sb)))&&((ia)==(ib)))&&((da)==(db)))&&(decide ((ha)=(hb))))&&(decide ((ma)=(mb))))&&((na)==(nb)))=true):=Value.bool.inj ((hd.2.2.1 rfl).symm.trans hg);runs_c3 en_efS (ev ((hd.1 rfl).1 hG)) (ev ((hd.2.1 rfl).1 hG)) rfl (callp (fun _ e=>⟨fun _=>e,fun hn=>absurd hG hn⟩) (HEY.out _ (HGV.out.trans hR))),Zn (hd.2.2.1 rfl)⟩
 ·intro u w hR hd;exact runs_an (ev (hd.1 rfl)) (fun hb=>ev ((hd.2.1 rfl).1 hb)) Zr
 ·intro u w hR hd;exact runs_mva (ev (hd.1 rfl)) Zr
 ·intro u w4 hR hh
  have he:u 4=.bool (((((((decide ((sa)=(sb)))&&((ia)==(ib)))&&((da)==(db)))&&(decide ((ha)=(hb))))&&(decide ((ma)=(mb))))&&((na)==(nb)))&&(eqL eqS ya yb)):=hh 47 (by decide)
  rw [HEQ.out] at he
  simp only [mixA,mixL,zz9,zz0,he]
  have HG4:Hid (Grew w w4):=Lib.hid (HGV.out.trans hR)
  clear hh he hR d0 d1 d2 d3 d4 d5 d6 d7 e0 e1 e2 e3 e4 e5 e6 e7 HGV
  go_wp2
  go_ret
  exact⟨rfl,HG4.out⟩
theorem eqP_eq2 (csa:List Cn) (gsa:List Gl) (ssa osa:List ByteArray) (hsa:List Cn) (tsa:List Ta) (csb:List Cn) (gsb:List Gl) (ssb osb:List ByteArray) (hsb:List Cn) (tsb:List Ta):((((((eqL eqCn csa csb)&&(eqL eqGl gsa gsb))&&(decide (ssa=ssb)))&&(decide (osa=osb)))&&(eqL eqCn hsa hsb))&&(eqL eqTa tsa tsb))=eqPg ⟨csa,gsa,ssa,osa,hsa,tsa⟩ ⟨csb,gsb,ssb,osb,hsb,tsb⟩:=by
 rw [eqPg]
set_option maxHeartbeats 8000000 in
theorem eqPP_any (P Q:Pg) (A B:Nat→Prop) (w:World) (cpa gpa spa opa hpa tpa:Option Addr) (cca gca sca oca hca tca:Nat) (cpb gpb spb opb hpb tpb:Option Addr) (ccb gcb scb ocb hcb tcb:Nat)
 (hp:PgIn A w P cpa gpa spa opa hpa tpa cca gca sca oca hca tca) (hq:PgIn B w Q cpb gpb spb opb hpb tpb ccb gcb scb ocb hcb tcb) :
 Calls Tryz.prog 20 #[pgv P cpa gpa spa opa hpa tpa cca gca sca oca hca tca,pgv Q cpb gpb spb opb hpb tpb ccb gcb scb ocb hcb tcb] w fun e w'=>e=.returned (.bool (eqPg P Q))∧Grew w w':=by
 have hcaps:=And.intro hp.caps hq.caps
 obtain ⟨csa,gsa,ssa,osa,hsa,tsa⟩:=P
 obtain ⟨csb,gsb,ssb,osb,hsb,tsb⟩:=Q
 have HPG:=Lib.hid hp
 have HQG_:=Lib.hid hq
 dsimp only at hcaps
 have HQC:Hid (∀W,Grew w W→Calls Tryz.prog 65 #[.slice cpa csa.length cca,.slice cpb csb.length ccb,.func (.func 66) #[] #[]] W fun e w'=>e=.returned (.bool (eqL eqCn csa csb))∧Grew W w') :=
  Lib.hid (fun W hW=>eqfC_any 66 #[] en_eC csa csb eqCn A B W _ _ _ _ (HPG.out.kept hW).cs.2 (HQG_.out.kept hW).cs.2 (fun x _ y _ W2 _=>eqC_any x.s y.s x.v y.v x.q y.q W2))
 have HQG:Hid (∀W,Grew w W→Calls Tryz.prog 67 #[.slice gpa gsa.length gca,.slice gpb gsb.length gcb,.func (.func 68) #[] #[]] W fun e w'=>e=.returned (.bool (eqL eqGl gsa gsb))∧Grew W w') :=
  Lib.hid (fun W hW=>eqfG_any 68 #[] en_eG gsa gsb eqGl A B W _ _ _ _ (HPG.out.kept hW).gs.2 (HQG_.out.kept hW).gs.2 (fun x _ y _ W2 _=>eqG_any x.s y.s x.l y.l x.i y.i x.q y.q W2))
 have HQS:Hid (∀W,Grew w W→Calls Tryz.prog 69 #[.slice spa ssa.length sca,.slice spb ssb.length scb] W fun e w'=>e=.returned (.bool (decide (ssa=ssb)))∧Grew W w'):=Lib.hid (fun W hW=>eqN_any ssa ssb A B W _ _ _ _ (HPG.out.kept hW).ss.2 (HQG_.out.kept hW).ss.2)
 have HQO:Hid (∀W,Grew w W→Calls Tryz.prog 69 #[.slice opa osa.length oca,.slice opb osb.length ocb] W fun e w'=>e=.returned (.bool (decide (osa=osb)))∧Grew W w'):=Lib.hid (fun W hW=>eqN_any osa osb A B W _ _ _ _ (HPG.out.kept hW).os.2 (HQG_.out.kept hW).os.2)
 have HQH:Hid (∀W,Grew w W→Calls Tryz.prog 70 #[.slice hpa hsa.length hca,.slice hpb hsb.length hcb,.func (.func 71) #[] #[]] W fun e w'=>e=.returned (.bool (eqL eqCn hsa hsb))∧Grew W w') :=
  Lib.hid (fun W hW=>eqfH_any 71 #[] en_eH hsa hsb eqCn A B W _ _ _ _ (HPG.out.kept hW).hs.2 (HQG_.out.kept hW).hs.2 (fun x _ y _ W2 _=>eqH_any x.s y.s x.v y.v x.q y.q W2))
 have HQT:Hid (∀W,Grew w W→Calls Tryz.prog 72 #[.slice tpa tsa.length tca,.slice tpb tsb.length tcb,.func (.func 73) #[] #[]] W fun e w'=>e=.returned (.bool (eqL eqTa tsa tsb))∧Grew W w') :=
  Lib.hid (fun W hW=>eqfT_any 73 #[] en_eT tsa tsb eqTa A B W _ _ _ _ (HPG.out.kept hW).ts (HQG_.out.kept hW).ts (fun x _ y _ a1 a2 b1 b2 W2 h1 _ h2 _ _=>eqTP_any x y A B W2 a1 a2 b1 b2 h1 h2))
 have HEQ:=Lib.hid (eqP_eq2 csa gsa ssa osa hsa tsa csb gsb ssb osb hsb tsb)
 show Calls Tryz.prog 20 #[.agg #[.slice cpa csa.length cca,.slice gpa gsa.length gca,.slice spa ssa.length sca,.slice opa osa.length oca,.slice hpa hsa.length hca,.slice tpa tsa.length tca],.agg #[.slice cpb csb.length ccb,.slice gpb gsb.length gcb,.slice spb ssb.length scb,.slice opb osb.length ocb,.slice hpb hsb.length hcb,.slice tpb tsb.length tcb]] w fun e w'=>e=.returned (.bool (eqPg ⟨csa,gsa,ssa,osa,hsa,tsa⟩ ⟨csb,gsb,ssb,osb,hsb,tsb⟩))∧Grew w w'
 clear hp hq HPG HQG_
 go_enter Tryz.func20,Tryz.ntmps20
 go_upto_region 1 with fail
 have hb1:Blk w.heap.size [.slice cpa csa.length cca,.slice gpa gsa.length gca,.slice spa ssa.length sca,.slice opa osa.length oca,.slice hpa hsa.length hca,.slice tpa tsa.length tca] 28 (w.alloc (Obj.cells #[.slice cpa csa.length cca,.slice gpa gsa.length gca,.slice spa ssa.length sca,.slice opa osa.length oca,.slice hpa hsa.length hca,.slice tpa tsa.length tca] 28)):=Blk.new w _ _
 have hb2:Blk (w.alloc (Obj.cells #[.slice cpa csa.length cca,.slice gpa gsa.length gca,.slice spa ssa.length sca,.slice opa osa.length oca,.slice hpa hsa.length hca,.slice tpa tsa.length tca] 28)).heap.size [.slice cpb csb.length ccb,.slice gpb gsb.length gcb,.slice spb ssb.length scb,.slice opb osb.length ocb,.slice hpb hsb.length hcb,.slice tpb tsb.length tcb] 28 ((w.alloc (Obj.cells #[.slice cpa csa.length cca,.slice gpa gsa.length gca,.slice spa ssa.length sca,.slice opa osa.length oca,.slice hpa hsa.length hca,.slice tpa tsa.length tca] 28)).alloc (Obj.cells #[.slice cpb csb.length ccb,.slice gpb gsb.length gcb,.slice spb ssb.length scb,.slice opb osb.length ocb,.slice hpb hsb.length hcb,.slice tpb tsb.length tcb] 28)):=Blk.new _ _ _
 have hb3:=hb1.grew ((Grew.refl _).alloc (Obj.cells #[.slice cpb csb.length ccb,.slice gpb gsb.length gcb,.slice spb ssb.length scb,.slice opb osb.length ocb,.slice hpb hsb.length hcb,.slice tpb tsb.length tcb] 28))
 have hgV:Grew w ((w.alloc (Obj.cells #[.slice cpa csa.length cca,.slice gpa gsa.length gca,.slice spa ssa.length sca,.slice opa osa.length oca,.slice hpa hsa.length hca,.slice tpa tsa.length tca] 28)).alloc (Obj.cells #[.slice cpb csb.length ccb,.slice gpb gsb.length gcb,.slice spb ssb.length scb,.slice opb osb.length ocb,.slice hpb hsb.length hcb,.slice tpb tsb.length tcb] 28)):=((Grew.refl w).alloc _).alloc _
 rw [alloc_sz] at hb2
 try rw [alloc_sz]
 generalize ((w.alloc (Obj.cells #[.slice cpa csa.length cca,.slice gpa gsa.length gca,.slice spa ssa.length sca,.slice opa osa.length oca,.slice hpa hsa.length hca,.slice tpa tsa.length tca] 28)).alloc (Obj.cells #[.slice cpb csb.length ccb,.slice gpb gsb.length gcb,.slice spb ssb.length scb,.slice opb osb.length ocb,.slice hpb hsb.length hcb,.slice tpb tsb.length tcb] 28))=V at hb2 hb3 hgV ⊢
 generalize w.heap.size+1=U at hb2 ⊢
 generalize w.heap.size=T at hb3 ⊢
 have HGV:=Lib.hid hgV
 have d0:Atv ⟨T,0,none⟩ (.slice cpa csa.length cca) V:=hb3.atv 0 rfl
 have d1:Atv ⟨T,1,none⟩ (.slice gpa gsa.length gca) V:=hb3.atv 1 rfl
 have d2:Atv ⟨T,2,none⟩ (.slice spa ssa.length sca) V:=hb3.atv 2 rfl
 have d3:Atv ⟨T,3,none⟩ (.slice opa osa.length oca) V:=hb3.atv 3 rfl
 have d4:Atv ⟨T,4,none⟩ (.slice hpa hsa.length hca) V:=hb3.atv 4 rfl
 have d5:Atv ⟨T,5,none⟩ (.slice tpa tsa.length tca) V:=hb3.atv 5 rfl
 have e0:Atv ⟨U,0,none⟩ (.slice cpb csb.length ccb) V:=hb2.atv 0 rfl
 have e1:Atv ⟨U,1,none⟩ (.slice gpb gsb.length gcb) V:=hb2.atv 1 rfl
 have e2:Atv ⟨U,2,none⟩ (.slice spb ssb.length scb) V:=hb2.atv 2 rfl
 have e3:Atv ⟨U,3,none⟩ (.slice opb osb.length ocb) V:=hb2.atv 3 rfl
 have e4:Atv ⟨U,4,none⟩ (.slice hpb hsb.length hcb) V:=hb2.atv 4 rfl
 have e5:Atv ⟨U,5,none⟩ (.slice tpb tsb.length tcb) V:=hb2.atv 5 rfl
 clear hb1 hb2 hb3 hgV
 refine wp_postsL [some 5,some 6,some 7,some 8,some 9,some 10,some 11,some 12,some 13,some 14,some 15,some 16,some 17,some 18,some 19,some 20,some 21,some 22,some 23,some 24,some 25,some 26,some 27,some 28,some 29,some 30,some 31,some 32,some 33,some 34,some 35,some 36,some 37,some 38,some 39,some 40,some 41,some 42,some 43,some 44,some 4] zD2 [fun v _=>v=.pointer (some ⟨T,0,none⟩),fun v _=>v=.slice cpa (csa.length) (cca),fun v _=>v=.pointer (some ⟨U,0,none⟩),fun v _=>v=.slice cpb (csb.length) (ccb),fun v _=>v=.bool (eqL eqCn csa csb),fun v _=>v=.bool (eqL eqCn csa csb),fun v _=>(((eqL eqCn csa csb)=true)→v=.pointer (some ⟨T,1,none⟩))∧(¬ ((eqL eqCn csa csb)=true)→v=undef),fun v _=>(((eqL eqCn csa csb)=true)→v=.slice gpa (gsa.length) (gca))∧(¬ ((eqL eqCn csa csb)=true)→v=undef),fun v _=>(((eqL eqCn csa csb)=true)→v=.pointer (some ⟨U,1,none⟩))∧(¬ ((eqL eqCn csa csb)=true)→v=undef),fun v _=>(((eqL eqCn csa csb)=true)→v=.slice gpb (gsb.length) (gcb))∧(¬ ((eqL eqCn csa csb)=true)→v=undef),fun v _=>(((eqL eqCn csa csb)=true)→v=.bool (eqL eqGl gsa gsb))∧(¬ ((eqL eqCn csa csb)=true)→v=undef),fun v _=>v=.bool ((eqL eqCn csa csb)&&(eqL eqGl gsa gsb)),fun v _=>v=.bool ((eqL eqCn csa csb)&&(eqL eqGl gsa gsb)),fun v _=>((((eqL eqCn csa csb)&&(eqL eqGl gsa gsb))=true)→v=.pointer (some ⟨T,2,none⟩))∧(¬ (((eqL eqCn csa csb)&&(eqL eqGl gsa gsb))=true)→v=undef),fun v _=>((((eqL eqCn csa csb)&&(eqL eqGl gsa gsb))=true)→v=.slice spa (ssa.length) (sca))∧(¬ (((eqL eqCn csa csb)&&(eqL eqGl gsa gsb))=true)→v=undef),fun v _=>((((eqL eqCn csa csb)&&(eqL eqGl gsa gsb))=true)→v=.pointer (some ⟨U,2,none⟩))∧(¬ (((eqL eqCn csa csb)&&(eqL eqGl gsa gsb))=true)→v=undef),fun v _=>((((eqL eqCn csa csb)&&(eqL eqGl gsa gsb))=true)→v=.slice spb (ssb.length) (scb))∧(¬ (((eqL eqCn csa csb)&&(eqL eqGl gsa gsb))=true)→v=undef),fun v _=>((((eqL eqCn csa csb)&&(eqL eqGl gsa gsb))=true)→v=.bool (decide (ssa=ssb)))∧(¬ (((eqL eqCn csa csb)&&(eqL eqGl gsa gsb))=true)→v=undef),fun v _=>v=.bool (((eqL eqCn csa csb)&&(eqL eqGl gsa gsb))&&(decide (ssa=ssb))),fun v _=>v=.bool (((eqL eqCn csa csb)&&(eqL eqGl gsa gsb))&&(decide (ssa=ssb))),fun v _=>(((((eqL eqCn csa csb)&&(eqL eqGl gsa gsb))&&(decide (ssa=ssb)))=true)→v=.pointer (some ⟨T,3,none⟩))∧(¬ ((((eqL eqCn csa csb)&&(eqL eqGl gsa gsb))&&(decide (ssa=ssb)))=true)→v=undef),fun v _=>(((((eqL eqCn csa csb)&&(eqL eqGl gsa gsb))&&(decide (ssa=ssb)))=true)→v=.slice opa (osa.length) (oca))∧(¬ ((((eqL eqCn csa csb)&&(eqL eqGl gsa gsb))&&(decide (ssa=ssb)))=true)→v=undef),fun v _=>(((((eqL eqCn csa csb)&&(eqL eqGl gsa gsb))&&(decide (ssa=ssb)))=true)→v=.pointer (some ⟨U,3,none⟩))∧(¬ ((((eqL eqCn csa csb)&&(eqL eqGl gsa gsb))&&(decide (ssa=ssb)))=true)→v=undef),fun v _=>(((((eqL eqCn csa csb)&&(eqL eqGl gsa gsb))&&(decide (ssa=ssb)))=true)→v=.slice opb (osb.length) (ocb))∧(¬ ((((eqL eqCn csa csb)&&(eqL eqGl gsa gsb))&&(decide (ssa=ssb)))=true)→v=undef),fun v _=>(((((eqL eqCn csa csb)&&(eqL eqGl gsa gsb))&&(decide (ssa=ssb)))=true)→v=.bool (decide (osa=osb)))∧(¬ ((((eqL eqCn csa csb)&&(eqL eqGl gsa gsb))&&(decide (ssa=ssb)))=true)→v=undef),fun v _=>v=.bool ((((eqL eqCn csa csb)&&(eqL eqGl gsa gsb))&&(decide (ssa=ssb)))&&(decide (osa=osb))),fun v _=>v=.bool ((((eqL eqCn csa csb)&&(eqL eqGl gsa gsb))&&(decide (ssa=ssb)))&&(decide (osa=osb))),fun v _=>((((((eqL eqCn csa csb)&&(eqL eqGl gsa gsb))&&(decide (ssa=ssb)))&&(decide (osa=osb)))=true)→v=.pointer (some ⟨T,4,none⟩))∧(¬ (((((eqL eqCn csa csb)&&(eqL eqGl gsa gsb))&&(decide (ssa=ssb)))&&(decide (osa=osb)))=true)→v=undef),fun v _=>((((((eqL eqCn csa csb)&&(eqL eqGl gsa gsb))&&(decide (ssa=ssb)))&&(decide (osa=osb)))=true)→v=.slice hpa (hsa.length) (hca))∧(¬ (((((eqL eqCn csa csb)&&(eqL eqGl gsa gsb))&&(decide (ssa=ssb)))&&(decide (osa=osb)))=true)→v=undef),fun v _=>((((((eqL eqCn csa csb)&&(eqL eqGl gsa gsb))&&(decide (ssa=ssb)))&&(decide (osa=osb)))=true)→v=.pointer (some ⟨U,4,none⟩))∧(¬ (((((eqL eqCn csa csb)&&(eqL eqGl gsa gsb))&&(decide (ssa=ssb)))&&(decide (osa=osb)))=true)→v=undef),fun v _=>((((((eqL eqCn csa csb)&&(eqL eqGl gsa gsb))&&(decide (ssa=ssb)))&&(decide (osa=osb)))=true)→v=.slice hpb (hsb.length) (hcb))∧(¬ (((((eqL eqCn csa csb)&&(eqL eqGl gsa gsb))&&(decide (ssa=ssb)))&&(decide (osa=osb)))=true)→v=undef),fun v _=>((((((eqL eqCn csa csb)&&(eqL eqGl gsa gsb))&&(decide (ssa=ssb)))&&(decide (osa=osb)))=true)→v=.bool (eqL eqCn hsa hsb))∧(¬ (((((eqL eqCn csa csb)&&(eqL eqGl gsa gsb))&&(decide (ssa=ssb)))&&(decide (osa=osb)))=true)→v=undef),fun v _=>v=.bool (((((eqL eqCn csa csb)&&(eqL eqGl gsa gsb))&&(decide (ssa=ssb)))&&(decide (osa=osb)))&&(eqL eqCn hsa hsb)),fun v _=>v=.bool (((((eqL eqCn csa csb)&&(eqL eqGl gsa gsb))&&(decide (ssa=ssb)))&&(decide (osa=osb)))&&(eqL eqCn hsa hsb)),fun v _=>(((((((eqL eqCn csa csb)&&(eqL eqGl gsa gsb))&&(decide (ssa=ssb)))&&(decide (osa=osb)))&&(eqL eqCn hsa hsb))=true)→v=.pointer (some ⟨T,5,none⟩))∧(¬ ((((((eqL eqCn csa csb)&&(eqL eqGl gsa gsb))&&(decide (ssa=ssb)))&&(decide (osa=osb)))&&(eqL eqCn hsa hsb))=true)→v=undef),fun v _=>(((((((eqL eqCn csa csb)&&(eqL eqGl gsa gsb))&&(decide (ssa=ssb)))&&(decide (osa=osb)))&&(eqL eqCn hsa hsb))=true)→v=.slice tpa (tsa.length) (tca))∧(¬ ((((((eqL eqCn csa csb)&&(eqL eqGl gsa gsb))&&(decide (ssa=ssb)))&&(decide (osa=osb)))&&(eqL eqCn hsa hsb))=true)→v=undef),fun v _=>(((((((eqL eqCn csa csb)&&(eqL eqGl gsa gsb))&&(decide (ssa=ssb)))&&(decide (osa=osb)))&&(eqL eqCn hsa hsb))=true)→v=.pointer (some ⟨U,5,none⟩))∧(¬ ((((((eqL eqCn csa csb)&&(eqL eqGl gsa gsb))&&(decide (ssa=ssb)))&&(decide (osa=osb)))&&(eqL eqCn hsa hsb))=true)→v=undef),fun v _=>(((((((eqL eqCn csa csb)&&(eqL eqGl gsa gsb))&&(decide (ssa=ssb)))&&(decide (osa=osb)))&&(eqL eqCn hsa hsb))=true)→v=.slice tpb (tsb.length) (tcb))∧(¬ ((((((eqL eqCn csa csb)&&(eqL eqGl gsa gsb))&&(decide (ssa=ssb)))&&(decide (osa=osb)))&&(eqL eqCn hsa hsb))=true)→v=undef),fun v _=>(((((((eqL eqCn csa csb)&&(eqL eqGl gsa gsb))&&(decide (ssa=ssb)))&&(decide (osa=osb)))&&(eqL eqCn hsa hsb))=true)→v=.bool (eqL eqTa tsa tsb))∧(¬ ((((((eqL eqCn csa csb)&&(eqL eqGl gsa gsb))&&(decide (ssa=ssb)))&&(decide (osa=osb)))&&(eqL eqCn hsa hsb))=true)→v=undef),fun v _=>v=.bool ((((((eqL eqCn csa csb)&&(eqL eqGl gsa gsb))&&(decide (ssa=ssb)))&&(decide (osa=osb)))&&(eqL eqCn hsa hsb))&&(eqL eqTa tsa tsb)),fun v _=>v=.bool ((((((eqL eqCn csa csb)&&(eqL eqGl gsa gsb))&&(decide (ssa=ssb)))&&(decide (osa=osb)))&&(eqL eqCn hsa hsb))&&(eqL eqTa tsa tsb))] (by kernel_rfl) rfl ?_ ⟨?_,?_,?_,?_,?_,?_,?_,?_,?_,?_,?_,?_,?_,?_,?_,?_,?_,?_,?_,?_,?_,?_,?_,?_,?_,?_,?_,?_,?_,?_,?_,?_,?_,?_,?_,?_,?_,?_,?_,?_,?_,trivial⟩ ?_
 ·exact⟨Zi,Zi,Zi,Zi,Zi,Zi,Zi,Zi,Zi,Zi,Zi,Zi,Zi,Zi,Zi,Zi,Zi,Zi,Zi,Zi,Zi,Zi,Zi,Zi,Zi,Zi,Zi,Zi,Zi,Zi,Zi,Zi,Zi,Zi,Zi,Zi,Zi,Zi,Zi,Zi,Zi,trivial⟩
 ·intro u w hR hd;exact rn_fld_28_0 (ev rfl) Zr
 ·intro u w hR hd;exact rn_ld_22 (ev (hd.1 rfl)) (d0.kept hR) Zr
 ·intro u w hR hd;exact rn_fld_28_0 (ev rfl) Zr
 ·intro u w hR hd;exact rn_ld_22 (ev (hd.1 rfl)) (e0.kept hR) Zr
 ·intro u w hR hd;exact runs_c3 en_efC (ev (hd.1 rfl)) (ev (hd.2.1 rfl)) rfl (callp (fun _ e=>e) (HQC.out _ (HGV.out.trans hR)))
 ·intro u w hR hd;exact runs_mv (ev (hd.1 rfl)) Zr
 ·intro u w hR hd;exact⟨fun hg=>have hG:((eqL eqCn csa csb)=true):=Value.bool.inj ((hd.1 rfl).symm.trans hg);rn_fld_28_1 (ev rfl) (Zs hG),Zn (hd.1 rfl)⟩
 ·intro u w hR hd;exact⟨fun hg=>have hG:((eqL eqCn csa csb)=true):=Value.bool.inj ((hd.2.1 rfl).symm.trans hg);rn_ld_23 (ev ((hd.1 rfl).1 hG)) (d1.kept hR) (Zs hG),Zn (hd.2.1 rfl)⟩
 ·intro u w hR hd;exact⟨fun hg=>have hG:((eqL eqCn csa csb)=true):=Value.bool.inj ((hd.1 rfl).symm.trans hg);rn_fld_28_1 (ev rfl) (Zs hG),Zn (hd.1 rfl)⟩
 ·intro u w hR hd;exact⟨fun hg=>have hG:((eqL eqCn csa csb)=true):=Value.bool.inj ((hd.2.1 rfl).symm.trans hg);rn_ld_23 (ev ((hd.1 rfl).1 hG)) (e1.kept hR) (Zs hG),Zn (hd.2.1 rfl)⟩
 ·intro u w hR hd;exact⟨fun hg=>have hG:((eqL eqCn csa csb)=true):=Value.bool.inj ((hd.2.2.1 rfl).symm.trans hg);runs_c3 en_efG (ev ((hd.1 rfl).1 hG)) (ev ((hd.2.1 rfl).1 hG)) rfl (callp (fun _ e=>⟨fun _=>e,fun hn=>absurd hG hn⟩) (HQG.out _ (HGV.out.trans hR))),Zn (hd.2.2.1 rfl)⟩
 ·intro u w hR hd;exact runs_an (ev (hd.1 rfl)) (fun hb=>ev ((hd.2.1 rfl).1 hb)) Zr
 ·intro u w hR hd;exact runs_mv (ev (hd.1 rfl)) Zr
 ·intro u w hR hd;exact⟨fun hg=>have hG:(((eqL eqCn csa csb)&&(eqL eqGl gsa gsb))=true):=Value.bool.inj ((hd.1 rfl).symm.trans hg);rn_fld_28_2 (ev rfl) (Zs hG),Zn (hd.1 rfl)⟩
 ·intro u w hR hd;exact⟨fun hg=>have hG:(((eqL eqCn csa csb)&&(eqL eqGl gsa gsb))=true):=Value.bool.inj ((hd.2.1 rfl).symm.trans hg);rn_ld_24 (ev ((hd.1 rfl).1 hG)) (d2.kept hR) (Zs hG),Zn (hd.2.1 rfl)⟩
 ·intro u w hR hd;exact⟨fun hg=>have hG:(((eqL eqCn csa csb)&&(eqL eqGl gsa gsb))=true):=Value.bool.inj ((hd.1 rfl).symm.trans hg);rn_fld_28_2 (ev rfl) (Zs hG),Zn (hd.1 rfl)⟩
 ·intro u w hR hd;exact⟨fun hg=>have hG:(((eqL eqCn csa csb)&&(eqL eqGl gsa gsb))=true):=Value.bool.inj ((hd.2.1 rfl).symm.trans hg);rn_ld_24 (ev ((hd.1 rfl).1 hG)) (e2.kept hR) (Zs hG),Zn (hd.2.1 rfl)⟩
 ·intro u w hR hd;exact⟨fun hg=>have hG:(((eqL eqCn csa csb)&&(eqL eqGl gsa gsb))=true):=Value.bool.inj ((hd.2.2.1 rfl).symm.trans hg);runs_c2 en_sl (ev ((hd.1 rfl).1 hG)) (ev ((hd.2.1 rfl).1 hG)) (callp (fun _ e=>⟨fun _=>e,fun hn=>absurd hG hn⟩) (HQS.out _ (HGV.out.trans hR))),Zn (hd.2.2.1 rfl)⟩
 ·intro u w hR hd;exact runs_an (ev (hd.1 rfl)) (fun hb=>ev ((hd.2.1 rfl).1 hb)) Zr
 ·intro u w hR hd;exact runs_mv (ev (hd.1 rfl)) Zr
 ·intro u w hR hd;exact⟨fun hg=>have hG:((((eqL eqCn csa csb)&&(eqL eqGl gsa gsb))&&(decide (ssa=ssb)))=true):=Value.bool.inj ((hd.1 rfl).symm.trans hg);rn_fld_28_3 (ev rfl) (Zs hG),Zn (hd.1 rfl)⟩
 ·intro u w hR hd;exact⟨fun hg=>have hG:((((eqL eqCn csa csb)&&(eqL eqGl gsa gsb))&&(decide (ssa=ssb)))=true):=Value.bool.inj ((hd.2.1 rfl).symm.trans hg);rn_ld_24 (ev ((hd.1 rfl).1 hG)) (d3.kept hR) (Zs hG),Zn (hd.2.1 rfl)⟩
 ·intro u w hR hd;exact⟨fun hg=>have hG:((((eqL eqCn csa csb)&&(eqL eqGl gsa gsb))&&(decide (ssa=ssb)))=true):=Value.bool.inj ((hd.1 rfl).symm.trans hg);rn_fld_28_3 (ev rfl) (Zs hG),Zn (hd.1 rfl)⟩
 ·intro u w hR hd;exact⟨fun hg=>have hG:((((eqL eqCn csa csb)&&(eqL eqGl gsa gsb))&&(decide (ssa=ssb)))=true):=Value.bool.inj ((hd.2.1 rfl).symm.trans hg);rn_ld_24 (ev ((hd.1 rfl).1 hG)) (e3.kept hR) (Zs hG),Zn (hd.2.1 rfl)⟩
 ·intro u w hR hd;exact⟨fun hg=>have hG:((((eqL eqCn csa csb)&&(eqL eqGl gsa gsb))&&(decide (ssa=ssb)))=true):=Value.bool.inj ((hd.2.2.1 rfl).symm.trans hg);runs_c2 en_sl (ev ((hd.1 rfl).1 hG)) (ev ((hd.2.1 rfl).1 hG)) (callp (fun _ e=>⟨fun _=>e,fun hn=>absurd hG hn⟩) (HQO.out _ (HGV.out.trans hR))),Zn (hd.2.2.1 rfl)⟩
 ·intro u w hR hd;exact runs_an (ev (hd.1 rfl)) (fun hb=>ev ((hd.2.1 rfl).1 hb)) Zr
 ·intro u w hR hd;exact runs_mv (ev (hd.1 rfl)) Zr
 ·intro u w hR hd;exact⟨fun hg=>have hG:(((((eqL eqCn csa csb)&&(eqL eqGl gsa gsb))&&(decide (ssa=ssb)))&&(decide (osa=osb)))=true):=Value.bool.inj ((hd.1 rfl).symm.trans hg);rn_fld_28_4 (ev rfl) (Zs hG),Zn (hd.1 rfl)⟩
 ·intro u w hR hd;exact⟨fun hg=>have hG:(((((eqL eqCn csa csb)&&(eqL eqGl gsa gsb))&&(decide (ssa=ssb)))&&(decide (osa=osb)))=true):=Value.bool.inj ((hd.2.1 rfl).symm.trans hg);rn_ld_25 (ev ((hd.1 rfl).1 hG)) (d4.kept hR) (Zs hG),Zn (hd.2.1 rfl)⟩
 ·intro u w hR hd;exact⟨fun hg=>have hG:(((((eqL eqCn csa csb)&&(eqL eqGl gsa gsb))&&(decide (ssa=ssb)))&&(decide (osa=osb)))=true):=Value.bool.inj ((hd.1 rfl).symm.trans hg);rn_fld_28_4 (ev rfl) (Zs hG),Zn (hd.1 rfl)⟩
 ·intro u w hR hd;exact⟨fun hg=>have hG:(((((eqL eqCn csa csb)&&(eqL eqGl gsa gsb))&&(decide (ssa=ssb)))&&(decide (osa=osb)))=true):=Value.bool.inj ((hd.2.1 rfl).symm.trans hg);rn_ld_25 (ev ((hd.1 rfl).1 hG)) (e4.kept hR) (Zs hG),Zn (hd.2.1 rfl)⟩
 ·intro u w hR hd;exact⟨fun hg=>have hG:(((((eqL eqCn csa csb)&&(eqL eqGl gsa gsb))&&(decide (ssa=ssb)))&&(decide (osa=osb)))=true):=Value.bool.inj ((hd.2.2.1 rfl).symm.trans hg);runs_c3 en_efH (ev ((hd.1 rfl).1 hG)) (ev ((hd.2.1 rfl).1 hG)) rfl (callp (fun _ e=>⟨fun _=>e,fun hn=>absurd hG hn⟩) (HQH.out _ (HGV.out.trans hR))),Zn (hd.2.2.1 rfl)⟩
 ·intro u w hR hd;exact runs_an (ev (hd.1 rfl)) (fun hb=>ev ((hd.2.1 rfl).1 hb)) Zr
 ·intro u w hR hd;exact runs_mv (ev (hd.1 rfl)) Zr
 ·intro u w hR hd;exact⟨fun hg=>have hG:((((((eqL eqCn csa csb)&&(eqL eqGl gsa gsb))&&(decide (ssa=ssb)))&&(decide (osa=osb)))&&(eqL eqCn hsa hsb))=true):=Value.bool.inj ((hd.1 rfl).symm.trans hg);rn_fld_28_5 (ev rfl) (Zs hG),Zn (hd.1 rfl)⟩
 ·intro u w hR hd;exact⟨fun hg=>have hG:((((((eqL eqCn csa csb)&&(eqL eqGl gsa gsb))&&(decide (ssa=ssb)))&&(decide (osa=osb)))&&(eqL eqCn hsa hsb))=true):=Value.bool.inj ((hd.2.1 rfl).symm.trans hg);rn_ld_26 (ev ((hd.1 rfl).1 hG)) (d5.kept hR) (Zs hG),Zn (hd.2.1 rfl)⟩
 ·intro u w hR hd;exact⟨fun hg=>have hG:((((((eqL eqCn csa csb)&&(eqL eqGl gsa gsb))&&(decide (ssa=ssb)))&&(decide (osa=osb)))&&(eqL eqCn hsa hsb))=true):=Value.bool.inj ((hd.1 rfl).symm.trans hg);rn_fld_28_5 (ev rfl) (Zs hG),Zn (hd.1 rfl)⟩
 ·intro u w hR hd;exact⟨fun hg=>have hG:((((((eqL eqCn csa csb)&&(eqL eqGl gsa gsb))&&(decide (ssa=ssb)))&&(decide (osa=osb)))&&(eqL eqCn hsa hsb))=true):=Value.bool.inj ((hd.2.1 rfl).symm.trans hg);rn_ld_26 (ev ((hd.1 rfl).1 hG)) (e5.kept hR) (Zs hG),Zn (hd.2.1 rfl)⟩
 ·intro u w hR hd;exact⟨fun hg=>have hG:((((((eqL eqCn csa csb)&&(eqL eqGl gsa gsb))&&(decide (ssa=ssb)))&&(decide (osa=osb)))&&(eqL eqCn hsa hsb))=true):=Value.bool.inj ((hd.2.2.1 rfl).symm.trans hg);runs_c3 en_efT (ev ((hd.1 rfl).1 hG)) (ev ((hd.2.1 rfl).1 hG)) rfl (callp (fun _ e=>⟨fun _=>e,fun hn=>absurd hG hn⟩) (HQT.out _ (HGV.out.trans hR))),Zn (hd.2.2.1 rfl)⟩
 ·intro u w hR hd;exact runs_an (ev (hd.1 rfl)) (fun hb=>ev ((hd.2.1 rfl).1 hb)) Zr
 ·intro u w hR hd;exact runs_mva (ev (hd.1 rfl)) Zr
 ·intro u w4 hR hh
  have he:u 4=.bool ((((((eqL eqCn csa csb)&&(eqL eqGl gsa gsb))&&(decide (ssa=ssb)))&&(decide (osa=osb)))&&(eqL eqCn hsa hsb))&&(eqL eqTa tsa tsb)):=hh 40 (by decide)
  rw [HEQ.out] at he
  simp only [mixA,mixL,zz9,zz0,he]
  have HG4:Hid (Grew w w4):=Lib.hid (HGV.out.trans hR)
  clear hh he hR d0 d1 d2 d3 d4 d5 e0 e1 e2 e3 e4 e5 HGV
  go_wp2
  go_ret
  exact⟨rfl,HG4.out⟩
end Go.Proofs.YtcknpcbkofgdoaaGreatDoor
namespace Go.Proofs.YtcknpcbkofgdoaaGreatDoor
open Go
open Go.Lib (decDigits)
set_option linter.unusedSimpArgs false
set_option linter.unusedVariables false
set_option maxRecDepth 8000
theorem stXs_len':∀l:List Xp,(stXs l).length=l.length
 | []=>by rw [stXs]
 | x :: l=>by rw [stXs,List.length_cons,List.length_cons,stXs_len' l]
theorem eqH_iff (k k' v v' o o':Int) (s s':ByteArray) (n n':Nat):eqH k s v o n k' s' v' o' n'=true↔k=k'∧s=s'∧v=v'∧o=o'∧n=n':=by
 rw [eqH,Bool.not_eq_true']
 simp only [Bool.or_eq_false_iff,bne_eq_false_iff_eq,Bool.not_eq_false',decide_eq_true_eq,Int.natCast_inj,and_assoc]
theorem eqHS_iff (k k' n n':Int) (s s':ByteArray) (l l':Nat) (m1 m2:Bool):eqHS k s n l k' s' n' l' m1 m2=true↔k=k'∧s=s'∧n=n'∧l=l'∧m1=true∧m2=true:=by
 rw [eqHS,Bool.not_eq_true']
 simp only [Bool.or_eq_false_iff,bne_eq_false_iff_eq,Bool.not_eq_false',decide_eq_true_eq,Int.natCast_inj,and_assoc]
mutual
theorem eqX_st:∀x y:Xp,eqX x y=true↔stX x=stX y
 | ⟨k,s,v,o,ar,q⟩,⟨k',s',v',o',ar',q'⟩=>by
   rw [eqX,Bool.and_eq_true,eqH_iff,stX,stX,Xp.mk.injEq]
   constructor
   ·rintro ⟨⟨h1,h2,h3,h4,h5⟩,h6⟩
    exact⟨h1,h2,h3,h4,(eqXs_st ar ar' h5).1 h6,rfl⟩
   ·rintro ⟨h1,h2,h3,h4,h5,_⟩
    have hl:=congrArg List.length h5
    rw [stXs_len',stXs_len'] at hl
    exact⟨⟨h1,h2,h3,h4,hl⟩,(eqXs_st ar ar' hl).2 h5⟩
theorem eqXs_st:∀l m:List Xp,l.length=m.length→(eqXs l m=true↔stXs l=stXs m)
 | [],[],_=>by rw [eqXs_nil];exact⟨fun _=>rfl,fun _=>rfl⟩
 | [],_ :: _,h=>by cases h
 | _ :: _,[],h=>by cases h
 | x :: l,y :: m,h=>by
   rw [eqXs,Bool.and_eq_true,eqX_st x y,eqXs_st l m (by simpa using h),stXs,stXs,List.cons.injEq]
end
mutual
theorem eqS_st:∀x y:Sm,eqS x y=true↔stS x=stS y
 | ⟨k,s,n,ar,b,e,q⟩,⟨k',s',n',ar',b',e',q'⟩=>by
   rw [eqS,Bool.and_eq_true,eqHS_iff,stS,stS,Sm.mk.injEq,Bool.and_eq_true,Bool.and_eq_true,decide_eq_true_eq,decide_eq_true_eq]
   constructor
   ·rintro ⟨⟨h1,h2,h3,h4,⟨h5,h6⟩,h7,h8⟩,h9⟩
    exact⟨h1,h2,h3,(eqXs_st ar ar' h4).1 h9,(eqSz_st b b' h5).1 h6,(eqSz_st e e' h7).1 h8,rfl⟩
   ·rintro ⟨h1,h2,h3,h4,h5,h6,_⟩
    have l1:=congrArg List.length h4
    have l2:=congrArg List.length h5
    have l3:=congrArg List.length h6
    rw [stXs_len',stXs_len'] at l1
    rw [stSs_len,stSs_len] at l2 l3
    exact⟨⟨h1,h2,h3,l1,⟨l2,(eqSz_st b b' l2).2 h5⟩,l3,(eqSz_st e e' l3).2 h6⟩,(eqXs_st ar ar' l1).2 h4⟩
theorem eqSz_st:∀l m:List Sm,l.length=m.length→(eqSz l m=true↔stSs l=stSs m)
 | [],[],_=>by rw [eqSz_nil];exact⟨fun _=>rfl,fun _=>rfl⟩
 | [],_ :: _,h=>by cases h
 | _ :: _,[],h=>by cases h
 | x :: l,y :: m,h=>by
   rw [eqSz,Bool.and_eq_true,eqS_st x y,eqSz_st l m (by simpa using h),stSs,stSs,List.cons.injEq]
end
theorem all2_map {α β:Type}{R:α→α→Bool}{f:α→β}(h:∀x y,R x y=true↔f x=f y):∀a b:List α,a.length=b.length→(all2 R a b=true↔a.map f=b.map f)
 | [],[],_=>⟨fun _=>rfl,fun _=>rfl⟩
 | [],_ :: _,h=>by cases h
 | _ :: _,[],h=>by cases h
 | x :: a,y :: b,hl=>by rw [all2,Bool.and_eq_true,h x y,all2_map h a b (by simpa using hl),List.map_cons,List.map_cons,List.cons.injEq]
theorem eqL_map {α β:Type}{R:α→α→Bool}{f:α→β}(h:∀x y,R x y=true↔f x=f y) (a b:List α):eqL R a b=true↔a.map f=b.map f:=by
 rw [eqL,Bool.and_eq_true,decide_eq_true_eq]
 constructor
 ·rintro ⟨h1,h2⟩
  exact(all2_map h a b h1).1 h2
 ·intro h1
  have hl:=congrArg List.length h1
  rw [List.length_map,List.length_map] at hl
  exact⟨hl,(all2_map h a b hl).2 h1⟩
theorem eqCn_st (x y:Cn):eqCn x y=true↔stCn x=stCn y:=by
 rw [eqCn,Bool.and_eq_true,decide_eq_true_eq,beq_iff_eq,stCn,stCn,Cn.mk.injEq]
 exact⟨fun h=>⟨h.1,h.2,rfl⟩,fun h=>⟨h.1,h.2.1⟩⟩
theorem eqGl_st (x y:Gl):eqGl x y=true↔stGl x=stGl y:=by
 rw [eqGl,Bool.and_eq_true,Bool.and_eq_true,decide_eq_true_eq,beq_iff_eq,beq_iff_eq,stGl,stGl,Gl.mk.injEq]
 exact⟨fun h=>⟨h.1.1,h.1.2,h.2,rfl⟩,fun h=>⟨⟨h.1,h.2.1⟩,h.2.2.1⟩⟩
theorem eqSs_st (a b:List Sm):eqL eqS a b=true↔stSs a=stSs b:=by
 rw [← eqSs_eqL,eqSs,Bool.and_eq_true,decide_eq_true_eq]
 constructor
 ·rintro ⟨h1,h2⟩
  exact(eqSz_st a b h1).1 h2
 ·intro h1
  have hl:=congrArg List.length h1
  rw [stSs_len,stSs_len] at hl
  exact⟨hl,(eqSz_st a b hl).2 h1⟩
theorem eqTa_st (x y:Ta):eqTa x y=true↔stTa x=stTa y:=by
 rw [eqTa]
 simp only [Bool.and_eq_true,decide_eq_true_eq,beq_iff_eq]
 rw [eqSs_st,stTa,stTa,Ta.mk.injEq]
 exact⟨fun⟨⟨⟨⟨⟨⟨h1,h2⟩,h3⟩,h4⟩,h5⟩,h6⟩,h7⟩=>⟨h1,h2,h3,h4,h5,h6,h7,rfl⟩,fun⟨h1,h2,h3,h4,h5,h6,h7,_⟩=>⟨⟨⟨⟨⟨⟨h1,h2⟩,h3⟩,h4⟩,h5⟩,h6⟩,h7⟩⟩
theorem eqPg_maps (P Q:Pg):eqPg P Q=true↔P.cs.map stCn=Q.cs.map stCn∧P.gs.map stGl=Q.gs.map stGl∧P.ss=Q.ss∧P.os=Q.os∧P.hs.map stCn=Q.hs.map stCn∧P.ts.map stTa=Q.ts.map stTa:=by
 rw [eqPg]
 simp only [Bool.and_eq_true,decide_eq_true_eq]
 rw [eqL_map eqCn_st,eqL_map eqGl_st,eqL_map eqCn_st,eqL_map eqTa_st]
 exact⟨fun⟨⟨⟨⟨⟨h1,h2⟩,h3⟩,h4⟩,h5⟩,h6⟩=>⟨h1,h2,h3,h4,h5,h6⟩,fun⟨h1,h2,h3,h4,h5,h6⟩=>⟨⟨⟨⟨⟨h1,h2⟩,h3⟩,h4⟩,h5⟩,h6⟩⟩
theorem fm_some {α β γ:Type}{f:α→γ}{p:γ→Option β}{g:α→β}(h:∀x,p (f x)=some (g x)):∀l:List α,(l.map f).filterMap p=l.map g
 | []=>rfl
 | x :: l=>by rw [List.map_cons,List.filterMap_cons,h x,List.map_cons,fm_some h l]
theorem fm_none {α β γ:Type}{f:α→γ}{p:γ→Option β}(h:∀x,p (f x)=none):∀l:List α,(l.map f).filterMap p=[]
 | []=>rfl
 | x :: l=>by rw [List.map_cons,List.filterMap_cons,h x,fm_none h l]
def isC:Dc→Option Cn | .c x=>some x | _=>none
def isG:Dc→Option Gl | .g x=>some x | _=>none
def isS:Dc→Option ByteArray | .s x=>some x | _=>none
def isO:Dc→Option ByteArray | .o x=>some x | _=>none
def isH:Dc→Option Cn | .h x=>some x | _=>none
def isK:Dc→Option Ta | .t x=>some x | _=>none
theorem dcls_st (P:Pg):(dcls P).map stD=P.cs.map (fun x=>.c (stCn x))++(P.gs.map (fun x=>.g (stGl x))++(P.ss.map .s++(P.os.map .o++(P.hs.map (fun x=>.h (stCn x))++P.ts.map (fun x=>.t (stTa x)))))):=by
 simp only [dcls,List.map_append,List.map_map]
 rfl
theorem eqPg_dcls (P Q:Pg):eqPg P Q=true↔(dcls P).map stD=(dcls Q).map stD:=by
 rw [eqPg_maps,dcls_st,dcls_st]
 constructor
 ·rintro ⟨h1,h2,h3,h4,h5,h6⟩
  have e:∀(α β γ:Type) (f:α→β) (g:β→γ) (l:List α),l.map (fun x=>g (f x))=(l.map f).map g:=fun α β γ f g l=>by rw [List.map_map];rfl
  rw [e _ _ _ stCn Dc.c,e _ _ _ stGl Dc.g,e _ _ _ stCn Dc.h,e _ _ _ stTa Dc.t,e _ _ _ stCn Dc.c,e _ _ _ stGl Dc.g,e _ _ _ stCn Dc.h,e _ _ _ stTa Dc.t,h1,h2,h3,h4,h5,h6]
 ·intro h
  have hC:=congrArg (List.filterMap isC) h
  have hG:=congrArg (List.filterMap isG) h
  have hS:=congrArg (List.filterMap isS) h
  have hO:=congrArg (List.filterMap isO) h
  have hH:=congrArg (List.filterMap isH) h
  have hK:=congrArg (List.filterMap isK) h
  simp only [List.filterMap_append] at hC hG hS hO hH hK
  have n1:∀l:List Cn,(l.map (fun x=>Dc.c (stCn x))).filterMap isG=[]∧(l.map (fun x=>Dc.c (stCn x))).filterMap isS=[]∧(l.map (fun x=>Dc.c (stCn x))).filterMap isO=[]∧(l.map (fun x=>Dc.c (stCn x))).filterMap isH=[]∧(l.map (fun x=>Dc.c (stCn x))).filterMap isK=[]:=fun l=>⟨fm_none (fun _=>rfl) l,fm_none (fun _=>rfl) l,fm_none (fun _=>rfl) l,fm_none (fun _=>rfl) l,fm_none (fun _=>rfl) l⟩
  have n2:∀l:List Gl,(l.map (fun x=>Dc.g (stGl x))).filterMap isC=[]∧(l.map (fun x=>Dc.g (stGl x))).filterMap isS=[]∧(l.map (fun x=>Dc.g (stGl x))).filterMap isO=[]∧(l.map (fun x=>Dc.g (stGl x))).filterMap isH=[]∧(l.map (fun x=>Dc.g (stGl x))).filterMap isK=[]:=fun l=>⟨fm_none (fun _=>rfl) l,fm_none (fun _=>rfl) l,fm_none (fun _=>rfl) l,fm_none (fun _=>rfl) l,fm_none (fun _=>rfl) l⟩
  have n3:∀l:List ByteArray,(l.map Dc.s).filterMap isC=[]∧(l.map Dc.s).filterMap isG=[]∧(l.map Dc.s).filterMap isO=[]∧(l.map Dc.s).filterMap isH=[]∧(l.map Dc.s).filterMap isK=[]:=fun l=>⟨fm_none (fun _=>rfl) l,fm_none (fun _=>rfl) l,fm_none (fun _=>rfl) l,fm_none (fun _=>rfl) l,fm_none (fun _=>rfl) l⟩
  have n4:∀l:List ByteArray,(l.map Dc.o).filterMap isC=[]∧(l.map Dc.o).filterMap isG=[]∧(l.map Dc.o).filterMap isS=[]∧(l.map Dc.o).filterMap isH=[]∧(l.map Dc.o).filterMap isK=[]:=fun l=>⟨fm_none (fun _=>rfl) l,fm_none (fun _=>rfl) l,fm_none (fun _=>rfl) l,fm_none (fun _=>rfl) l,fm_none (fun _=>rfl) l⟩
  have n5:∀l:List Cn,(l.map (fun x=>Dc.h (stCn x))).filterMap isC=[]∧(l.map (fun x=>Dc.h (stCn x))).filterMap isG=[]∧(l.map (fun x=>Dc.h (stCn x))).filterMap isS=[]∧(l.map (fun x=>Dc.h (stCn x))).filterMap isO=[]∧(l.map (fun x=>Dc.h (stCn x))).filterMap isK=[]:=fun l=>⟨fm_none (fun _=>rfl) l,fm_none (fun _=>rfl) l,fm_none (fun _=>rfl) l,fm_none (fun _=>rfl) l,fm_none (fun _=>rfl) l⟩
  have n6:∀l:List Ta,(l.map (fun x=>Dc.t (stTa x))).filterMap isC=[]∧(l.map (fun x=>Dc.t (stTa x))).filterMap isG=[]∧(l.map (fun x=>Dc.t (stTa x))).filterMap isS=[]∧(l.map (fun x=>Dc.t (stTa x))).filterMap isO=[]∧(l.map (fun x=>Dc.t (stTa x))).filterMap isH=[]:=fun l=>⟨fm_none (fun _=>rfl) l,fm_none (fun _=>rfl) l,fm_none (fun _=>rfl) l,fm_none (fun _=>rfl) l,fm_none (fun _=>rfl) l⟩
  have y1:∀l:List Cn,(l.map (fun x=>Dc.c (stCn x))).filterMap isC=l.map stCn:=fm_some (fun _=>rfl)
  have y2:∀l:List Gl,(l.map (fun x=>Dc.g (stGl x))).filterMap isG=l.map stGl:=fm_some (fun _=>rfl)
  have y3:∀l:List ByteArray,(l.map Dc.s).filterMap isS=l:=fun l=>(fm_some (f:=Dc.s) (p:=isS) (g:=id) (fun _=>rfl) l).trans (List.map_id l)
  have y4:∀l:List ByteArray,(l.map Dc.o).filterMap isO=l:=fun l=>(fm_some (f:=Dc.o) (p:=isO) (g:=id) (fun _=>rfl) l).trans (List.map_id l)
  have y5:∀l:List Cn,(l.map (fun x=>Dc.h (stCn x))).filterMap isH=l.map stCn:=fm_some (fun _=>rfl)
  have y6:∀l:List Ta,(l.map (fun x=>Dc.t (stTa x))).filterMap isK=l.map stTa:=fm_some (fun _=>rfl)
  simp only [n1,n2,n3,n4,n5,n6,y1,y2,y3,y4,y5,y6,List.append_nil,List.nil_append] at hC hG hS hO hH hK
  exact⟨hC,hG,hS,hO,hH,hK⟩
end Go.Proofs.YtcknpcbkofgdoaaGreatDoor
