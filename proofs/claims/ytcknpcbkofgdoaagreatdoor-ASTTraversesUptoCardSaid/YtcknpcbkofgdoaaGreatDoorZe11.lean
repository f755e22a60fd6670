/-
  LAYER 16 (ast), THE PROGRAM: equalTask, Equal.
  LAYER 16 (ast), THE LAWS: name, binary.
  LAYER 16 (ast), THE LAWS: awake.
  HOW PROGRAMS COME IN (layer 16), with their bulk: rows.
  HOW PROGRAMS COME IN (layer 16), with their bulk: rows.
  What the listed variables give the walks of layer 16 (ast); how programs, expressions and lists of statements come in as arguments whose bulk is bounded.
-/
import Derived.Test.YtcknpcbkofgdoaaGreatDoorZeShort
import Derived.Test.YtcknpcbkofgdoaaGreatDoorZe10
import Derived.Test.YtcknpcbkofgdoaaGreatDoorZe01
import Derived.Test.YtcknpcbkofgdoaaGreatDoorZe00
import Derived.Deep.LoopGhost
import Derived.Deep.Cut
import Derived.Shelf.Abstract
import Derived.Test.YtcknpcbkofgdoaaGreatDoorZe09
import Derived.Test.YtcknpcbkofgdoaaGreatDoorZe06
import Derived.Test.YtcknpcbkofgdoaaGreatDoorRows
import Derived.OpenShut
import Derived.ChangeOld
import Derived.ChangeSame
import Derived.LaidMore
import Derived.Deep.Slices
import Derived.Test.YtcknpcbkofgdoaaGreatDoorZe03
import Derived.Deep.SlicePairs
import Derived.Deep.DeepHandedRow
import Derived.ProofKit
import Derived.ShutString
import Derived.HandedShaped
import Derived.SizedLaws
import Derived.Lib.LaidTab
import Derived.Stop.LaidErr
import Derived.Stop.Joined
import Derived.Lay
namespace Go.Proofs.YtcknpcbkofgdoaaGreatDoor
open Go Go.RowKit Go.IntWalk
set_option linter.unusedSimpArgs false
set_option linter.unusedVariables false
set_option maxRecDepth 8000
section
variable {dst:Option Tmp}{ty:TypeId}{pos:String}{after:Array Edge}{g:Option (Nat × Bool)}{a:Act}{w:World}{T:Value→World→Prop}
end
def eqCn (x y:Cn):Bool:=decide (x.s=y.s)&&(x.v==y.v)
def eqGl (x y:Gl):Bool:=(decide (x.s=y.s)&&(x.l==y.l))&&(x.i==y.i)
def eqTa (x y:Ta):Bool:=decide (x.s=y.s)&&(x.p==y.p)&&(x.d==y.d)&&decide (x.c=y.c)&&decide (x.m=y.m)&&(x.w==y.w)&&eqL eqS x.b y.b
def eqPg (P Q:Pg):Bool:=eqL eqCn P.cs Q.cs&&eqL eqGl P.gs Q.gs&&decide (P.ss=Q.ss)&&decide (P.os=Q.os)&&eqL eqCn P.hs Q.hs&&eqL eqTa P.ts Q.ts
theorem eqT_eq2 (sa:ByteArray) (ia da:Int) (ha ma:ByteArray) (na:Int) (ya:List Sm) (qa:Int) (sb:ByteArray) (ib db:Int) (hb mb:ByteArray) (nb:Int) (yb:List Sm) (qb:Int):(((((((decide ((sa)=(sb)))&&((ia)==(ib)))&&((da)==(db)))&&(decide ((ha)=(hb))))&&(decide ((ma)=(mb))))&&((na)==(nb)))&&(eqL eqS ya yb))=eqTa ⟨sa,ia,da,ha,ma,na,ya,qa⟩ ⟨sb,ib,db,hb,mb,nb,yb,qb⟩:=by
 rw [eqTa]
set_option maxHeartbeats 8000000 in
theorem eqTP_any (x y:Ta) (A B:Nat→Prop) (w:World) (bpa:Option Addr) (bca:Nat) (bpb:Option Addr) (bcb:Nat) (hx:SL A w bpa bca x.b) (hy:SL B w bpb bcb y.b) :
 Calls Tryz.prog 73 #[tv x.s x.p x.d x.c x.m x.w bpa x.b.length bca x.q,tv y.s y.p y.d y.c y.m y.w bpb y.b.length bcb y.q] w fun e w'=>e=.returned (.bool (eqTa x y))∧Grew w w':=by
 obtain ⟨sa,ia,da,ha,ma,na,ya,qa⟩:=x
 obtain ⟨sb,ib,db,hb,mb,nb,yb,qb⟩:=y
 replace hx:SL A w bpa bca ya:=hx
 replace hy:SL B w bpb bcb yb:=hy
 show Calls Tryz.prog 73 #[tv sa ia da ha ma na bpa ya.length bca qa,tv sb ib db hb mb nb bpb yb.length bcb qb] w fun e w'=>e=.returned (.bool (eqTa ⟨sa,ia,da,ha,ma,na,ya,qa⟩ ⟨sb,ib,db,hb,mb,nb,yb,qb⟩))∧Grew w w'
 have hcap:=And.intro hx.cap.1 hy.cap.1
 have hmax:=And.intro hx.cap.2.1 hy.cap.2.1
 have HEQ:=zh (eqT_eq2 sa ia da ha ma na ya qa sb ib db hb mb nb yb qb)
 have HEY:Hid (∀W,Grew w W→Calls Tryz.prog 117 #[.slice bpa ya.length bca,.slice bpb yb.length bcb,.func (.func 118) #[] #[]] W fun e w'=>e=.returned (.bool (eqL eqS ya yb))∧Grew W w') :=
  zh (fun W hW=>eqfS_any 118 #[] en_eS ya yb eqS A B W bpa bpb bca bcb (hx.kept hW) (hy.kept hW) (fun x _ y _ a1 a2 a3 a4 a5 a6 b1 b2 b3 b4 b5 b6 W2 h1 h2 h3 _ g1 g2 g3 _ hW2=>eqSP_any x y A B W2 a1 a2 a3 a4 a5 a6 b1 b2 b3 b4 b5 b6 h1 h2 h3 g1 g2 g3))
 clear hx hy
 go_enter Tryz.func73,Tryz.ntmps73
 go_upto_region 1 with fail
 have hb1:Blk w.heap.size [.string sa,.int .i64 ia,.int .i64 da,.string ha,.string ma,.int .i64 na,.slice bpa ya.length bca,.int .i64 qa] 42 (w.alloc (Obj.cells #[.string sa,.int .i64 ia,.int .i64 da,.string ha,.string ma,.int .i64 na,.slice bpa ya.length bca,.int .i64 qa] 42)):=Blk.new w _ _
 have hb2:Blk (w.alloc (Obj.cells #[.string sa,.int .i64 ia,.int .i64 da,.string ha,.string ma,.int .i64 na,.slice bpa ya.length bca,.int .i64 qa] 42)).heap.size [.string sb,.int .i64 ib,.int .i64 db,.string hb,.string mb,.int .i64 nb,.slice bpb yb.length bcb,.int .i64 qb] 42 ((w.alloc (Obj.cells #[.string sa,.int .i64 ia,.int .i64 da,.string ha,.string ma,.int .i64 na,.slice bpa ya.length bca,.int .i64 qa] 42)).alloc (Obj.cells #[.string sb,.int .i64 ib,.int .i64 db,.string hb,.string mb,.int .i64 nb,.slice bpb yb.length bcb,.int .i64 qb] 42)):=Blk.new _ _ _
 have hb3:=hb1.grew ((Grew.refl _).alloc (Obj.cells #[.string sb,.int .i64 ib,.int .i64 db,.string hb,.string mb,.int .i64 nb,.slice bpb yb.length bcb,.int .i64 qb] 42))
 have hgV:Grew w ((w.alloc (Obj.cells #[.string sa,.int .i64 ia,.int .i64 da,.string ha,.string ma,.int .i64 na,.slice bpa ya.length bca,.int .i64 qa] 42)).alloc (Obj.cells #[.string sb,.int .i64 ib,.int .i64 db,.string hb,.string mb,.int .i64 nb,.slice bpb yb.length bcb,.int .i64 qb] 42)):=((Grew.refl w).alloc _).alloc _
 rw [alloc_sz] at hb2
 try rw [alloc_sz]
 generalize ((w.alloc (Obj.cells #[.string sa,.int .i64 ia,.int .i64 da,.string ha,.string ma,.int .i64 na,.slice bpa ya.length bca,.int .i64 qa] 42)).alloc (Obj.cells #[.string sb,.int .i64 ib,.int .i64 db,.string hb,.string mb,.int .i64 nb,.slice bpb yb.length bcb,.int .i64 qb] 42))=V at hb2 hb3 hgV ⊢
 generalize w.heap.size+1=U at hb2 ⊢
 generalize w.heap.size=T at hb3 ⊢
 have HGV:=zh hgV
 have d0:Atv ⟨T,0,none⟩ (.string sa) V:=hb3.atv 0 rfl
 have d1:Atv ⟨T,1,none⟩ (.int .i64 ia) V:=hb3.atv 1 rfl
 have d2:Atv ⟨T,2,none⟩ (.int .i64 da) V:=hb3.atv 2 rfl
 have d3:Atv ⟨T,3,none⟩ (.string ha) V:=hb3.atv 3 rfl
 have d4:Atv ⟨T,4,none⟩ (.string ma) V:=hb3.atv 4 rfl
 have d5:Atv ⟨T,5,none⟩ (.int .i64 na) V:=hb3.atv 5 rfl
 have d6:Atv ⟨T,6,none⟩ (.slice bpa ya.length bca) V:=hb3.atv 6 rfl
 have d7:Atv ⟨T,7,none⟩ (.int .i64 qa) V:=hb3.atv 7 rfl
 have e0:Atv ⟨U,0,none⟩ (.string sb) V:=hb2.atv 0 rfl
 have e1:Atv ⟨U,1,none⟩ (.int .i64 ib) V:=hb2.atv 1 rfl
 have e2:Atv ⟨U,2,none⟩ (.int .i64 db) V:=hb2.atv 2 rfl
 have e3:Atv ⟨U,3,none⟩ (.string hb) V:=hb2.atv 3 rfl
 have e4:Atv ⟨U,4,none⟩ (.string mb) V:=hb2.atv 4 rfl
 have e5:Atv ⟨U,5,none⟩ (.int .i64 nb) V:=hb2.atv 5 rfl
 have e6:Atv ⟨U,6,none⟩ (.slice bpb yb.length bcb) V:=hb2.atv 6 rfl
 have e7:Atv ⟨U,7,none⟩ (.int .i64 qb) V:=hb2.atv 7 rfl
 clear hb1 hb2 hb3 hgV
 refine wp_postsL [some 5,some 6,some 7,some 8,some 9,some 10,some 11,some 12,some 13,some 14,some 15,some 16,some 17,some 18,some 19,some 20,some 21,some 22,some 23,some 24,some 25,some 26,some 27,some 28,some 29,some 30,some 31,some 32,some 33,some 34,some 35,some 36,some 37,some 38,some 39,some 40,some 41,some 42,some 43,some 44,some 45,some 46,some 47,some 48,some 49,some 50,some 51,some 4] (Zfc (Ztg (Zte []))) [fun v _=>v=.pointer (some ⟨T,0,none⟩),fun v _=>v=.string sa,fun v _=>v=.pointer (some ⟨U,0,none⟩),fun v _=>v=.string sb,fun v _=>v=.bool (decide ((sa)=(sb))),fun v _=>v=.bool (decide ((sa)=(sb))),fun v _=>Zg ((decide ((sa)=(sb)))=true) (.pointer (some ⟨T,1,none⟩)) v,fun v _=>Zg ((decide ((sa)=(sb)))=true) (.int .i64 (ia)) v,fun v _=>Zg ((decide ((sa)=(sb)))=true) (.pointer (some ⟨U,1,none⟩)) v,fun v _=>Zg ((decide ((sa)=(sb)))=true) (.int .i64 (ib)) v,fun v _=>Zg ((decide ((sa)=(sb)))=true) (.bool ((ia)==(ib))) v,fun v _=>v=.bool ((decide ((sa)=(sb)))&&((ia)==(ib))),fun v _=>v=.bool ((decide ((sa)=(sb)))&&((ia)==(ib))),fun v _=>Zg (((decide ((sa)=(sb)))&&((ia)==(ib)))=true) (.pointer (some ⟨T,2,none⟩)) v,fun v _=>Zg (((decide ((sa)=(sb)))&&((ia)==(ib)))=true) (.int .i64 (da)) v,fun v _=>Zg (((decide ((sa)=(sb)))&&((ia)==(ib)))=true) (.pointer (some ⟨U,2,none⟩)) v,fun v _=>Zg (((decide ((sa)=(sb)))&&((ia)==(ib)))=true) (.int .i64 (db)) v,fun v _=>Zg (((decide ((sa)=(sb)))&&((ia)==(ib)))=true) (.bool ((da)==(db))) v,fun v _=>v=.bool (((decide ((sa)=(sb)))&&((ia)==(ib)))&&((da)==(db))),fun v _=>v=.bool (((decide ((sa)=(sb)))&&((ia)==(ib)))&&((da)==(db))),fun v _=>Zg ((((decide ((sa)=(sb)))&&((ia)==(ib)))&&((da)==(db)))=true) (.pointer (some ⟨T,3,none⟩)) v,fun v _=>Zg ((((decide ((sa)=(sb)))&&((ia)==(ib)))&&((da)==(db)))=true) (.string ha) v,fun v _=>Zg ((((decide ((sa)=(sb)))&&((ia)==(ib)))&&((da)==(db)))=true) (.pointer (some ⟨U,3,none⟩)) v,fun v _=>Zg ((((decide ((sa)=(sb)))&&((ia)==(ib)))&&((da)==(db)))=true) (.string hb) v,fun v _=>Zg ((((decide ((sa)=(sb)))&&((ia)==(ib)))&&((da)==(db)))=true) (.bool (decide ((ha)=(hb)))) v,fun v _=>v=.bool ((((decide ((sa)=(sb)))&&((ia)==(ib)))&&((da)==(db)))&&(decide ((ha)=(hb)))),fun v _=>v=.bool ((((decide ((sa)=(sb)))&&((ia)==(ib)))&&((da)==(db)))&&(decide ((ha)=(hb)))),fun v _=>Zg (((((decide ((sa)=(sb)))&&((ia)==(ib)))&&((da)==(db)))&&(decide ((ha)=(hb))))=true) (.pointer (some ⟨T,4,none⟩)) v,fun v _=>Zg (((((decide ((sa)=(sb)))&&((ia)==(ib)))&&((da)==(db)))&&(decide ((ha)=(hb))))=true) (.string ma) v,fun v _=>Zg (((((decide ((sa)=(sb)))&&((ia)==(ib)))&&((da)==(db)))&&(decide ((ha)=(hb))))=true) (.pointer (some ⟨U,4,none⟩)) v,fun v _=>Zg (((((decide ((sa)=(sb)))&&((ia)==(ib)))&&((da)==(db)))&&(decide ((ha)=(hb))))=true) (.string mb) v,fun v _=>Zg (((((decide ((sa)=(sb)))&&((ia)==(ib)))&&((da)==(db)))&&(decide ((ha)=(hb))))=true) (.bool (decide ((ma)=(mb)))) v,fun v _=>v=.bool (((((decide ((sa)=(sb)))&&((ia)==(ib)))&&((da)==(db)))&&(decide ((ha)=(hb))))&&(decide ((ma)=(mb)))),fun v _=>v=.bool (((((decide ((sa)=(sb)))&&((ia)==(ib)))&&((da)==(db)))&&(decide ((ha)=(hb))))&&(decide ((ma)=(mb)))),fun v _=>Zg ((((((decide ((sa)=(sb)))&&((ia)==(ib)))&&((da)==(db)))&&(decide ((ha)=(hb))))&&(decide ((ma)=(mb))))=true) (.pointer (some ⟨T,5,none⟩)) v,fun v _=>Zg ((((((decide ((sa)=(sb)))&&((ia)==(ib)))&&((da)==(db)))&&(decide ((ha)=(hb))))&&(decide ((ma)=(mb))))=true) (.int .i64 (na)) v,fun v _=>Zg ((((((decide ((sa)=(sb)))&&((ia)==(ib)))&&((da)==(db)))&&(decide ((ha)=(hb))))&&(decide ((ma)=(mb))))=true) (.pointer (some ⟨U,5,none⟩)) v,fun v _=>Zg ((((((decide ((sa)=(sb)))&&((ia)==(ib)))&&((da)==(db)))&&(decide ((ha)=(hb))))&&(decide ((ma)=(mb))))=true) (.int .i64 (nb)) v,fun v _=>Zg ((((((decide ((sa)=(sb)))&&((ia)==(ib)))&&((da)==(db)))&&(decide ((ha)=(hb))))&&(decide ((ma)=(mb))))=true) (.bool ((na)==(nb))) v,fun v _=>v=.bool ((((((decide ((sa)=(sb)))&&((ia)==(ib)))&&((da)==(db)))&&(decide ((ha)=(hb))))&&(decide ((ma)=(mb))))&&((na)==(nb))),fun v _=>v=.bool ((((((decide ((sa)=(sb)))&&((ia)==(ib)))&&((da)==(db)))&&(decide ((ha)=(hb))))&&(decide ((ma)=(mb))))&&((na)==(nb))),fun v _=>Zg (((((((decide ((sa)=(sb)))&&((ia)==(ib)))&&((da)==(db)))&&(decide ((ha)=(hb))))&&(decide ((ma)=(mb))))&&((na)==(nb)))=true) (.pointer (some ⟨T,6,none⟩)) v,fun v _=>Zg (((((((decide ((sa)=(sb)))&&((ia)==(ib)))&&((da)==(db)))&&(decide ((ha)=(hb))))&&(decide ((ma)=(mb))))&&((na)==(nb)))=true) (.slice bpa (ya.length) (bca)) v,fun v _=>Zg (((((((decide ((sa)=(sb)))&&((ia)==(ib)))&&((da)==(db)))&&(decide ((ha)=(hb))))&&(decide ((ma)=(mb))))&&((na)==(nb)))=true) (.pointer (some ⟨U,6,none⟩)) v,fun v _=>Zg (((((((decide ((sa)=(sb)))&&((ia)==(ib)))&&((da)==(db)))&&(decide ((ha)=(hb))))&&(decide ((ma)=(mb))))&&((na)==(nb)))=true) (.slice bpb (yb.length) (bcb)) v,fun v _=>Zg (((((((decide ((sa)=(sb)))&&((ia)==(ib)))&&((da)==(db)))&&(decide ((ha)=(hb))))&&(decide ((ma)=(mb))))&&((na)==(nb)))=true) (.bool (eqL eqS ya yb)) v,fun v _=>v=.bool (((((((decide ((sa)=(sb)))&&((ia)==(ib)))&&((da)==(db)))&&(decide ((ha)=(hb))))&&(decide ((ma)=(mb))))&&((na)==(nb)))&&(eqL eqS ya yb)),fun v _=>v=.bool (((((((decide ((sa)=(sb)))&&((ia)==(ib)))&&((da)==(db)))&&(decide ((ha)=(hb))))&&(decide ((ma)=(mb))))&&((na)==(nb)))&&(eqL eqS ya yb))] (by kernel_rfl) rfl ?_ ⟨?_,?_,?_,?_,?_,?_,?_,?_,?_,?_,?_,?_,?_,?_,?_,?_,?_,?_,?_,?_,?_,?_,?_,?_,?_,?_,?_,?_,?_,?_,?_,?_,?_,?_,?_,?_,?_,?_,?_,?_,?_,?_,?_,?_,?_,?_,?_,?_,trivial⟩ ?_
 ·exact⟨Zi,Zi,Zi,Zi,Zi,Zi,Zi,Zi,Zi,Zi,Zi,Zi,Zi,Zi,Zi,Zi,Zi,Zi,Zi,Zi,Zi,Zi,Zi,Zi,Zi,Zi,Zi,Zi,Zi,Zi,Zi,Zi,Zi,Zi,Zi,Zi,Zi,Zi,Zi,Zi,Zi,Zi,Zi,Zi,Zi,Zi,Zi,Zi,trivial⟩
 ·intro u w hR hd;exact rn_fld_42_0 (ev rfl) Zr
 ·intro u w hR hd;exact rn_ld_9 (ev (hd.1 rfl)) (d0.kept hR) Zr
 ·intro u w hR hd;exact rn_fld_42_0 (ev rfl) Zr
 ·intro u w hR hd;exact rn_ld_9 (ev (hd.1 rfl)) (e0.kept hR) Zr
 ·intro u w hR hd;exact rn_eqs_9 (ev (hd.1 rfl)) (ev (hd.2.1 rfl)) Zr
 ·intro u w hR hd;exact runs_mv (ev (hd.1 rfl)) Zr
 ·intro u w hR hd;exact⟨fun hg=>have hG:=Zh (hd.1 rfl) hg;rn_fld_42_1 (ev rfl) (Zs hG),Zn (hd.1 rfl)⟩
 ·intro u w hR hd;exact⟨fun hg=>have hG:=Zh (hd.2.1 rfl) hg;rn_ld_3 (ev ((hd.1 rfl).1 hG)) (d1.kept hR) (Zs hG),Zn (hd.2.1 rfl)⟩
 ·intro u w hR hd;exact⟨fun hg=>have hG:=Zh (hd.1 rfl) hg;rn_fld_42_1 (ev rfl) (Zs hG),Zn (hd.1 rfl)⟩
 ·intro u w hR hd;exact⟨fun hg=>have hG:=Zh (hd.2.1 rfl) hg;rn_ld_3 (ev ((hd.1 rfl).1 hG)) (e1.kept hR) (Zs hG),Zn (hd.2.1 rfl)⟩
 ·intro u w hR hd;exact⟨fun hg=>have hG:=Zh (hd.2.2.1 rfl) hg;rn_eql_3 (ev ((hd.1 rfl).1 hG)) (ev ((hd.2.1 rfl).1 hG)) (Zs hG),Zn (hd.2.2.1 rfl)⟩
 ·intro u w hR hd;exact runs_an (ev (hd.1 rfl)) (fun hb=>ev ((hd.2.1 rfl).1 hb)) Zr
 ·intro u w hR hd;exact runs_mv (ev (hd.1 rfl)) Zr
 ·intro u w hR hd;exact⟨fun hg=>have hG:=Zh (hd.1 rfl) hg;rn_fld_42_2 (ev rfl) (Zs hG),Zn (hd.1 rfl)⟩
 ·intro u w hR hd;exact⟨fun hg=>have hG:=Zh (hd.2.1 rfl) hg;rn_ld_3 (ev ((hd.1 rfl).1 hG)) (d2.kept hR) (Zs hG),Zn (hd.2.1 rfl)⟩
 ·intro u w hR hd;exact⟨fun hg=>have hG:=Zh (hd.1 rfl) hg;rn_fld_42_2 (ev rfl) (Zs hG),Zn (hd.1 rfl)⟩
 ·intro u w hR hd;exact⟨fun hg=>have hG:=Zh (hd.2.1 rfl) hg;rn_ld_3 (ev ((hd.1 rfl).1 hG)) (e2.kept hR) (Zs hG),Zn (hd.2.1 rfl)⟩
 ·intro u w hR hd;exact⟨fun hg=>have hG:=Zh (hd.2.2.1 rfl) hg;rn_eql_3 (ev ((hd.1 rfl).1 hG)) (ev ((hd.2.1 rfl).1 hG)) (Zs hG),Zn (hd.2.2.1 rfl)⟩
 ·intro u w hR hd;exact runs_an (ev (hd.1 rfl)) (fun hb=>ev ((hd.2.1 rfl).1 hb)) Zr
 ·intro u w hR hd;exact runs_mv (ev (hd.1 rfl)) Zr
 ·intro u w hR hd;exact⟨fun hg=>have hG:=Zh (hd.1 rfl) hg;rn_fld_42_3 (ev rfl) (Zs hG),Zn (hd.1 rfl)⟩
 ·intro u w hR hd;exact⟨fun hg=>have hG:=Zh (hd.2.1 rfl) hg;rn_ld_9 (ev ((hd.1 rfl).1 hG)) (d3.kept hR) (Zs hG),Zn (hd.2.1 rfl)⟩
 ·intro u w hR hd;exact⟨fun hg=>have hG:=Zh (hd.1 rfl) hg;rn_fld_42_3 (ev rfl) (Zs hG),Zn (hd.1 rfl)⟩
 ·intro u w hR hd;exact⟨fun hg=>have hG:=Zh (hd.2.1 rfl) hg;rn_ld_9 (ev ((hd.1 rfl).1 hG)) (e3.kept hR) (Zs hG),Zn (hd.2.1 rfl)⟩
 ·intro u w hR hd;exact⟨fun hg=>have hG:=Zh (hd.2.2.1 rfl) hg;rn_eqs_9 (ev ((hd.1 rfl).1 hG)) (ev ((hd.2.1 rfl).1 hG)) (Zs hG),Zn (hd.2.2.1 rfl)⟩
 ·intro u w hR hd;exact runs_an (ev (hd.1 rfl)) (fun hb=>ev ((hd.2.1 rfl).1 hb)) Zr
 ·intro u w hR hd;exact runs_mv (ev (hd.1 rfl)) Zr
 ·intro u w hR hd;exact⟨fun hg=>have hG:=Zh (hd.1 rfl) hg;rn_fld_42_4 (ev rfl) (Zs hG),Zn (hd.1 rfl)⟩
 ·intro u w hR hd;exact⟨fun hg=>have hG:=Zh (hd.2.1 rfl) hg;rn_ld_9 (ev ((hd.1 rfl).1 hG)) (d4.kept hR) (Zs hG),Zn (hd.2.1 rfl)⟩
 ·intro u w hR hd;exact⟨fun hg=>have hG:=Zh (hd.1 rfl) hg;rn_fld_42_4 (ev rfl) (Zs hG),Zn (hd.1 rfl)⟩
 ·intro u w hR hd;exact⟨fun hg=>have hG:=Zh (hd.2.1 rfl) hg;rn_ld_9 (ev ((hd.1 rfl).1 hG)) (e4.kept hR) (Zs hG),Zn (hd.2.1 rfl)⟩
 ·intro u w hR hd;exact⟨fun hg=>have hG:=Zh (hd.2.2.1 rfl) hg;rn_eqs_9 (ev ((hd.1 rfl).1 hG)) (ev ((hd.2.1 rfl).1 hG)) (Zs hG),Zn (hd.2.2.1 rfl)⟩
 ·intro u w hR hd;exact runs_an (ev (hd.1 rfl)) (fun hb=>ev ((hd.2.1 rfl).1 hb)) Zr
 ·intro u w hR hd;exact runs_mv (ev (hd.1 rfl)) Zr
 ·intro u w hR hd;exact⟨fun hg=>have hG:=Zh (hd.1 rfl) hg;rn_fld_42_5 (ev rfl) (Zs hG),Zn (hd.1 rfl)⟩
 ·intro u w hR hd;exact⟨fun hg=>have hG:=Zh (hd.2.1 rfl) hg;rn_ld_3 (ev ((hd.1 rfl).1 hG)) (d5.kept hR) (Zs hG),Zn (hd.2.1 rfl)⟩
 ·intro u w hR hd;exact⟨fun hg=>have hG:=Zh (hd.1 rfl) hg;rn_fld_42_5 (ev rfl) (Zs hG),Zn (hd.1 rfl)⟩
 ·intro u w hR hd;exact⟨fun hg=>have hG:=Zh (hd.2.1 rfl) hg;rn_ld_3 (ev ((hd.1 rfl).1 hG)) (e5.kept hR) (Zs hG),Zn (hd.2.1 rfl)⟩
 ·intro u w hR hd;exact⟨fun hg=>have hG:=Zh (hd.2.2.1 rfl) hg;rn_eql_3 (ev ((hd.1 rfl).1 hG)) (ev ((hd.2.1 rfl).1 hG)) (Zs hG),Zn (hd.2.2.1 rfl)⟩
 ·intro u w hR hd;exact runs_an (ev (hd.1 rfl)) (fun hb=>ev ((hd.2.1 rfl).1 hb)) Zr
 ·intro u w hR hd;exact runs_mv (ev (hd.1 rfl)) Zr
 ·intro u w hR hd;exact⟨fun hg=>have hG:=Zh (hd.1 rfl) hg;rn_fld_42_6 (ev rfl) (Zs hG),Zn (hd.1 rfl)⟩
 ·intro u w hR hd;exact⟨fun hg=>have hG:=Zh (hd.2.1 rfl) hg;rn_ld_40 (ev ((hd.1 rfl).1 hG)) (d6.kept hR) (Zs hG),Zn (hd.2.1 rfl)⟩
 ·intro u w hR hd;exact⟨fun hg=>have hG:=Zh (hd.1 rfl) hg;rn_fld_42_6 (ev rfl) (Zs hG),Zn (hd.1 rfl)⟩
 ·intro u w hR hd;exact⟨fun hg=>have hG:=Zh (hd.2.1 rfl) hg;rn_ld_40 (ev ((hd.1 rfl).1 hG)) (e6.kept hR) (Zs hG),Zn (hd.2.1 rfl)⟩
 ·intro u w hR hd;exact⟨fun hg=>have hG:=Zh (hd.2.2.1 rfl) hg;runs_c3 en_efS (ev ((hd.1 rfl).1 hG)) (ev ((hd.2.1 rfl).1 hG)) rfl (callp (fun _ e=>⟨fun _=>e,fun hn=>absurd hG hn⟩) (HEY.out _ (HGV.out.trans hR))),Zn (hd.2.2.1 rfl)⟩
 ·intro u w hR hd;exact runs_an (ev (hd.1 rfl)) (fun hb=>ev ((hd.2.1 rfl).1 hb)) Zr
 ·intro u w hR hd;exact runs_mva (ev (hd.1 rfl)) Zr
 ·intro u w4 hR hh
  have he:u 4=.bool (((((((decide ((sa)=(sb)))&&((ia)==(ib)))&&((da)==(db)))&&(decide ((ha)=(hb))))&&(decide ((ma)=(mb))))&&((na)==(nb)))&&(eqL eqS ya yb)):=hh 47 (by decide)
  rw [HEQ.out] at he
  simp only [mixA,mixL,zz9,zz0,he]
  have HG4:Hid (Grew w w4):=zh (HGV.out.trans hR)
  clear hh he hR d0 d1 d2 d3 d4 d5 d6 d7 e0 e1 e2 e3 e4 e5 e6 e7 HGV
  go_wp2
  go_ret
  exact⟨rfl,HG4.out⟩
theorem eqP_eq2 (csa:List Cn) (gsa:List Gl) (ssa osa:List ByteArray) (hsa:List Cn) (tsa:List Ta) (csb:List Cn) (gsb:List Gl) (ssb osb:List ByteArray) (hsb:List Cn) (tsb:List Ta):((((((eqL eqCn csa csb)&&(eqL eqGl gsa gsb))&&(decide (ssa=ssb)))&&(decide (osa=osb)))&&(eqL eqCn hsa hsb))&&(eqL eqTa tsa tsb))=eqPg ⟨csa,gsa,ssa,osa,hsa,tsa⟩ ⟨csb,gsb,ssb,osb,hsb,tsb⟩:=by
 rw [eqPg]
set_option maxHeartbeats 8000000 in
theorem eqPP_any (P Q:Pg) (A B:Nat→Prop) (w:World) (cpa gpa spa opa hpa tpa:Option Addr) (cca gca sca oca hca tca:Nat) (cpb gpb spb opb hpb tpb:Option Addr) (ccb gcb scb ocb hcb tcb:Nat)
 (hp:PgIn A w P cpa gpa spa opa hpa tpa cca gca sca oca hca tca) (hq:PgIn B w Q cpb gpb spb opb hpb tpb ccb gcb scb ocb hcb tcb) :
 Calls Tryz.prog 20 #[pgv P cpa gpa spa opa hpa tpa cca gca sca oca hca tca,pgv Q cpb gpb spb opb hpb tpb ccb gcb scb ocb hcb tcb] w fun e w'=>e=.returned (.bool (eqPg P Q))∧Grew w w':=by
 have hcaps:=And.intro hp.caps hq.caps
 obtain ⟨csa,gsa,ssa,osa,hsa,tsa⟩:=P
 obtain ⟨csb,gsb,ssb,osb,hsb,tsb⟩:=Q
 have HPG:=zh hp
 have HQG_:=zh hq
 dsimp only at hcaps
 have HQC:Hid (∀W,Grew w W→Calls Tryz.prog 65 #[.slice cpa csa.length cca,.slice cpb csb.length ccb,.func (.func 66) #[] #[]] W fun e w'=>e=.returned (.bool (eqL eqCn csa csb))∧Grew W w') :=
  zh (fun W hW=>eqfC_any 66 #[] en_eC csa csb eqCn A B W _ _ _ _ (HPG.out.kept hW).cs.2 (HQG_.out.kept hW).cs.2 (fun x _ y _ W2 _=>eqC_any x.s y.s x.v y.v x.q y.q W2))
 have HQG:Hid (∀W,Grew w W→Calls Tryz.prog 67 #[.slice gpa gsa.length gca,.slice gpb gsb.length gcb,.func (.func 68) #[] #[]] W fun e w'=>e=.returned (.bool (eqL eqGl gsa gsb))∧Grew W w') :=
  zh (fun W hW=>eqfG_any 68 #[] en_eG gsa gsb eqGl A B W _ _ _ _ (HPG.out.kept hW).gs.2 (HQG_.out.kept hW).gs.2 (fun x _ y _ W2 _=>eqG_any x.s y.s x.l y.l x.i y.i x.q y.q W2))
 have HQS:Hid (∀W,Grew w W→Calls Tryz.prog 69 #[.slice spa ssa.length sca,.slice spb ssb.length scb] W fun e w'=>e=.returned (.bool (decide (ssa=ssb)))∧Grew W w'):=zh (fun W hW=>eqN_any ssa ssb A B W _ _ _ _ (HPG.out.kept hW).ss.2 (HQG_.out.kept hW).ss.2)
 have HQO:Hid (∀W,Grew w W→Calls Tryz.prog 69 #[.slice opa osa.length oca,.slice opb osb.length ocb] W fun e w'=>e=.returned (.bool (decide (osa=osb)))∧Grew W w'):=zh (fun W hW=>eqN_any osa osb A B W _ _ _ _ (HPG.out.kept hW).os.2 (HQG_.out.kept hW).os.2)
 have HQH:Hid (∀W,Grew w W→Calls Tryz.prog 70 #[.slice hpa hsa.length hca,.slice hpb hsb.length hcb,.func (.func 71) #[] #[]] W fun e w'=>e=.returned (.bool (eqL eqCn hsa hsb))∧Grew W w') :=
  zh (fun W hW=>eqfH_any 71 #[] en_eH hsa hsb eqCn A B W _ _ _ _ (HPG.out.kept hW).hs.2 (HQG_.out.kept hW).hs.2 (fun x _ y _ W2 _=>eqH_any x.s y.s x.v y.v x.q y.q W2))
 have HQT:Hid (∀W,Grew w W→Calls Tryz.prog 72 #[.slice tpa tsa.length tca,.slice tpb tsb.length tcb,.func (.func 73) #[] #[]] W fun e w'=>e=.returned (.bool (eqL eqTa tsa tsb))∧Grew W w') :=
  zh (fun W hW=>eqfT_any 73 #[] en_eT tsa tsb eqTa A B W _ _ _ _ (HPG.out.kept hW).ts (HQG_.out.kept hW).ts (fun x _ y _ a1 a2 b1 b2 W2 h1 _ h2 _ _=>eqTP_any x y A B W2 a1 a2 b1 b2 h1 h2))
 have HEQ:=zh (eqP_eq2 csa gsa ssa osa hsa tsa csb gsb ssb osb hsb tsb)
 show Calls Tryz.prog 20 #[.agg #[.slice cpa csa.length cca,.slice gpa gsa.length gca,.slice spa ssa.length sca,.slice opa osa.length oca,.slice hpa hsa.length hca,.slice tpa tsa.length tca],.agg #[.slice cpb csb.length ccb,.slice gpb gsb.length gcb,.slice spb ssb.length scb,.slice opb osb.length ocb,.slice hpb hsb.length hcb,.slice tpb tsb.length tcb]] w fun e w'=>e=.returned (.bool (eqPg ⟨csa,gsa,ssa,osa,hsa,tsa⟩ ⟨csb,gsb,ssb,osb,hsb,tsb⟩))∧Grew w w'
 clear hp hq HPG HQG_
 go_enter Tryz.func20,Tryz.ntmps20
 go_upto_region 1 with fail
 have hb1:Blk w.heap.size [.slice cpa csa.length cca,.slice gpa gsa.length gca,.slice spa ssa.length sca,.slice opa osa.length oca,.slice hpa hsa.length hca,.slice tpa tsa.length tca] 28 (w.alloc (Obj.cells #[.slice cpa csa.length cca,.slice gpa gsa.length gca,.slice spa ssa.length sca,.slice opa osa.length oca,.slice hpa hsa.length hca,.slice tpa tsa.length tca] 28)):=Blk.new w _ _
 have hb2:Blk (w.alloc (Obj.cells #[.slice cpa csa.length cca,.slice gpa gsa.length gca,.slice spa ssa.length sca,.slice opa osa.length oca,.slice hpa hsa.length hca,.slice tpa tsa.length tca] 28)).heap.size [.slice cpb csb.length ccb,.slice gpb gsb.length gcb,.slice spb ssb.length scb,.slice opb osb.length ocb,.slice hpb hsb.length hcb,.slice tpb tsb.length tcb] 28 ((w.alloc (Obj.cells #[.slice cpa csa.length cca,.slice gpa gsa.length gca,.slice spa ssa.length sca,.slice opa osa.length oca,.slice hpa hsa.length hca,.slice tpa tsa.length tca] 28)).alloc (Obj.cells #[.slice cpb csb.length ccb,.slice gpb gsb.length gcb,.slice spb ssb.length scb,.slice opb osb.length ocb,.slice hpb hsb.length hcb,.slice tpb tsb.length tcb] 28)):=Blk.new _ _ _
 have hb3:=hb1.grew ((Grew.refl _).alloc (Obj.cells #[.slice cpb csb.length ccb,.slice gpb gsb.length gcb,.slice spb ssb.length scb,.slice opb osb.length ocb,.slice hpb hsb.length hcb,.slice tpb tsb.length tcb] 28))
 have hgV:Grew w ((w.alloc (Obj.cells #[.slice cpa csa.length cca,.slice gpa gsa.length gca,.slice spa ssa.length sca,.slice opa osa.length oca,.slice hpa hsa.length hca,.slice tpa tsa.length tca] 28)).alloc (Obj.cells #[.slice cpb csb.length ccb,.slice gpb gsb.length gcb,.slice spb ssb.length scb,.slice opb osb.length ocb,.slice hpb hsb.length hcb,.slice tpb tsb.length tcb] 28)):=((Grew.refl w).alloc _).alloc _
 rw [alloc_sz] at hb2
 try rw [alloc_sz]
 generalize ((w.alloc (Obj.cells #[.slice cpa csa.length cca,.slice gpa gsa.length gca,.slice spa ssa.length sca,.slice opa osa.length oca,.slice hpa hsa.length hca,.slice tpa tsa.length tca] 28)).alloc (Obj.cells #[.slice cpb csb.length ccb,.slice gpb gsb.length gcb,.slice spb ssb.length scb,.slice opb osb.length ocb,.slice hpb hsb.length hcb,.slice tpb tsb.length tcb] 28))=V at hb2 hb3 hgV ⊢
 generalize w.heap.size+1=U at hb2 ⊢
 generalize w.heap.size=T at hb3 ⊢
 have HGV:=zh hgV
 have d0:Atv ⟨T,0,none⟩ (.slice cpa csa.length cca) V:=hb3.atv 0 rfl
 have d1:Atv ⟨T,1,none⟩ (.slice gpa gsa.length gca) V:=hb3.atv 1 rfl
 have d2:Atv ⟨T,2,none⟩ (.slice spa ssa.length sca) V:=hb3.atv 2 rfl
 have d3:Atv ⟨T,3,none⟩ (.slice opa osa.length oca) V:=hb3.atv 3 rfl
 have d4:Atv ⟨T,4,none⟩ (.slice hpa hsa.length hca) V:=hb3.atv 4 rfl
 have d5:Atv ⟨T,5,none⟩ (.slice tpa tsa.length tca) V:=hb3.atv 5 rfl
 have e0:Atv ⟨U,0,none⟩ (.slice cpb csb.length ccb) V:=hb2.atv 0 rfl
 have e1:Atv ⟨U,1,none⟩ (.slice gpb gsb.length gcb) V:=hb2.atv 1 rfl
 have e2:Atv ⟨U,2,none⟩ (.slice spb ssb.length scb) V:=hb2.atv 2 rfl
 have e3:Atv ⟨U,3,none⟩ (.slice opb osb.length ocb) V:=hb2.atv 3 rfl
 have e4:Atv ⟨U,4,none⟩ (.slice hpb hsb.length hcb) V:=hb2.atv 4 rfl
 have e5:Atv ⟨U,5,none⟩ (.slice tpb tsb.length tcb) V:=hb2.atv 5 rfl
 clear hb1 hb2 hb3 hgV
 refine wp_postsL [some 5,some 6,some 7,some 8,some 9,some 10,some 11,some 12,some 13,some 14,some 15,some 16,some 17,some 18,some 19,some 20,some 21,some 22,some 23,some 24,some 25,some 26,some 27,some 28,some 29,some 30,some 31,some 32,some 33,some 34,some 35,some 36,some 37,some 38,some 39,some 40,some 41,some 42,some 43,some 44,some 4] zD0 [fun v _=>v=.pointer (some ⟨T,0,none⟩),fun v _=>v=.slice cpa (csa.length) (cca),fun v _=>v=.pointer (some ⟨U,0,none⟩),fun v _=>v=.slice cpb (csb.length) (ccb),fun v _=>v=.bool (eqL eqCn csa csb),fun v _=>v=.bool (eqL eqCn csa csb),fun v _=>Zg ((eqL eqCn csa csb)=true) (.pointer (some ⟨T,1,none⟩)) v,fun v _=>Zg ((eqL eqCn csa csb)=true) (.slice gpa (gsa.length) (gca)) v,fun v _=>Zg ((eqL eqCn csa csb)=true) (.pointer (some ⟨U,1,none⟩)) v,fun v _=>Zg ((eqL eqCn csa csb)=true) (.slice gpb (gsb.length) (gcb)) v,fun v _=>Zg ((eqL eqCn csa csb)=true) (.bool (eqL eqGl gsa gsb)) v,fun v _=>v=.bool ((eqL eqCn csa csb)&&(eqL eqGl gsa gsb)),fun v _=>v=.bool ((eqL eqCn csa csb)&&(eqL eqGl gsa gsb)),fun v _=>Zg (((eqL eqCn csa csb)&&(eqL eqGl gsa gsb))=true) (.pointer (some ⟨T,2,none⟩)) v,fun v _=>Zg (((eqL eqCn csa csb)&&(eqL eqGl gsa gsb))=true) (.slice spa (ssa.length) (sca)) v,fun v _=>Zg (((eqL eqCn csa csb)&&(eqL eqGl gsa gsb))=true) (.pointer (some ⟨U,2,none⟩)) v,fun v _=>Zg (((eqL eqCn csa csb)&&(eqL eqGl gsa gsb))=true) (.slice spb (ssb.length) (scb)) v,fun v _=>Zg (((eqL eqCn csa csb)&&(eqL eqGl gsa gsb))=true) (.bool (decide (ssa=ssb))) v,fun v _=>v=.bool (((eqL eqCn csa csb)&&(eqL eqGl gsa gsb))&&(decide (ssa=ssb))),fun v _=>v=.bool (((eqL eqCn csa csb)&&(eqL eqGl gsa gsb))&&(decide (ssa=ssb))),fun v _=>Zg ((((eqL eqCn csa csb)&&(eqL eqGl gsa gsb))&&(decide (ssa=ssb)))=true) (.pointer (some ⟨T,3,none⟩)) v,fun v _=>Zg ((((eqL eqCn csa csb)&&(eqL eqGl gsa gsb))&&(decide (ssa=ssb)))=true) (.slice opa (osa.length) (oca)) v,fun v _=>Zg ((((eqL eqCn csa csb)&&(eqL eqGl gsa gsb))&&(decide (ssa=ssb)))=true) (.pointer (some ⟨U,3,none⟩)) v,fun v _=>Zg ((((eqL eqCn csa csb)&&(eqL eqGl gsa gsb))&&(decide (ssa=ssb)))=true) (.slice opb (osb.length) (ocb)) v,fun v _=>Zg ((((eqL eqCn csa csb)&&(eqL eqGl gsa gsb))&&(decide (ssa=ssb)))=true) (.bool (decide (osa=osb))) v,fun v _=>v=.bool ((((eqL eqCn csa csb)&&(eqL eqGl gsa gsb))&&(decide (ssa=ssb)))&&(decide (osa=osb))),fun v _=>v=.bool ((((eqL eqCn csa csb)&&(eqL eqGl gsa gsb))&&(decide (ssa=ssb)))&&(decide (osa=osb))),fun v _=>Zg (((((eqL eqCn csa csb)&&(eqL eqGl gsa gsb))&&(decide (ssa=ssb)))&&(decide (osa=osb)))=true) (.pointer (some ⟨T,4,none⟩)) v,fun v _=>Zg (((((eqL eqCn csa csb)&&(eqL eqGl gsa gsb))&&(decide (ssa=ssb)))&&(decide (osa=osb)))=true) (.slice hpa (hsa.length) (hca)) v,fun v _=>Zg (((((eqL eqCn csa csb)&&(eqL eqGl gsa gsb))&&(decide (ssa=ssb)))&&(decide (osa=osb)))=true) (.pointer (some ⟨U,4,none⟩)) v,fun v _=>Zg (((((eqL eqCn csa csb)&&(eqL eqGl gsa gsb))&&(decide (ssa=ssb)))&&(decide (osa=osb)))=true) (.slice hpb (hsb.length) (hcb)) v,fun v _=>Zg (((((eqL eqCn csa csb)&&(eqL eqGl gsa gsb))&&(decide (ssa=ssb)))&&(decide (osa=osb)))=true) (.bool (eqL eqCn hsa hsb)) v,fun v _=>v=.bool (((((eqL eqCn csa csb)&&(eqL eqGl gsa gsb))&&(decide (ssa=ssb)))&&(decide (osa=osb)))&&(eqL eqCn hsa hsb)),fun v _=>v=.bool (((((eqL eqCn csa csb)&&(eqL eqGl gsa gsb))&&(decide (ssa=ssb)))&&(decide (osa=osb)))&&(eqL eqCn hsa hsb)),fun v _=>Zg ((((((eqL eqCn csa csb)&&(eqL eqGl gsa gsb))&&(decide (ssa=ssb)))&&(decide (osa=osb)))&&(eqL eqCn hsa hsb))=true) (.pointer (some ⟨T,5,none⟩)) v,fun v _=>Zg ((((((eqL eqCn csa csb)&&(eqL eqGl gsa gsb))&&(decide (ssa=ssb)))&&(decide (osa=osb)))&&(eqL eqCn hsa hsb))=true) (.slice tpa (tsa.length) (tca)) v,fun v _=>Zg ((((((eqL eqCn csa csb)&&(eqL eqGl gsa gsb))&&(decide (ssa=ssb)))&&(decide (osa=osb)))&&(eqL eqCn hsa hsb))=true) (.pointer (some ⟨U,5,none⟩)) v,fun v _=>Zg ((((((eqL eqCn csa csb)&&(eqL eqGl gsa gsb))&&(decide (ssa=ssb)))&&(decide (osa=osb)))&&(eqL eqCn hsa hsb))=true) (.slice tpb (tsb.length) (tcb)) v,fun v _=>Zg ((((((eqL eqCn csa csb)&&(eqL eqGl gsa gsb))&&(decide (ssa=ssb)))&&(decide (osa=osb)))&&(eqL eqCn hsa hsb))=true) (.bool (eqL eqTa tsa tsb)) v,fun v _=>v=.bool ((((((eqL eqCn csa csb)&&(eqL eqGl gsa gsb))&&(decide (ssa=ssb)))&&(decide (osa=osb)))&&(eqL eqCn hsa hsb))&&(eqL eqTa tsa tsb)),fun v _=>v=.bool ((((((eqL eqCn csa csb)&&(eqL eqGl gsa gsb))&&(decide (ssa=ssb)))&&(decide (osa=osb)))&&(eqL eqCn hsa hsb))&&(eqL eqTa tsa tsb))] (by kernel_rfl) rfl ?_ ⟨?_,?_,?_,?_,?_,?_,?_,?_,?_,?_,?_,?_,?_,?_,?_,?_,?_,?_,?_,?_,?_,?_,?_,?_,?_,?_,?_,?_,?_,?_,?_,?_,?_,?_,?_,?_,?_,?_,?_,?_,?_,trivial⟩ ?_
 ·exact⟨Zi,Zi,Zi,Zi,Zi,Zi,Zi,Zi,Zi,Zi,Zi,Zi,Zi,Zi,Zi,Zi,Zi,Zi,Zi,Zi,Zi,Zi,Zi,Zi,Zi,Zi,Zi,Zi,Zi,Zi,Zi,Zi,Zi,Zi,Zi,Zi,Zi,Zi,Zi,Zi,Zi,trivial⟩
 ·intro u w hR hd;exact rn_fld_28_0 (ev rfl) Zr
 ·intro u w hR hd;exact rn_ld_22 (ev (hd.1 rfl)) (d0.kept hR) Zr
 ·intro u w hR hd;exact rn_fld_28_0 (ev rfl) Zr
 ·intro u w hR hd;exact rn_ld_22 (ev (hd.1 rfl)) (e0.kept hR) Zr
 ·intro u w hR hd;exact runs_c3 en_efC (ev (hd.1 rfl)) (ev (hd.2.1 rfl)) rfl (callp (fun _ e=>e) (HQC.out _ (HGV.out.trans hR)))
 ·intro u w hR hd;exact runs_mv (ev (hd.1 rfl)) Zr
 ·intro u w hR hd;exact⟨fun hg=>have hG:=Zh (hd.1 rfl) hg;rn_fld_28_1 (ev rfl) (Zs hG),Zn (hd.1 rfl)⟩
 ·intro u w hR hd;exact⟨fun hg=>have hG:=Zh (hd.2.1 rfl) hg;rn_ld_23 (ev ((hd.1 rfl).1 hG)) (d1.kept hR) (Zs hG),Zn (hd.2.1 rfl)⟩
 ·intro u w hR hd;exact⟨fun hg=>have hG:=Zh (hd.1 rfl) hg;rn_fld_28_1 (ev rfl) (Zs hG),Zn (hd.1 rfl)⟩
 ·intro u w hR hd;exact⟨fun hg=>have hG:=Zh (hd.2.1 rfl) hg;rn_ld_23 (ev ((hd.1 rfl).1 hG)) (e1.kept hR) (Zs hG),Zn (hd.2.1 rfl)⟩
 ·intro u w hR hd;exact⟨fun hg=>have hG:=Zh (hd.2.2.1 rfl) hg;runs_c3 en_efG (ev ((hd.1 rfl).1 hG)) (ev ((hd.2.1 rfl).1 hG)) rfl (callp (fun _ e=>⟨fun _=>e,fun hn=>absurd hG hn⟩) (HQG.out _ (HGV.out.trans hR))),Zn (hd.2.2.1 rfl)⟩
 ·intro u w hR hd;exact runs_an (ev (hd.1 rfl)) (fun hb=>ev ((hd.2.1 rfl).1 hb)) Zr
 ·intro u w hR hd;exact runs_mv (ev (hd.1 rfl)) Zr
 ·intro u w hR hd;exact⟨fun hg=>have hG:=Zh (hd.1 rfl) hg;rn_fld_28_2 (ev rfl) (Zs hG),Zn (hd.1 rfl)⟩
 ·intro u w hR hd;exact⟨fun hg=>have hG:=Zh (hd.2.1 rfl) hg;rn_ld_24 (ev ((hd.1 rfl).1 hG)) (d2.kept hR) (Zs hG),Zn (hd.2.1 rfl)⟩
 ·intro u w hR hd;exact⟨fun hg=>have hG:=Zh (hd.1 rfl) hg;rn_fld_28_2 (ev rfl) (Zs hG),Zn (hd.1 rfl)⟩
 ·intro u w hR hd;exact⟨fun hg=>have hG:=Zh (hd.2.1 rfl) hg;rn_ld_24 (ev ((hd.1 rfl).1 hG)) (e2.kept hR) (Zs hG),Zn (hd.2.1 rfl)⟩
 ·intro u w hR hd;exact⟨fun hg=>have hG:=Zh (hd.2.2.1 rfl) hg;runs_c2 en_sl (ev ((hd.1 rfl).1 hG)) (ev ((hd.2.1 rfl).1 hG)) (callp (fun _ e=>⟨fun _=>e,fun hn=>absurd hG hn⟩) (HQS.out _ (HGV.out.trans hR))),Zn (hd.2.2.1 rfl)⟩
 ·intro u w hR hd;exact runs_an (ev (hd.1 rfl)) (fun hb=>ev ((hd.2.1 rfl).1 hb)) Zr
 ·intro u w hR hd;exact runs_mv (ev (hd.1 rfl)) Zr
 ·intro u w hR hd;exact⟨fun hg=>have hG:=Zh (hd.1 rfl) hg;rn_fld_28_3 (ev rfl) (Zs hG),Zn (hd.1 rfl)⟩
 ·intro u w hR hd;exact⟨fun hg=>have hG:=Zh (hd.2.1 rfl) hg;rn_ld_24 (ev ((hd.1 rfl).1 hG)) (d3.kept hR) (Zs hG),Zn (hd.2.1 rfl)⟩
 ·intro u w hR hd;exact⟨fun hg=>have hG:=Zh (hd.1 rfl) hg;rn_fld_28_3 (ev rfl) (Zs hG),Zn (hd.1 rfl)⟩
 ·intro u w hR hd;exact⟨fun hg=>have hG:=Zh (hd.2.1 rfl) hg;rn_ld_24 (ev ((hd.1 rfl).1 hG)) (e3.kept hR) (Zs hG),Zn (hd.2.1 rfl)⟩
 ·intro u w hR hd;exact⟨fun hg=>have hG:=Zh (hd.2.2.1 rfl) hg;runs_c2 en_sl (ev ((hd.1 rfl).1 hG)) (ev ((hd.2.1 rfl).1 hG)) (callp (fun _ e=>⟨fun _=>e,fun hn=>absurd hG hn⟩) (HQO.out _ (HGV.out.trans hR))),Zn (hd.2.2.1 rfl)⟩
 ·intro u w hR hd;exact runs_an (ev (hd.1 rfl)) (fun hb=>ev ((hd.2.1 rfl).1 hb)) Zr
 ·intro u w hR hd;exact runs_mv (ev (hd.1 rfl)) Zr
 ·intro u w hR hd;exact⟨fun hg=>have hG:=Zh (hd.1 rfl) hg;rn_fld_28_4 (ev rfl) (Zs hG),Zn (hd.1 rfl)⟩
 ·intro u w hR hd;exact⟨fun hg=>have hG:=Zh (hd.2.1 rfl) hg;rn_ld_25 (ev ((hd.1 rfl).1 hG)) (d4.kept hR) (Zs hG),Zn (hd.2.1 rfl)⟩
 ·intro u w hR hd;exact⟨fun hg=>have hG:=Zh (hd.1 rfl) hg;rn_fld_28_4 (ev rfl) (Zs hG),Zn (hd.1 rfl)⟩
 ·intro u w hR hd;exact⟨fun hg=>have hG:=Zh (hd.2.1 rfl) hg;rn_ld_25 (ev ((hd.1 rfl).1 hG)) (e4.kept hR) (Zs hG),Zn (hd.2.1 rfl)⟩
 ·intro u w hR hd;exact⟨fun hg=>have hG:=Zh (hd.2.2.1 rfl) hg;runs_c3 en_efH (ev ((hd.1 rfl).1 hG)) (ev ((hd.2.1 rfl).1 hG)) rfl (callp (fun _ e=>⟨fun _=>e,fun hn=>absurd hG hn⟩) (HQH.out _ (HGV.out.trans hR))),Zn (hd.2.2.1 rfl)⟩
 ·intro u w hR hd;exact runs_an (ev (hd.1 rfl)) (fun hb=>ev ((hd.2.1 rfl).1 hb)) Zr
 ·intro u w hR hd;exact runs_mv (ev (hd.1 rfl)) Zr
 ·intro u w hR hd;exact⟨fun hg=>have hG:=Zh (hd.1 rfl) hg;rn_fld_28_5 (ev rfl) (Zs hG),Zn (hd.1 rfl)⟩
 ·intro u w hR hd;exact⟨fun hg=>have hG:=Zh (hd.2.1 rfl) hg;rn_ld_26 (ev ((hd.1 rfl).1 hG)) (d5.kept hR) (Zs hG),Zn (hd.2.1 rfl)⟩
 ·intro u w hR hd;exact⟨fun hg=>have hG:=Zh (hd.1 rfl) hg;rn_fld_28_5 (ev rfl) (Zs hG),Zn (hd.1 rfl)⟩
 ·intro u w hR hd;exact⟨fun hg=>have hG:=Zh (hd.2.1 rfl) hg;rn_ld_26 (ev ((hd.1 rfl).1 hG)) (e5.kept hR) (Zs hG),Zn (hd.2.1 rfl)⟩
 ·intro u w hR hd;exact⟨fun hg=>have hG:=Zh (hd.2.2.1 rfl) hg;runs_c3 en_efT (ev ((hd.1 rfl).1 hG)) (ev ((hd.2.1 rfl).1 hG)) rfl (callp (fun _ e=>⟨fun _=>e,fun hn=>absurd hG hn⟩) (HQT.out _ (HGV.out.trans hR))),Zn (hd.2.2.1 rfl)⟩
 ·intro u w hR hd;exact runs_an (ev (hd.1 rfl)) (fun hb=>ev ((hd.2.1 rfl).1 hb)) Zr
 ·intro u w hR hd;exact runs_mva (ev (hd.1 rfl)) Zr
 ·intro u w4 hR hh
  have he:u 4=.bool ((((((eqL eqCn csa csb)&&(eqL eqGl gsa gsb))&&(decide (ssa=ssb)))&&(decide (osa=osb)))&&(eqL eqCn hsa hsb))&&(eqL eqTa tsa tsb)):=hh 40 (by decide)
  rw [HEQ.out] at he
  simp only [mixA,mixL,zz9,zz0,he]
  have HG4:Hid (Grew w w4):=zh (HGV.out.trans hR)
  clear hh he hR d0 d1 d2 d3 d4 d5 e0 e1 e2 e3 e4 e5 HGV
  go_wp2
  go_ret
  exact⟨rfl,HG4.out⟩
section
variable {dst:Option Tmp}{ty:TypeId}{pos:String}{after:Array Edge}{g:Option (Nat × Bool)}{a:Act}{w:World}{T:Value→World→Prop}
end
abbrev Xw (w:World) (p:Option Addr) (c:Nat) (xs:List Xp):Prop:=XL (fun b=>b < w.heap.size) w p c xs
theorem Xw.grew {w w':World}{p:Option Addr}{c:Nat}{xs:List Xp}(h:Xw w p c xs) (hg:Grew w w'):Xw w' p c xs:=(h.kept hg).mono fun _ hb=>Nat.lt_of_lt_of_le hb hg.sz
theorem Xw.one {w:World}{p:Option Addr}{c:Nat}(x:Xp) (h:Xw w p c x.ar) (hz:x.s.size≤1048576∧x.v≤32767) (S:Nat) (hS:w.heap.size=S) (cs:Array Value) (e:TypeId) (fr:Nat × Nat) (hc:cs=(xdc (x.nd p c)).toArray):Xw (w.alloc (.cells cs e fr)) (some ⟨S,0,none⟩) 1 [x]:=by
 subst hS
 have hg:=(Grew.refl w).alloc (.cells cs e fr)
 refine⟨fun _ a ha=>by cases ha;rw [alloc_sz];exact Nat.lt_succ_self _,[x.nd p c],Rw.made encXd w _ 1 e cs fr (by rw [hc];rfl) rfl (by decide),?_⟩
 rw [XsAt]
 exact⟨_,[],rfl,XAt_iff.2 ⟨p,c,rfl,hz,h.grew hg⟩,by rw [XsAt]⟩
theorem Xw.two {w:World}{p p':Option Addr}{c c':Nat}(x y:Xp) (h:Xw w p c x.ar) (hz:x.s.size≤1048576∧x.v≤32767) (h':Xw w p' c' y.ar) (hz':y.s.size≤1048576∧y.v≤32767) (S:Nat) (hS:w.heap.size=S) (cs:Array Value) (e:TypeId) (fr:Nat × Nat) (hc:cs=(xdc (x.nd p c)++xdc (y.nd p' c')).toArray):Xw (w.alloc (.cells cs e fr)) (some ⟨S,0,none⟩) 2 [x,y]:=by
 subst hS
 have hg:=(Grew.refl w).alloc (.cells cs e fr)
 refine⟨fun _ a ha=>by cases ha;rw [alloc_sz];exact Nat.lt_succ_self _,[x.nd p c,y.nd p' c'],Rw.made encXd w _ 2 e cs fr (by rw [hc];rfl) rfl (by decide),?_⟩
 rw [XsAt]
 refine⟨_,_,rfl,XAt_iff.2 ⟨p,c,rfl,hz,h.grew hg⟩,?_⟩
 rw [XsAt]
 exact⟨_,[],rfl,XAt_iff.2 ⟨p',c',rfl,hz',h'.grew hg⟩,by rw [XsAt]⟩
set_option maxHeartbeats 4000000 in
theorem nameL_any (s:ByteArray) (w:World) :
 Calls Tryz.prog 38 #[.string s] w fun e w'=>e=.returned (xv 2 s 0 0 none 0 0 0)∧Grew w w':=by
 go_enter Tryz.func38,Tryz.ntmps38
 go_wp2
 refine rn_ret_c35 Tryz.results38 (S0:=w.heap.size) (v0_0:=.int .i64 2) (v0_1:=.string s) (v0_2:=.int .i16 0) (v0_3:=.int .i64 0) (v0_4:=.slice none 0 0) (v0_5:=.int .i64 0) rfl (by go_simp) (by go_simp) (by go_simp) (by go_simp) (by go_simp) (by go_simp) ?_
 exact⟨rfl,(Grew.refl w).alloc _⟩
set_option maxHeartbeats 4000000 in
theorem binL_any (o:Int) (x y:Xp) (w:World) (p p2:Option Addr) (c c2:Nat) (hx:Xw w p c x.ar) (hzx:x.s.size≤1048576∧x.v≤32767) (hy:Xw w p2 c2 y.ar) (hzy:y.s.size≤1048576∧y.v≤32767) :
 Calls Tryz.prog 37 #[.int .i64 o,xv x.k x.s x.v x.o p x.ar.length c x.q,xv y.k y.s y.v y.o p2 y.ar.length c2 y.q] w fun e w'=>∃a,e=.returned (xv 6 ⟨#[]⟩ 0 o a 2 2 0)∧Xw w' a 2 [x,y]∧Grew w w':=by
 have hcx:=And.intro hx.cap.1 hx.cap.2.1
 have hcy:=And.intro hy.cap.1 hy.cap.2.1
 have HX:=zh hx
 have HY:=zh hy
 have HZ:=zh hzx
 have HW:=zh hzy
 clear hx hy hzx hzy
 go_enter Tryz.func37,Tryz.ntmps37
 go_wp2
 refine rn_ret_c35 Tryz.results37 (S0:=(w.heap.size+1+1)) (v0_0:=.int .i64 6) (v0_1:=.string ⟨#[]⟩) (v0_2:=.int .i16 0) (v0_3:=.int .i64 o) (v0_4:=.slice (some ⟨w.heap.size+1+1+1,0,none⟩) 2 2) (v0_5:=.int .i64 0) rfl (by go_simp) (by go_simp) (by go_simp) (by go_simp) (by go_simp) (by go_simp) ?_
 have hg:=(((Grew.refl w).alloc (Obj.cells #[.int .i64 x.k,.string x.s,.int .i16 x.v,.int .i64 x.o,.slice p x.ar.length c,.int .i64 x.q] 35)).alloc (Obj.cells #[.int .i64 y.k,.string y.s,.int .i16 y.v,.int .i64 y.o,.slice p2 y.ar.length c2,.int .i64 y.q] 35)).alloc (Obj.cells #[.int .i64 6,.string ⟨#[]⟩,.int .i16 0,.int .i64 o,.slice (some ⟨w.heap.size+1+1+1,0,none⟩) 2 2,.int .i64 0] 35)
 exact⟨_,rfl,Xw.two x y (HX.out.grew hg) HZ.out (HY.out.grew hg) HW.out _ (by rw [alloc_sz,alloc_sz,alloc_sz]) _ _ _ rfl,hg.alloc _⟩
abbrev aNa:Xp:=⟨2,⟨#[97]⟩,0,0,[],0⟩
abbrev aNb:Xp:=⟨2,⟨#[98]⟩,0,0,[],0⟩
abbrev aNc:Xp:=⟨2,⟨#[99]⟩,0,0,[],0⟩
abbrev aN1:Xp:=⟨1,⟨#[]⟩,1,0,[],0⟩
abbrev aAdd:Xp:=⟨6,⟨#[]⟩,0,3,[aNa,aNb],0⟩
abbrev aSub:Xp:=⟨6,⟨#[]⟩,0,4,[aNc,aN1],0⟩
abbrev aNeg:Xp:=⟨5,⟨#[]⟩,0,1,[aSub],0⟩
abbrev aMul:Xp:=⟨6,⟨#[]⟩,0,5,[aAdd,aNeg],0⟩
abbrev aEm:Sm:=⟨8,⟨#[]⟩,0,[aNa],[],[],0⟩
abbrev aTk:Ta:=⟨⟨#[116]⟩,5,0,⟨#[]⟩,⟨#[]⟩,0,[aEm],0⟩
abbrev aPg:Pg:=⟨[],[],[],[],[],[aTk]⟩
abbrev PgW (w:World) (tp:Option Addr):Prop:=PgIn (fun b=>b < w.heap.size) w aPg none none none none none tp 0 0 0 0 0 1
theorem PgW.grew {w w':World}{tp:Option Addr}(h:PgW w tp) (hg:Grew w w'):PgW w' tp:=by
 have h1:=h.kept hg
 have hm:∀b,b < w.heap.size→b < w'.heap.size:=fun _ hb=>Nat.lt_of_lt_of_le hb hg.sz
 exact⟨⟨fun _ _ e=>(by cases e),h1.cs.2.mono (hangsF encCn) hm⟩,⟨fun _ _ e=>(by cases e),h1.gs.2.mono (hangsF encGl) hm⟩,⟨fun _ _ e=>(by cases e),h1.ss.2.mono (hangsF encStr) hm⟩,⟨fun _ _ e=>(by cases e),h1.os.2.mono (hangsF encStr) hm⟩,⟨fun _ _ e=>(by cases e),h1.hs.2.mono (hangsF encCh) hm⟩,h1.ts.mono hm,h1.sz⟩
theorem aw_tx:(if okX aMul=true then (⟨(txX aMul).toArray⟩:ByteArray) else ⟨#[]⟩)=⟨#[40,97,32,43,32,98,41,32,42,32,45,40,99,32,45,32,49,41]⟩:=by kernel_rfl
theorem aw_ok:okP aPg=true:=by kernel_rfl
theorem aw_fm:(if okP aPg=true then (⟨(fmT aPg).toArray⟩:ByteArray) else ⟨#[]⟩)=⟨#[116,97,115,107,32,116,32,101,118,101,114,121,32,53,32,123,10,32,32,32,32,101,109,105,116,32,97,59,10,125,10]⟩:=by kernel_rfl
theorem aw_eqp:eqPg aPg aPg=true:=by kernel_rfl
theorem aw_add (W:World):Calls Tryz.prog 37 #[.int .i64 3,xv 2 ⟨#[97]⟩ 0 0 none 0 0 0,xv 2 ⟨#[98]⟩ 0 0 none 0 0 0] W fun e w'=>∃a,e=.returned (xv 6 ⟨#[]⟩ 0 3 a 2 2 0)∧Xw w' a 2 [aNa,aNb]∧Grew W w' :=
 binL_any 3 aNa aNb W none none 0 0 XL.nil ⟨by decide,by decide⟩ XL.nil ⟨by decide,by decide⟩
theorem aw_sub (W:World):Calls Tryz.prog 37 #[.int .i64 4,xv 2 ⟨#[99]⟩ 0 0 none 0 0 0,xv 1 ⟨#[]⟩ 1 0 none 0 0 0] W fun e w'=>∃a,e=.returned (xv 6 ⟨#[]⟩ 0 4 a 2 2 0)∧Xw w' a 2 [aNc,aN1]∧Grew W w' :=
 binL_any 4 aNc aN1 W none none 0 0 XL.nil ⟨by decide,by decide⟩ XL.nil ⟨by decide,by decide⟩
theorem aw_mul (W:World) (a b:Option Addr) (h1:Xw W a 2 [aNa,aNb]) (h2:Xw W b 1 [aSub]):Calls Tryz.prog 37 #[.int .i64 5,xv 6 ⟨#[]⟩ 0 3 a 2 2 0,xv 5 ⟨#[]⟩ 0 1 b 1 1 0] W fun e w'=>∃a,e=.returned (xv 6 ⟨#[]⟩ 0 5 a 2 2 0)∧Xw w' a 2 [aAdd,aNeg]∧Grew W w' :=
 binL_any 5 aAdd aNeg W a b 2 1 h1 ⟨by decide,by decide⟩ h2 ⟨by decide,by decide⟩
theorem aw_expr (W:World) (a:Option Addr) (h:Xw W a 2 [aAdd,aNeg]) (hE:Env W):Calls Tryz.prog 16 #[xv 6 ⟨#[]⟩ 0 5 a 2 2 0] W fun e w'=>e=.returned (.string ⟨#[40,97,32,43,32,98,41,32,42,32,45,40,99,32,45,32,49,41]⟩)∧Grew W w' :=
 by have h_:=exprP_any aMul _ W a 2 (fun _ hi=>hi) h ⟨by decide,by decide⟩ hE (of_decide_eq_true (by kernel_rfl));rw [aw_tx] at h_;exact h_
theorem aw_fmt (W:World) (tp:Option Addr) (h:PgW W tp) (hE:Env W):Calls Tryz.prog 13 #[.agg #[.slice none 0 0,.slice none 0 0,.slice none 0 0,.slice none 0 0,.slice none 0 0,.slice tp 1 1]] W fun e w'=>e=.returned (.string ⟨#[116,97,115,107,32,116,32,101,118,101,114,121,32,53,32,123,10,32,32,32,32,101,109,105,116,32,97,59,10,125,10]⟩)∧Grew W w':=by have h_:=fmtP_any aPg _ W _ _ _ _ _ _ _ _ _ _ _ _ (fun _ hi=>hi) h hE (by kernel_rfl);rw [aw_fm] at h_;exact h_
theorem aw_wf (W:World) (tp:Option Addr) (h:PgW W tp) (hE:Env W):Calls Tryz.prog 18 #[.agg #[.slice none 0 0,.slice none 0 0,.slice none 0 0,.slice none 0 0,.slice none 0 0,.slice tp 1 1]] W fun e w'=>e=.returned (.bool true)∧Grew W w':=by have h_:=form_any aPg _ W _ _ _ _ _ _ _ _ _ _ _ _ h hE;rw [aw_ok] at h_;exact h_
theorem aw_size (W:World) (tp:Option Addr) (h:PgW W tp) (hE:Env W):Calls Tryz.prog 31 #[.agg #[.slice none 0 0,.slice none 0 0,.slice none 0 0,.slice none 0 0,.slice none 0 0,.slice tp 1 1]] W fun e w'=>e=.returned (.int .i64 2)∧Grew W w':=psize_any aPg _ W _ _ _ _ _ _ _ _ _ _ _ _ h (by decide)
theorem aw_depth (W:World) (tp:Option Addr) (h:PgW W tp) (hE:Env W):Calls Tryz.prog 33 #[.agg #[.slice none 0 0,.slice none 0 0,.slice none 0 0,.slice none 0 0,.slice none 0 0,.slice tp 1 1]] W fun e w'=>e=.returned (.int .i64 2)∧Grew W w':=pdepth_any aPg _ W _ _ _ _ _ _ _ _ _ _ _ _ h (by decide)
theorem aw_eq (W:World) (tp:Option Addr) (h:PgW W tp) (hE:Env W):Calls Tryz.prog 20 #[.agg #[.slice none 0 0,.slice none 0 0,.slice none 0 0,.slice none 0 0,.slice none 0 0,.slice tp 1 1],.agg #[.slice none 0 0,.slice none 0 0,.slice none 0 0,.slice none 0 0,.slice none 0 0,.slice tp 1 1]] W fun e w'=>e=.returned (.bool true)∧Grew W w':=by have h_:=eqPP_any aPg aPg _ _ W _ _ _ _ _ _ _ _ _ _ _ _ _ _ _ _ _ _ _ _ _ _ _ _ h h;rw [aw_eqp] at h_;exact h_
theorem aw_mul2 (w:World) (a1 a2:Option Addr) (h1:Xw w a1 2 [aNa,aNb]) (h2:Xw w a2 2 [aNc,aN1]):Calls Tryz.prog 37 #[.int .i64 5,xv 6 ⟨#[]⟩ 0 3 a1 2 2 0,xv 5 ⟨#[]⟩ 0 1 (some ⟨w.heap.size,0,none⟩) 1 1 0] (w.alloc (Obj.cells #[.int .i64 6,.string ⟨#[]⟩,.int .i16 0,.int .i64 4,.slice a2 2 2,.int .i64 0] 35)) fun e w'=>∃a,e=.returned (xv 6 ⟨#[]⟩ 0 5 a 2 2 0)∧Xw w' a 2 [aAdd,aNeg]∧Grew (w.alloc (Obj.cells #[.int .i64 6,.string ⟨#[]⟩,.int .i16 0,.int .i64 4,.slice a2 2 2,.int .i64 0] 35)) w' :=
 aw_mul _ a1 _ (h1.grew ((Grew.refl _).alloc _)) (Xw.one aSub h2 ⟨by decide,by decide⟩ _ rfl _ _ _ rfl)
theorem aw_pg (w:World):PgW (((w.alloc (Obj.cells #[.int .i64 2,.string ⟨#[97]⟩,.int .i16 0,.int .i64 0,.slice none 0 0,.int .i64 0] 35)).alloc (Obj.cells #[.int .i64 8,.string ⟨#[]⟩,.int .i64 0,.slice (some ⟨w.heap.size,0,none⟩) 1 1,.slice none 0 0,.slice none 0 0,.int .i64 0] 49)).alloc (Obj.cells #[.string ⟨#[116]⟩,.int .i64 5,.int .i64 0,.string ⟨#[]⟩,.string ⟨#[]⟩,.int .i64 0,.slice (some ⟨w.heap.size+1,0,none⟩) 1 1,.int .i64 0] 42)) (some ⟨w.heap.size+1+1,0,none⟩):=by
 have x1:Xw (w.alloc (Obj.cells #[.int .i64 2,.string ⟨#[97]⟩,.int .i16 0,.int .i64 0,.slice none 0 0,.int .i64 0] 35)) (some ⟨w.heap.size,0,none⟩) 1 [aNa]:=Xw.one aNa XL.nil ⟨by decide,by decide⟩ _ rfl _ _ _ rfl
 obtain ⟨w1,hw⟩:∃W,w.alloc (Obj.cells #[.int .i64 2,.string ⟨#[97]⟩,.int .i16 0,.int .i64 0,.slice none 0 0,.int .i64 0] 35)=W:=⟨_,rfl⟩
 have hz1:w1.heap.size=w.heap.size+1:=by rw [← hw,alloc_sz]
 rw [hw] at x1 ⊢
 have g1:=(Grew.refl w1).alloc (Obj.cells #[.int .i64 8,.string ⟨#[]⟩,.int .i64 0,.slice (some ⟨w.heap.size,0,none⟩) 1 1,.slice none 0 0,.slice none 0 0,.int .i64 0] 49)
 have x2:=x1.grew g1
 have s2:SL (fun b=>b < (w1.alloc (Obj.cells #[.int .i64 8,.string ⟨#[]⟩,.int .i64 0,.slice (some ⟨w.heap.size,0,none⟩) 1 1,.slice none 0 0,.slice none 0 0,.int .i64 0] 49)).heap.size) (w1.alloc (Obj.cells #[.int .i64 8,.string ⟨#[]⟩,.int .i64 0,.slice (some ⟨w.heap.size,0,none⟩) 1 1,.slice none 0 0,.slice none 0 0,.int .i64 0] 49)) (some ⟨w.heap.size+1,0,none⟩) 1 [aEm]:=by
  rw [← hz1]
  refine⟨fun _ a ha=>by cases ha;rw [alloc_sz];exact Nat.lt_succ_self _,[aEm.nd (some ⟨w.heap.size,0,none⟩) 1 none 0 none 0],Rw.made encSd w1 _ 1 49 _ (0,0) rfl rfl (by decide),?_⟩
  rw [SsAt]
  exact⟨_,[],rfl,SAt_iff.2 ⟨_,_,_,_,_,_,rfl,by decide,x2,SL.nil,SL.nil⟩,by rw [SsAt]⟩
 have hz2:(w1.alloc (Obj.cells #[.int .i64 8,.string ⟨#[]⟩,.int .i64 0,.slice (some ⟨w.heap.size,0,none⟩) 1 1,.slice none 0 0,.slice none 0 0,.int .i64 0] 49)).heap.size=w.heap.size+1+1:=by rw [alloc_sz,hz1]
 generalize (w1.alloc (Obj.cells #[.int .i64 8,.string ⟨#[]⟩,.int .i64 0,.slice (some ⟨w.heap.size,0,none⟩) 1 1,.slice none 0 0,.slice none 0 0,.int .i64 0] 49))=w2 at s2 hz2 ⊢
 rw [← hz2]
 have g2:=(Grew.refl w2).alloc (Obj.cells #[.string ⟨#[116]⟩,.int .i64 5,.int .i64 0,.string ⟨#[]⟩,.string ⟨#[]⟩,.int .i64 0,.slice (some ⟨w.heap.size+1,0,none⟩) 1 1,.int .i64 0] 42)
 refine⟨⟨fun _ _ e=>(by cases e),rfl,[],Rw.nil _ _ _,rfl⟩,⟨fun _ _ e=>(by cases e),rfl,[],Rw.nil _ _ _,rfl⟩,⟨fun _ _ e=>(by cases e),rfl,[],Rw.nil _ _ _,rfl⟩,⟨fun _ _ e=>(by cases e),rfl,[],Rw.nil _ _ _,rfl⟩,⟨fun _ _ e=>(by cases e),rfl,[],Rw.nil _ _ _,rfl⟩,?_,by simp⟩
 refine⟨fun _ a ha=>by cases ha;rw [alloc_sz];exact Nat.lt_succ_self _,[aTk.nd (some ⟨w.heap.size+1,0,none⟩) 1],Rw.made encTd w2 _ 1 42 _ (0,0) rfl rfl (by decide),?_⟩
 rw [TsAt]
 exact⟨_,[],rfl,⟨_,_,rfl,⟨by decide,by decide,by decide⟩,(s2.kept g2).mono fun b hb=>Nat.lt_of_lt_of_le hb g2.sz⟩,by rw [TsAt]⟩
set_option maxHeartbeats 8000000 in
theorem awake_any (w:World) (hE:Env w):Calls Tryz.prog 11 #[] w fun e w'=>e=.returned (.bool true)∧Grew w w':=by
 have HE:=zh hE
 clear hE
 go_enter Tryz.func11,Tryz.ntmps11
 go_upto_region 2 with (first
  | (go_at_call 38;(with_reducible refine(nameL_any ⟨#[97]⟩ w).mono ?_);rintro e w1 ⟨rfl,g⟩;have H1:=zh g;clear g)
  | (go_at_call 38;(with_reducible refine(nameL_any ⟨#[98]⟩ w1).mono ?_);rintro e w2 ⟨rfl,g⟩;have H2:=zh (H1.out.trans g);clear g)
  | (go_at_call 37;(with_reducible refine(aw_add w2).mono ?_);rintro e w3 ⟨a1,rfl,x1,g⟩;have H3:=zh (H2.out.trans g);have X1:=zh x1;clear g x1)
  | (go_at_call 38;(with_reducible refine(nameL_any ⟨#[99]⟩ w3).mono ?_);rintro e w4 ⟨rfl,g⟩;have H4:=zh (H3.out.trans g);have X2:=zh (X1.out.grew g);clear g)
  | (go_at_call 37;(with_reducible refine(aw_sub w4).mono ?_);rintro e w5 ⟨a2,rfl,x1,g⟩;have H5:=zh (H4.out.trans g);have X3:=zh (X2.out.grew g);have HS3:=zh x1;clear g x1)
  | (go_at_call 37;(with_reducible refine(aw_mul2 w5 a1 a2 X3.out HS3.out).mono ?_);rintro e w6 ⟨a3,rfl,x1,g⟩;have H6:=zh ((H5.out.alloc _).trans g);have X4:=zh x1;clear g x1))
 have gV:Grew w6 (w6.alloc (Obj.cells #[.int .i64 6,.string ⟨#[]⟩,.int .i16 0,.int .i64 5,.slice a3 2 2,.int .i64 0] 35)):=(Grew.refl w6).alloc _
 have hbx:Blk w6.heap.size [.int .i64 6,.string ⟨#[]⟩,.int .i16 0,.int .i64 5,.slice a3 2 2,.int .i64 0] 35 (w6.alloc (Obj.cells #[.int .i64 6,.string ⟨#[]⟩,.int .i16 0,.int .i64 5,.slice a3 2 2,.int .i64 0] 35)):=Blk.new w6 _ _
 have HV:=zh (H6.out.trans gV)
 have XV:=zh (X4.out.grew gV)
 clear H1 H2 X1 H3 H4 X2 H5 X3 HS3 H6 X4
 generalize w6.alloc (Obj.cells #[.int .i64 6,.string ⟨#[]⟩,.int .i16 0,.int .i64 5,.slice a3 2 2,.int .i64 0] 35)=V at gV hbx HV XV ⊢
 generalize w6.heap.size=S at hbx ⊢
 have HBX:=zh hbx
 clear hbx gV
 go_upto_region 3 with (go_at_call 38;(with_reducible refine(nameL_any ⟨#[97]⟩ V).mono ?_);rintro e w7 ⟨rfl,g⟩;have H7:=zh g;clear g)
 have hpg:=aw_pg w7
 obtain ⟨U,hU⟩:∃U,(((w7.alloc (Obj.cells #[.int .i64 2,.string ⟨#[97]⟩,.int .i16 0,.int .i64 0,.slice none 0 0,.int .i64 0] 35)).alloc (Obj.cells #[.int .i64 8,.string ⟨#[]⟩,.int .i64 0,.slice (some ⟨w7.heap.size,0,none⟩) 1 1,.slice none 0 0,.slice none 0 0,.int .i64 0] 49)).alloc (Obj.cells #[.string ⟨#[116]⟩,.int .i64 5,.int .i64 0,.string ⟨#[]⟩,.string ⟨#[]⟩,.int .i64 0,.slice (some ⟨w7.heap.size+1,0,none⟩) 1 1,.int .i64 0] 42))=U:=⟨_,rfl⟩
 have hgU:Grew w7 U:=hU ▸ ((((Grew.refl w7).alloc _).alloc _).alloc _)
 have hzU:U.heap.size=w7.heap.size+1+1+1:=by rw [← hU,alloc_sz,alloc_sz,alloc_sz]
 rw [hU] at hpg ⊢
 generalize (some ⟨w7.heap.size+1+1,0,none⟩:Option Addr)=tp at hpg ⊢
 rw [← hzU]
 have gW:Grew U (U.alloc (Obj.cells #[.slice none 0 0,.slice none 0 0,.slice none 0 0,.slice none 0 0,.slice none 0 0,.slice tp 1 1] 28)):=(Grew.refl U).alloc _
 have hbp:Blk U.heap.size [.slice none 0 0,.slice none 0 0,.slice none 0 0,.slice none 0 0,.slice none 0 0,.slice tp 1 1] 28 (U.alloc (Obj.cells #[.slice none 0 0,.slice none 0 0,.slice none 0 0,.slice none 0 0,.slice none 0 0,.slice tp 1 1] 28)):=Blk.new U _ _
 have HGW:=zh ((H7.out.trans hgU).trans gW)
 have PW:=zh (hpg.grew gW)
 generalize U.alloc (Obj.cells #[.slice none 0 0,.slice none 0 0,.slice none 0 0,.slice none 0 0,.slice none 0 0,.slice tp 1 1] 28)=W0 at gW hbp HGW PW ⊢
 generalize U.heap.size=T at hbp ⊢
 have HG0:=zh (HV.out.trans HGW.out)
 have HX0:=zh (HBX.out.grew HGW.out)
 have HXX:=zh (XV.out.grew HGW.out)
 have HP0:=zh hbp
 have HE0:=zh (HE.out.grew HG0.out)
 have q0W0:W0.cell? ⟨S,0,none⟩=some (.int .i64 6):=HX0.out.cell 0
 have q1W0:W0.cell? ⟨S,1,none⟩=some (.string ⟨#[]⟩):=HX0.out.cell 1
 have q2W0:W0.cell? ⟨S,2,none⟩=some (.int .i16 0):=HX0.out.cell 2
 have q3W0:W0.cell? ⟨S,3,none⟩=some (.int .i64 5):=HX0.out.cell 3
 have q4W0:W0.cell? ⟨S,4,none⟩=some (.slice a3 2 2):=HX0.out.cell 4
 have q5W0:W0.cell? ⟨S,5,none⟩=some (.int .i64 0):=HX0.out.cell 5
 clear hU hgU hzU hpg gW hbp HGW HBX XV HV H7
 go_wp2_with (first
  | (go_at_call 16;(with_reducible refine(aw_expr W0 a3 HXX.out HE0.out).mono ?_);rintro e V1 ⟨rfl,g⟩;have HG1:=zh (HG0.out.trans g);have PW1:=zh (PW.out.grew g);have HE1:=zh (HE0.out.grew g);have HP1:=zh (HP0.out.grew g);have r01:V1.cell? ⟨T,0,none⟩=some (.slice none 0 0):=HP1.out.cell 0;have r11:V1.cell? ⟨T,1,none⟩=some (.slice none 0 0):=HP1.out.cell 1;have r21:V1.cell? ⟨T,2,none⟩=some (.slice none 0 0):=HP1.out.cell 2;have r31:V1.cell? ⟨T,3,none⟩=some (.slice none 0 0):=HP1.out.cell 3;have r41:V1.cell? ⟨T,4,none⟩=some (.slice none 0 0):=HP1.out.cell 4;have r51:V1.cell? ⟨T,5,none⟩=some (.slice tp 1 1):=HP1.out.cell 5;clear g)
  | (go_at_call 13;(with_reducible refine(aw_fmt V1 tp PW1.out HE1.out).mono ?_);rintro e V2 ⟨rfl,g⟩;have HG2:=zh (HG1.out.trans g);have PW2:=zh (PW1.out.grew g);have HE2:=zh (HE1.out.grew g);have HP2:=zh (HP1.out.grew g);have r02:V2.cell? ⟨T,0,none⟩=some (.slice none 0 0):=HP2.out.cell 0;have r12:V2.cell? ⟨T,1,none⟩=some (.slice none 0 0):=HP2.out.cell 1;have r22:V2.cell? ⟨T,2,none⟩=some (.slice none 0 0):=HP2.out.cell 2;have r32:V2.cell? ⟨T,3,none⟩=some (.slice none 0 0):=HP2.out.cell 3;have r42:V2.cell? ⟨T,4,none⟩=some (.slice none 0 0):=HP2.out.cell 4;have r52:V2.cell? ⟨T,5,none⟩=some (.slice tp 1 1):=HP2.out.cell 5;clear g)
  | (go_at_call 18;(with_reducible refine(aw_wf V2 tp PW2.out HE2.out).mono ?_);rintro e V3 ⟨rfl,g⟩;have HG3:=zh (HG2.out.trans g);have PW3:=zh (PW2.out.grew g);have HE3:=zh (HE2.out.grew g);have HP3:=zh (HP2.out.grew g);have r03:V3.cell? ⟨T,0,none⟩=some (.slice none 0 0):=HP3.out.cell 0;have r13:V3.cell? ⟨T,1,none⟩=some (.slice none 0 0):=HP3.out.cell 1;have r23:V3.cell? ⟨T,2,none⟩=some (.slice none 0 0):=HP3.out.cell 2;have r33:V3.cell? ⟨T,3,none⟩=some (.slice none 0 0):=HP3.out.cell 3;have r43:V3.cell? ⟨T,4,none⟩=some (.slice none 0 0):=HP3.out.cell 4;have r53:V3.cell? ⟨T,5,none⟩=some (.slice tp 1 1):=HP3.out.cell 5;clear g)
  | (go_at_call 31;(with_reducible refine(aw_size V3 tp PW3.out HE3.out).mono ?_);rintro e V4 ⟨rfl,g⟩;have HG4:=zh (HG3.out.trans g);have PW4:=zh (PW3.out.grew g);have HE4:=zh (HE3.out.grew g);have HP4:=zh (HP3.out.grew g);have r04:V4.cell? ⟨T,0,none⟩=some (.slice none 0 0):=HP4.out.cell 0;have r14:V4.cell? ⟨T,1,none⟩=some (.slice none 0 0):=HP4.out.cell 1;have r24:V4.cell? ⟨T,2,none⟩=some (.slice none 0 0):=HP4.out.cell 2;have r34:V4.cell? ⟨T,3,none⟩=some (.slice none 0 0):=HP4.out.cell 3;have r44:V4.cell? ⟨T,4,none⟩=some (.slice none 0 0):=HP4.out.cell 4;have r54:V4.cell? ⟨T,5,none⟩=some (.slice tp 1 1):=HP4.out.cell 5;clear g)
  | (go_at_call 33;(with_reducible refine(aw_depth V4 tp PW4.out HE4.out).mono ?_);rintro e V5 ⟨rfl,g⟩;have HG5:=zh (HG4.out.trans g);have PW5:=zh (PW4.out.grew g);have HE5:=zh (HE4.out.grew g);have HP5:=zh (HP4.out.grew g);have r05:V5.cell? ⟨T,0,none⟩=some (.slice none 0 0):=HP5.out.cell 0;have r15:V5.cell? ⟨T,1,none⟩=some (.slice none 0 0):=HP5.out.cell 1;have r25:V5.cell? ⟨T,2,none⟩=some (.slice none 0 0):=HP5.out.cell 2;have r35:V5.cell? ⟨T,3,none⟩=some (.slice none 0 0):=HP5.out.cell 3;have r45:V5.cell? ⟨T,4,none⟩=some (.slice none 0 0):=HP5.out.cell 4;have r55:V5.cell? ⟨T,5,none⟩=some (.slice tp 1 1):=HP5.out.cell 5;clear g)
  | (go_at_call 20;(with_reducible refine(aw_eq V5 tp PW5.out HE5.out).mono ?_);rintro e V6 ⟨rfl,g⟩;have HG6:=zh (HG5.out.trans g);have PW6:=zh (PW5.out.grew g);have HE6:=zh (HE5.out.grew g);have HP6:=zh (HP5.out.grew g);have r06:V6.cell? ⟨T,0,none⟩=some (.slice none 0 0):=HP6.out.cell 0;have r16:V6.cell? ⟨T,1,none⟩=some (.slice none 0 0):=HP6.out.cell 1;have r26:V6.cell? ⟨T,2,none⟩=some (.slice none 0 0):=HP6.out.cell 2;have r36:V6.cell? ⟨T,3,none⟩=some (.slice none 0 0):=HP6.out.cell 3;have r46:V6.cell? ⟨T,4,none⟩=some (.slice none 0 0):=HP6.out.cell 4;have r56:V6.cell? ⟨T,5,none⟩=some (.slice tp 1 1):=HP6.out.cell 5;clear g))
 go_ret
 exact⟨rfl,HG6.out⟩
open Go.ChangeShapes Go.WideShapes Go.ChangeAt
theorem list6 {α:Type}:∀{l:List α},l.length=6→∃a0 a1 a2 a3 a4 a5,l=[a0,a1,a2,a3,a4,a5]
 | [a0,a1,a2,a3,a4,a5],_=>⟨a0,a1,a2,a3,a4,a5,rfl⟩
theorem list7 {α:Type}:∀{l:List α},l.length=7→∃a0 a1 a2 a3 a4 a5 a6,l=[a0,a1,a2,a3,a4,a5,a6]
 | [a0,a1,a2,a3,a4,a5,a6],_=>⟨a0,a1,a2,a3,a4,a5,a6,rfl⟩
section
variable {H:Type}{enc:TypeId × Value→H}{W:World}
abbrev TR (enc:TypeId × Value→H) (W:World) (n:Nat) (t:TypeId) (cs:List Value) (x:DataW H × List MemPlace):Prop:=DataW.trod enc Tryz.prog W 0 (fun _=>true) true n t cs=some x
theorem bulk_pos (d:DataW H):1≤Rows.uptoBulk d:=by
 cases d with
 | lit l=>cases l <;> simp [Rows.uptoBulk]
 | nil=>simp [Rows.uptoBulk]
 | ptr d=>simp [Rows.uptoBulk]
 | slice elems spare=>simp [Rows.uptoBulk]
 | agg parts=>simp [Rows.uptoBulk]
 | iface t d=>simp [Rows.uptoBulk]
 | map entries=>simp [Rows.uptoBulk]
 | held h=>simp [Rows.uptoBulk]
theorem bulk_mem {d:DataW H}{l:List (DataW H)}(h:d ∈ l):Rows.uptoBulk d≤Rows.uptoBulkAll l:=by
 induction l with
 | nil=>cases h
 | cons x r ih =>
   simp only [Rows.uptoBulkAll]
   cases List.mem_cons.1 h with
   | inl e=>subst e;omega
   | inr e=>have:=ih e;omega
theorem bulk_app (l r:List (DataW H)):Rows.uptoBulkAll (l++r)=Rows.uptoBulkAll l+Rows.uptoBulkAll r:=by
 induction l with
 | nil=>simp [Rows.uptoBulkAll]
 | cons x l ih=>simp only [List.cons_append,Rows.uptoBulkAll,ih];omega
theorem bulk_one (d:DataW H):Rows.uptoBulkAll [d]=Rows.uptoBulk d:=by simp only [Rows.uptoBulkAll,Nat.add_zero]
def rowC (P:Program) (fs:Array Field):Bool:=(List.range fs.size).all fun i=>match fs[i]? with
 | some f=>f.offset==i&&P.cellsOf f.type==1
 | none=>false
theorem open_struct {t:TypeId}{fs:Array Field}{n:Nat}{cs:List Value}{x:DataW H × List MemPlace}(ht:Tryz.prog.underlying t=some (.struct fs)) (hc:Tryz.prog.cellsOf t=fs.size) (hok:rowC Tryz.prog fs=true) (h:TR enc W n t cs x) :
 ∃(m:Nat) (xs:List (DataW H × List MemPlace)),x.1=.agg (xs.map (·.1))∧cs.length=fs.size∧xs.length=fs.size∧∀(i:Nat) (f:Field),fs[i]?=some f→∃c y,cs[i]?=some c∧xs[i]?=some y∧TR enc W m f.type [c] y:=by
 obtain ⟨xs,m,_,rfl,hl,hxs,hf⟩:=DataW.trod_struct ht h
 rw [hc] at hl
 refine⟨m,xs,rfl,hl,hxs,fun i f hi=>?_⟩
 have hlt:i < fs.size:=(Array.getElem?_eq_some_iff.1 hi).1
 have h1:=List.all_eq_true.1 hok i (List.mem_range.2 hlt)
 rw [hi] at h1
 simp only [Bool.and_eq_true,beq_iff_eq] at h1
 obtain ⟨h2,h3⟩:=h1
 have h5:=hf i f hi
 rw [h2,h3,List.getElem?_eq_getElem (by omega:i < xs.length)] at h5
 refine⟨cs[i]'(by omega),xs[i]'(by omega),List.getElem?_eq_getElem _,List.getElem?_eq_getElem _,?_⟩
 rwa [List.drop_eq_getElem_cons (by omega:i < cs.length),List.take_succ_cons,List.take_zero] at h5
theorem snoc_at {α:Type}{l:List α}{d x:α}{i:Nat}(h:(l++[d])[i]?=some x):(i < l.length∧l[i]?=some x)∨(i=l.length∧d=x):=by
 rcases Nat.lt_or_ge i l.length with hi | hi
 ·rw [List.getElem?_append_left hi] at h
  exact .inl ⟨hi,h⟩
 ·rw [List.getElem?_append_right hi] at h
  have h0:i - l.length=0:=by
   rcases Nat.eq_zero_or_pos (i - l.length) with h1 | h1
   ·exact h1
   ·rw [List.getElem?_eq_none (by rw [List.length_singleton];omega)] at h;cases h
  rw [h0] at h
  exact .inr ⟨by omega,Option.some.inj h⟩
theorem open_rows {α β:Type}{k:Nat}{row:α→List Value}{At:(Nat→Prop)→World→List β→List α→Prop}(T:Hangs k row At) (nn:List β→Nat) (Q:β→Prop) (h0:nn []=0) (hs:∀ys y,nn (ys++[y])=nn ys+nn [y])
 {t e:TypeId}(ht:Tryz.prog.underlying t=some (.slice e)) (hk:Tryz.prog.cellsOf e=k) (K:Nat)
 (step:∀(n:Nat) (cs:List Value) (x:DataW H × List MemPlace),TR enc W n e cs x→Rows.uptoBulk x.1≤K→∃y d,cs=row d∧At (fun b=>b < W.heap.size) W [y] [d]∧nn [y]≤Rows.uptoBulk x.1∧Q y)
 {n:Nat}{cs:List Value}{x:DataW H × List MemPlace}(h:TR enc W n t cs x) (hb:Rows.uptoBulk x.1≤K+1) :
 ∃(p:Option Addr) (c:Nat) (ys:List β),cs=[.slice p ys.length c]∧(InB (fun b=>b < W.heap.size) p ys.length∧∃L,Rw k row W p c L∧At (fun b=>b < W.heap.size) W ys L)∧nn ys+1≤Rows.uptoBulk x.1∧ys.length+1≤Rows.uptoBulk x.1∧∀y ∈ ys,Q y:=by
 have k0:0 < k:=T.enc.pos
 rcases DataW.trod_slice ht h with ⟨rfl,rfl⟩ | ⟨a,len,cap,elems,rest,m,_,rfl,rfl,_,hl,hm,hlen,hel,_,_⟩
 ·exact⟨none,0,[],rfl,⟨fun h=>absurd h (Nat.lt_irrefl 0),[],Rw.nil _ _ _,T.nil⟩,by rw [h0];exact bulk_pos _,bulk_pos _,fun y h=>by cases h⟩
 ·simp only [Rows.uptoBulk] at hb ⊢
  have each:∀i,(hi:i < len)→∃cs',W.cells? 0 (a.add (i * k)) k=some cs'∧TR enc W m e cs' (elems[i]'(by omega)):=fun i hi=>by
   have h1:=hel i hi
   rw [hk,List.getElem?_eq_getElem (by omega:i < elems.length),Option.bind_eq_some_iff] at h1
   obtain ⟨cs',h2,h3⟩:=h1
   exact⟨cs',h2,h3⟩
  have all:∀j,j≤len→∃(ys:List β) (ds:List α),ys.length=j∧ds.length=j∧At (fun b=>b < W.heap.size) W ys ds∧nn ys≤Rows.uptoBulkAll ((elems.map (·.1)).take j)∧j≤Rows.uptoBulkAll ((elems.map (·.1)).take j)∧(∀y ∈ ys,Q y)∧∀i d,ds[i]?=some d→W.cells? 0 (a.add (i * k)) k=some (row d):=by
   intro j
   induction j with
   | zero=>exact fun _=>⟨[],[],rfl,rfl,T.nil,by rw [h0];exact Nat.zero_le _,Nat.zero_le _,fun y h=>(by cases h),fun i d h=>(by simp at h)⟩
   | succ j ih =>
     intro hj
     obtain ⟨ys,ds,g1,g2,g3,g4,g4',g5,g6⟩:=ih (by omega)
     obtain ⟨cs',h2,h3⟩:=each j (by omega)
     have hmem:(elems[j]'(by omega)).1 ∈ elems.map (·.1):=List.mem_map.2 ⟨_,List.getElem_mem _,rfl⟩
     have hle:=bulk_mem hmem
     obtain ⟨y,d,rfl,q1,q2,q3⟩:=step m cs' _ h3 (by omega)
     have htk:(elems.map (·.1)).take (j+1)=(elems.map (·.1)).take j++[(elems[j]'(by omega)).1]:=by
      rw [List.take_succ_eq_append_getElem (by rw [List.length_map];omega),List.getElem_map]
     refine⟨ys++[y],ds++[d],by simp [g1],by simp [g2],T.app q1 g3,?_,?_,?_,?_⟩
     ·rw [hs,htk,bulk_app,bulk_one];omega
     ·rw [htk,bulk_app,bulk_one];have:=bulk_pos (elems[j]'(by omega)).1;omega
     ·intro z hz
      rcases List.mem_append.1 hz with h | h
      ·exact g5 z h
      ·rw [List.mem_singleton] at h;subst h;exact q3
     ·intro i d' hd
      rcases snoc_at hd with ⟨_,h⟩ | ⟨h,e_⟩
      ·exact g6 i d' h
      ·subst h e_;rw [g2];exact h2
  obtain ⟨ys,ds,g1,g2,g3,g4,g4',g5,g6⟩:=all len (Nat.le_refl _)
  rw [List.take_of_length_le (by rw [List.length_map];omega)] at g4 g4'
  have hcell:∀i d,ds[i]?=some d→∀j v,(row d)[j]?=some v→W.cell? ((a.add (i * k)).add j)=some v:=fun i d hd j v hv=>by
   obtain ⟨_,hl2,hc2⟩:=World.cells?_some (g6 i d hd)
   have h1:=hc2 j (by rw [← hl2];exact(List.getElem?_eq_some_iff.1 hv).1)
   rw [h1]
   simp only [List.getD,hv,Option.getD_some]
  obtain ⟨b,o,s⟩:=a
  have hs0:0 < len→s=none∧b < W.heap.size:=fun hp=>by
   have h1:ds[0]?=some (ds[0]'(by omega)):=List.getElem?_eq_getElem _
   have hr:(row (ds[0]'(by omega))).length=k:=T.enc.len _
   have h2:(row (ds[0]'(by omega)))[0]?=some ((row (ds[0]'(by omega)))[0]'(by omega)):=List.getElem?_eq_getElem _
   have h3:=hcell 0 _ h1 0 _ h2
   exact⟨by simpa [Addr.add] using World.cell?_spot h3,by have:=World.block_lt_of_cell? _ _ h3;simpa [Addr.add] using this⟩
  refine⟨some ⟨b,o,s⟩,cap,ys,by rw [g1],⟨fun hp a' ha'=>?_,ds,⟨⟨by omega,by simpa [maxLen] using hm,fun hp=>?_⟩,fun h=>by cases h⟩,g3⟩,by omega,by omega,g5⟩
  ·cases ha';exact(hs0 (by omega)).2
  ·obtain ⟨rfl,_⟩:=hs0 (by omega)
   refine⟨b,o,rfl,fun i d hd j v hv=>?_⟩
   have h1:=hcell i d hd j v hv
   rwa [Go.WideShapes.add_plain,Go.WideShapes.add_plain] at h1
end
section
variable {H:Type}{enc:TypeId × Value→H}{W:World}
theorem opn_x1 {K:Nat}{n:Nat}{cs:List Value}{x:DataW H × List MemPlace}(h:TR enc W n 35 cs x) (hb:Rows.uptoBulk x.1≤K+1) (hK:K+1≤1048576) (OPX:∀(n:Nat) (cs:List Value) (x:DataW H × List MemPlace),TR enc W n 35 cs x→Rows.uptoBulk x.1≤K→∃y d,cs=xdc d∧XsAt (fun b=>b < W.heap.size) W [y] [d]∧nXs [y]≤Rows.uptoBulk x.1) :
 ∃y d,cs=xdc d∧XsAt (fun b=>b < W.heap.size) W [y] [d]∧nXs [y]≤Rows.uptoBulk x.1:=by
 obtain ⟨m,xs,hx,hl,hxl,hf⟩:=open_struct Tryz.underlying35 (by kernel_rfl) (by kernel_rfl) h
 obtain ⟨c0,c1,c2,c3,c4,c5,rfl⟩:=list6 hl
 obtain ⟨x0,x1,x2,x3,x4,x5,rfl⟩:=list6 hxl
 rw [hx] at hb
 simp only [List.map_cons,List.map_nil,Rows.uptoBulk,Rows.uptoBulkAll] at hb
 rw [hx]
 simp only [List.map_cons,List.map_nil,Rows.uptoBulk,Rows.uptoBulkAll]
 obtain ⟨e0,z0,he0,hz0,t0⟩:=hf 0 _ rfl
 obtain rfl:c0=e0:=Option.some.inj he0
 obtain rfl:x0=z0:=Option.some.inj hz0
 have p0:=bulk_pos x0.1
 obtain ⟨k,q0,rfl,w0⟩:=DataW.trod_int Tryz.underlying3 t0
 obtain rfl:=(List.cons.inj q0).1
 obtain ⟨e1,z1,he1,hz1,t1⟩:=hf 1 _ rfl
 obtain rfl:c1=e1:=Option.some.inj he1
 obtain rfl:x1=z1:=Option.some.inj hz1
 have p1:=bulk_pos x1.1
 obtain ⟨s,q1,rfl,w1⟩:=DataW.trod_string Tryz.underlying9 t1
 obtain rfl:=(List.cons.inj q1).1
 have b1:s.size+1≤Rows.uptoBulk (DataW.lit (H:=H) (Lit.string s.data.toList),([]:List MemPlace)).1:=by show _≤Rows.uptoBulk (DataW.lit (H:=H) (Lit.string s.data.toList));rw [Rows.uptoBulk,Array.length_toList];exact Nat.le_refl _
 obtain ⟨e2,z2,he2,hz2,t2⟩:=hf 2 _ rfl
 obtain rfl:c2=e2:=Option.some.inj he2
 obtain rfl:x2=z2:=Option.some.inj hz2
 have p2:=bulk_pos x2.1
 obtain ⟨v,q2,rfl,w2⟩:=DataW.trod_int Tryz.underlying32 t2
 obtain rfl:=(List.cons.inj q2).1
 have b2:v≤32767:=(by simpa [Lit.wf,IntKind.min,IntKind.max,IntKind.bits,IntKind.signed] using w2:-32768≤v∧v≤32767).2
 obtain ⟨e3,z3,he3,hz3,t3⟩:=hf 3 _ rfl
 obtain rfl:c3=e3:=Option.some.inj he3
 obtain rfl:x3=z3:=Option.some.inj hz3
 have p3:=bulk_pos x3.1
 obtain ⟨o,q3,rfl,w3⟩:=DataW.trod_int Tryz.underlying3 t3
 obtain rfl:=(List.cons.inj q3).1
 obtain ⟨e4,z4,he4,hz4,t4⟩:=hf 4 _ rfl
 obtain rfl:c4=e4:=Option.some.inj he4
 obtain rfl:x4=z4:=Option.some.inj hz4
 have p4:=bulk_pos x4.1
 obtain ⟨p_ar,c_ar,ar,q4,g4,k4,l4,_⟩:=open_rows hangsX nXs (fun _=>True) (by rw [nXs]) (fun ys y=>nXs_append ys [y]) Tryz.underlying33 (by kernel_rfl) K (fun n cs x h hb=>by obtain ⟨y,d,r1,r2,r3⟩:=OPX n cs x h hb;exact⟨y,d,r1,r2,r3,trivial⟩) t4 (by omega)
 obtain rfl:=(List.cons.inj q4).1
 obtain ⟨e5,z5,he5,hz5,t5⟩:=hf 5 _ rfl
 obtain rfl:c5=e5:=Option.some.inj he5
 obtain rfl:x5=z5:=Option.some.inj hz5
 have p5:=bulk_pos x5.1
 obtain ⟨q,q5,rfl,w5⟩:=DataW.trod_int Tryz.underlying3 t5
 obtain rfl:=(List.cons.inj q5).1
 refine⟨⟨k,s,v,o,ar,q⟩,⟨k,s,v,o,p_ar,ar.length,c_ar,q⟩,rfl,xat1 ⟨by omega,b2⟩ g4,?_⟩
 rw [nXs,nXs,nX]
 omega
theorem opn_x:∀(K:Nat),K≤1048576→∀(n:Nat) (cs:List Value) (x:DataW H × List MemPlace),TR enc W n 35 cs x→Rows.uptoBulk x.1≤K→∃y d,cs=xdc d∧XsAt (fun b=>b < W.heap.size) W [y] [d]∧nXs [y]≤Rows.uptoBulk x.1:=by
 intro K
 induction K with
 | zero=>intro _ n cs x _ hb;have:=bulk_pos x.1;omega
 | succ K ih=>intro hK n cs x h hb;exact opn_x1 h hb hK (ih (by omega))
theorem opn_s1 {K:Nat}{n:Nat}{cs:List Value}{x:DataW H × List MemPlace}(h:TR enc W n 49 cs x) (hb:Rows.uptoBulk x.1≤K+1) (hK:K+1≤1048576) (OPX:∀(n:Nat) (cs:List Value) (x:DataW H × List MemPlace),TR enc W n 35 cs x→Rows.uptoBulk x.1≤K→∃y d,cs=xdc d∧XsAt (fun b=>b < W.heap.size) W [y] [d]∧nXs [y]≤Rows.uptoBulk x.1) (OPS:∀(n:Nat) (cs:List Value) (x:DataW H × List MemPlace),TR enc W n 49 cs x→Rows.uptoBulk x.1≤K→∃y d,cs=sdc d∧SsAt (fun b=>b < W.heap.size) W [y] [d]∧nSs [y]+mSs [y]≤Rows.uptoBulk x.1) :
 ∃y d,cs=sdc d∧SsAt (fun b=>b < W.heap.size) W [y] [d]∧nSs [y]+mSs [y]≤Rows.uptoBulk x.1:=by
 obtain ⟨m,xs,hx,hl,hxl,hf⟩:=open_struct Tryz.underlying49 (by kernel_rfl) (by kernel_rfl) h
 obtain ⟨c0,c1,c2,c3,c4,c5,c6,rfl⟩:=list7 hl
 obtain ⟨x0,x1,x2,x3,x4,x5,x6,rfl⟩:=list7 hxl
 rw [hx] at hb
 simp only [List.map_cons,List.map_nil,Rows.uptoBulk,Rows.uptoBulkAll] at hb
 rw [hx]
 simp only [List.map_cons,List.map_nil,Rows.uptoBulk,Rows.uptoBulkAll]
 obtain ⟨e0,z0,he0,hz0,t0⟩:=hf 0 _ rfl
 obtain rfl:c0=e0:=Option.some.inj he0
 obtain rfl:x0=z0:=Option.some.inj hz0
 have p0:=bulk_pos x0.1
 obtain ⟨k,q0,rfl,w0⟩:=DataW.trod_int Tryz.underlying3 t0
 obtain rfl:=(List.cons.inj q0).1
 obtain ⟨e1,z1,he1,hz1,t1⟩:=hf 1 _ rfl
 obtain rfl:c1=e1:=Option.some.inj he1
 obtain rfl:x1=z1:=Option.some.inj hz1
 have p1:=bulk_pos x1.1
 obtain ⟨s,q1,rfl,w1⟩:=DataW.trod_string Tryz.underlying9 t1
 obtain rfl:=(List.cons.inj q1).1
 have b1:s.size+1≤Rows.uptoBulk (DataW.lit (H:=H) (Lit.string s.data.toList),([]:List MemPlace)).1:=by show _≤Rows.uptoBulk (DataW.lit (H:=H) (Lit.string s.data.toList));rw [Rows.uptoBulk,Array.length_toList];exact Nat.le_refl _
 obtain ⟨e2,z2,he2,hz2,t2⟩:=hf 2 _ rfl
 obtain rfl:c2=e2:=Option.some.inj he2
 obtain rfl:x2=z2:=Option.some.inj hz2
 have p2:=bulk_pos x2.1
 obtain ⟨nn,q2,rfl,w2⟩:=DataW.trod_int Tryz.underlying3 t2
 obtain rfl:=(List.cons.inj q2).1
 obtain ⟨e3,z3,he3,hz3,t3⟩:=hf 3 _ rfl
 obtain rfl:c3=e3:=Option.some.inj he3
 obtain rfl:x3=z3:=Option.some.inj hz3
 have p3:=bulk_pos x3.1
 obtain ⟨p_ar,c_ar,ar,q3,g3,k3,l3,_⟩:=open_rows hangsX nXs (fun _=>True) (by rw [nXs]) (fun ys y=>nXs_append ys [y]) Tryz.underlying33 (by kernel_rfl) K (fun n cs x h hb=>by obtain ⟨y,d,r1,r2,r3⟩:=OPX n cs x h hb;exact⟨y,d,r1,r2,r3,trivial⟩) t3 (by omega)
 obtain rfl:=(List.cons.inj q3).1
 obtain ⟨e4,z4,he4,hz4,t4⟩:=hf 4 _ rfl
 obtain rfl:c4=e4:=Option.some.inj he4
 obtain rfl:x4=z4:=Option.some.inj hz4
 have p4:=bulk_pos x4.1
 obtain ⟨p_b,c_b,b,q4,g4,k4,l4,_⟩:=open_rows hangsS (fun l=>nSs l+mSs l) (fun _=>True) (by rw [nSs,mSs]) (fun ys y=>by show nSs (ys++[y])+mSs (ys++[y])=_;rw [nSs_append,mSs_append];omega) Tryz.underlying40 (by kernel_rfl) K (fun n cs x h hb=>by obtain ⟨y,d,r1,r2,r3⟩:=OPS n cs x h hb;exact⟨y,d,r1,r2,r3,trivial⟩) t4 (by omega)
 obtain rfl:=(List.cons.inj q4).1
 obtain ⟨e5,z5,he5,hz5,t5⟩:=hf 5 _ rfl
 obtain rfl:c5=e5:=Option.some.inj he5
 obtain rfl:x5=z5:=Option.some.inj hz5
 have p5:=bulk_pos x5.1
 obtain ⟨p_e,c_e,e,q5,g5,k5,l5,_⟩:=open_rows hangsS (fun l=>nSs l+mSs l) (fun _=>True) (by rw [nSs,mSs]) (fun ys y=>by show nSs (ys++[y])+mSs (ys++[y])=_;rw [nSs_append,mSs_append];omega) Tryz.underlying40 (by kernel_rfl) K (fun n cs x h hb=>by obtain ⟨y,d,r1,r2,r3⟩:=OPS n cs x h hb;exact⟨y,d,r1,r2,r3,trivial⟩) t5 (by omega)
 obtain rfl:=(List.cons.inj q5).1
 obtain ⟨e6,z6,he6,hz6,t6⟩:=hf 6 _ rfl
 obtain rfl:c6=e6:=Option.some.inj he6
 obtain rfl:x6=z6:=Option.some.inj hz6
 have p6:=bulk_pos x6.1
 obtain ⟨q,q6,rfl,w6⟩:=DataW.trod_int Tryz.underlying3 t6
 obtain rfl:=(List.cons.inj q6).1
 refine⟨⟨k,s,nn,ar,b,e,q⟩,⟨k,s,nn,p_ar,ar.length,c_ar,p_b,b.length,c_b,p_e,e.length,c_e,q⟩,rfl,sat1 (by omega) g3 g4 g5,?_⟩
 rw [nSs,mSs,nSs,mSs,nS,mS]
 omega
theorem opn_s:∀(K:Nat),K≤1048576→∀(n:Nat) (cs:List Value) (x:DataW H × List MemPlace),TR enc W n 49 cs x→Rows.uptoBulk x.1≤K→∃y d,cs=sdc d∧SsAt (fun b=>b < W.heap.size) W [y] [d]∧nSs [y]+mSs [y]≤Rows.uptoBulk x.1:=by
 intro K
 induction K with
 | zero=>intro _ n cs x _ hb;have:=bulk_pos x.1;omega
 | succ K ih=>intro hK n cs x h hb;exact opn_s1 h hb hK (opn_x K (by omega)) (ih (by omega))
end

theorem own:ownKnob Tryz.prog.godebug=none:=by kernel_rfl
theorem laidOut:laidOutB Tryz.prog=true:=by kernel_rfl
theorem bounds_u8 {x:Int}(h:(Lit.int .u8 x).wf=true):0≤x∧x≤255:=by
 simpa [Lit.wf,IntKind.min,IntKind.max,IntKind.bits,IntKind.signed] using h
def arr1V {H:Type}:DataW H→List Value
 | .agg ds=>ds.map litV
 | _=>[]
section
variable {H:Type}{enc:TypeId × Value→H}{P:Program}{w:World}{base:Nat}{sp:Nat→Bool}{held:Bool}{fuel:Nat}{cs:List Value}
theorem arr1_vals {T e:TypeId}{m:Nat}{x:DataW H × List MemPlace}(hT:P.underlying T=some (.array m e)) (hf1:flat1 P e=true) (hce:P.cellsOf e=1) (hcT:P.cellsOf T=m)
 (h:DataW.trod enc P w base sp held fuel T cs=some x):cs=arr1V x.1:=by
 obtain ⟨xs,n,_,rfl,hl,hxs,hf⟩:=DataW.trod_array hT h
 show cs=(xs.map (·.1)).map litV
 rw [hcT] at hl
 apply List.ext_getElem?
 intro i
 by_cases hi:i < m
 ·have hx:i < xs.length:=by omega
  have h5:=hf i (by omega)
  rw [List.getElem?_eq_getElem hx,hce,Nat.mul_one] at h5
  have h6:=lit_vals hf1 h5
  have h7:cs[i]?=some (litV xs[i].1):=by
   have:=congrArg (·[0]?) h6
   simpa [List.getElem?_take,List.getElem?_drop] using this
  rw [h7]
  simp [List.getElem?_eq_getElem hx]
 ·rw [List.getElem?_eq_none (by omega),List.getElem?_eq_none (by simp;omega)]
end
theorem strs_of_head {P:Program}{W:World}{name:String}{d:DataW Unit}{rest:List (String × DataW Unit)}{g:Nat}{T e:TypeId}{m:Nat}
 (hg:P.globalNamed name=some g) (hty:(P.globals[g]?).map (·.type)=some T) (hT:P.underlying T=some (.array m e)) (hf1:flat1 P e=true) (hce:P.cellsOf e=1) (hcT:P.cellsOf T=m)
 (h:laidMet P ((name,d) :: rest) W):W.var? P name=some (arr1V d).toArray:=by
 obtain ⟨ps,⟨g',t',cs,fuel,p,q,hg',ht',hvar,hd,_,_⟩,_⟩:=h
 obtain rfl:=Option.some.inj (hg.symm.trans hg')
 obtain rfl:=Option.some.inj (hty.symm.trans ht')
 have:=arr1_vals hT hf1 hce hcT hd
 rw [hvar,← this]
theorem env_of_laid {W:World}(h:laidMetH Tryz.prog Rows.aSTFormatsRow.laid W):Env W:=by
 have hL:laidMet Tryz.prog Rows.aSTFormatsRow.laid W:=by
  rw [MakeChecks.laidMetH_plain _ _ _ (by kernel_rfl)] at h
  exact h
 have h3:=hL.tail.tail
 have h5:=h3.tail.tail
 have h6:=h5.tail
 have h7:=h6.tail
 have h8:=h7.tail
 refine ⟨?_, ?_, ?_, ?_, Lib.tabIs_of_head (n := 20) (t := 190) (e := 175) (show Tryz.prog.globalNamed "internal/strconv.uint64pow10" = some 4 by kernel_rfl) (by kernel_rfl) Tryz.underlying190 Tryz.underlying175 (by kernel_rfl) (by kernel_rfl) h3⟩
 ·exact strs_of_head (g:=2) (T:=162) (e:=9) (m:=22) (by kernel_rfl) (by kernel_rfl) Tryz.underlying162 (by kernel_rfl) (by kernel_rfl) (by kernel_rfl) h6
 ·exact rows_of_head (g:=0) (T:=118) (e:=117) (m:=7) (k:=5) (by kernel_rfl) (by kernel_rfl) Tryz.underlying118 Tryz.underlying117 (by kernel_rfl) (by kernel_rfl) (by kernel_rfl) (by kernel_rfl) h7
 ·exact rows_of_head (g:=3) (T:=165) (e:=164) (m:=14) (k:=5) (by kernel_rfl) (by kernel_rfl) Tryz.underlying165 Tryz.underlying164 (by kernel_rfl) (by kernel_rfl) (by kernel_rfl) (by kernel_rfl) h8
 ·exact rows_of_head (g:=1) (T:=152) (e:=151) (m:=16) (k:=2) (by kernel_rfl) (by kernel_rfl) Tryz.underlying152 Tryz.underlying151 (by kernel_rfl) (by kernel_rfl) (by kernel_rfl) (by kernel_rfl) h5
theorem door_met (os:Os) (args:Array Value):laidMetH Tryz.prog Rows.aSTFormatsRow.laid ((World.laidAll Tryz.prog os Rows.aSTFormatsRow.laid).forCall (fun _ _=>0) ⟨#[],args,[]⟩).memory:=by
 rw [MakeChecks.laidMetH_plain _ _ _ (by kernel_rfl)]
 exact laidMet_laidAll _ (by kernel_rfl) (by kernel_rfl)
section
variable {H:Type}{enc:TypeId × Value→H}{W:World}{r:Reach}{b0:Nat}{v:Value}{d:DataW H}{p:List MemPlace}
set_option maxRecDepth 20000 in
theorem arg_s (hv:Value.okWide Tryz.prog W r b0 40 v) (h:DataW.Trod enc Tryz.prog W 0 (fun _=>true) true 40 v d p) (hb:Rows.uptoBulk d≤1048576) :
 ∃(l:List Sm) (q:Option Addr) (c:Nat),v=.slice q l.length c∧SL (fun b=>b < W.heap.size) W q c l∧nSs l+mSs l≤1048576:=by
 obtain ⟨a,n,c,rfl⟩:=okWide_slice Tryz.underlying40 hv
 obtain ⟨fuel,hf⟩:=h
 obtain ⟨q,c',l,e,h1,h2,_⟩:=open_rows hangsS (fun l=>nSs l+mSs l) (fun _=>True) (by rw [nSs,mSs]) (fun ys y=>by show nSs (ys++[y])+mSs (ys++[y])=_;rw [nSs_append,mSs_append];omega) Tryz.underlying40 (by kernel_rfl) 1048576 (fun n cs x h hb=>by obtain ⟨y,d,r1,r2,r3⟩:=opn_s 1048576 (Nat.le_refl _) n cs x h hb;exact⟨y,d,r1,r2,r3,trivial⟩) (x:=(d,p)) hf (Nat.le_succ_of_le hb)
 have e':[Value.slice a n c]=[Value.slice q l.length c']:=e
 exact⟨l,q,c',(List.cons.inj e').1,h1,by have h3:(nSs l+mSs l)+1≤Rows.uptoBulk d:=h2;omega⟩
end
end Go.Proofs.YtcknpcbkofgdoaaGreatDoor
