/-
  THE REFERENCE OF LAYER 16: Format.
  THE REFERENCE OF LAYER 16: EqualExpr.
  THE REFERENCE OF LAYER 16: StripExpr.
  TREES OF EXPRESSIONS THAT THE CALL HAS MADE: each row in a block of its own, in the order in which they were made; such trees may be written into (any program of this project). Nothing of one program stands here.
  STATEMENTS WITHOUT POSITIONS (layer 16).
  TREES OF STATEMENTS THAT THE CALL HAS MADE: each row in a block of its own, in the order in which they were made (any program of this project). Nothing of one program stands here.
  LISTS OF TASKS THAT THE CALL HAS MADE: each row in a block of its own, in the order in which they were made (any program of this project). Nothing of one program stands here.
  SLICES OF BYTES AND STRINGS (any program): append of a string, string(b) in a region that draws, blocks of another type than a row of bytes. Nothing of the program stands here.
  A LAID TABLE OF STRUCTS (any program): an array of structs of numbers, truth values and strings that reads as a datum holds the datum's values, cell for cell. Nothing of the program stands here.
  EQUALITY OF STATEMENTS (layer 16).
  THE REFERENCE OF LAYER 16: EqualStmts.
  THE REFERENCE OF LAYER 16: names.
-/
import Derived.Test.YtcknpcbkofgdoaaGreatDoorZdShort
import Derived.Test.YtcknpcbkofgdoaaGreatDoorZd01
import Derived.Test.YtcknpcbkofgdoaaGreatDoorZd00
import Derived.Deep.LoopGhost
import Derived.Deep.Cut
import Derived.Lib.AppendStr
import Derived.Lib.OthersKept
import Derived.LaidLaws
import Derived.ChangeArms
import Derived.OpenShut
import Derived.Lib.LaidTab
namespace Go.Proofs.YtcknpcbkofgdoaaGreatDoor
open Go Go.RowKit Go.IntWalk
set_option linter.unusedSimpArgs false
set_option linter.unusedVariables false
set_option maxRecDepth 8000
section
variable {dst:Option Tmp}{ty:TypeId}{pos:String}{after:Array Edge}{g:Option (Nat × Bool)}{a:Act}{w:World}{T:Value→World→Prop}
theorem rn_cv_32_3 {x:Operand}{z:Int}(hx:a.eval x=.int .i16 z) (hb:-9223372036854775808≤z∧z≤9223372036854775807) (h:T (.int .i64 z) w):Runs Tryz.prog ⟨dst,.convert 32 3 x,ty,pos,after,g⟩ a w T:=by
 refine Runs.value (v:=.int .i64 z) (w':=w) ?_ h
 have hw:IntKind.i64.wrap z=z:=IntWalk.i64_in _ hb
 simp only [execOp,hx]
 go_simp
end
theorem tskT_len (t:Ta) (h:okT t=true) (hf:fitSs t.b) (hd:4+4 * dSs t.b≤400):(tskT t).length≤3000 * nSs t.b+64 * mSs t.b+400:=by
 obtain ⟨c1,c2,c3,c4⟩:=okT_cases h
 have l1:=linL_len t.b [32,32,32,32] c3 hf (by simpa using hd)
 have ls:=idn_len c1
 have lod:=optT_len [100,101,97,100,108,105,110,101] t.d c2
 simp only [List.length_cons,List.length_nil] at lod
 have lO:(tskO t.s).length≤37:=by rw [tskO,List.length_append];simp only [List.length_cons,List.length_nil];omega
 have lH:(tskH t).length≤200:=by
  rw [tskH]
  rcases c4 with ⟨c4,c5,c6,c7⟩ | ⟨c4,-,-,-⟩
  ·rw [if_pos c4,tskC]
   have lh:=idn_len c5
   have lm:=idn_len c6
   have low:=optT_len [119,105,116,104,105,110] t.w c7
   simp only [List.length_cons,List.length_nil] at low
   simp only [List.length_append,List.length_cons,List.length_nil]
   omega
  ·rw [if_neg (by omega),tskE]
   have lz:=numZ_len (z:=t.p) (by omega)
   simp only [List.length_append,List.length_cons,List.length_nil]
   omega
 rw [tskT,tskF]
 simp only [List.length_append,List.length_cons,List.length_nil]
 omega
section
variable {dst:Option Tmp}{ty:TypeId}{pos:String}{after:Array Edge}{g:Option (Nat × Bool)}{a:Act}{w:World}{T:Value→World→Prop}
end
theorem enters_eq:Enters Tryz.prog 24:=fun args w=>by go_simp
set_option maxHeartbeats 16000000 in
theorem eqx_any:∀(x y:Xp) (A B:Nat→Prop) (w:World) (p p':Option Addr) (c c':Nat),XL A w p c x.ar→XL B w p' c' y.ar →
 Calls Tryz.prog 24 #[xv x.k x.s x.v x.o p x.ar.length c x.q,xv y.k y.s y.v y.o p' y.ar.length c' y.q] w fun e w'=>e=.returned (.bool (eqX x y))∧Grew w w':=by
 intro x
 induction x using Xp.ind with
 | h kx sx vx ox rx qx ih =>
 intro y A B w px py cx cy hx hy
 obtain ⟨ky,sy,vy,oy,ry,qy⟩:=y
 replace hx:XL A w px cx rx:=hx
 replace hy:XL B w py cy ry:=hy
 have HX:=zh hx
 have HY:=zh hy
 have hcap:rx.length≤cx∧ry.length≤cy:=⟨hx.cap.1,hy.cap.1⟩
 have hmax:=And.intro hx.cap.2.1 hy.cap.2.1
 show Calls Tryz.prog 24 #[xv kx sx vx ox px rx.length cx qx,xv ky sy vy oy py ry.length cy qy] w _
 obtain ⟨b,hb⟩:∃b,eqX ⟨kx,sx,vx,ox,rx,qx⟩ ⟨ky,sy,vy,oy,ry,qy⟩=b:=⟨_,rfl⟩
 rw [hb]
 rw [eqX] at hb
 have HOK:=zh hb
 clear hx hy hb
 go_enter Tryz.func24,Tryz.ntmps24
 go_upto_region 1 with fail
 have hb1:Blk w.heap.size [.int .i64 kx,.string sx,.int .i16 vx,.int .i64 ox,.slice px rx.length cx,.int .i64 qx] 35 (w.alloc (Obj.cells #[.int .i64 kx,.string sx,.int .i16 vx,.int .i64 ox,.slice px rx.length cx,.int .i64 qx] 35)):=Blk.new w _ _
 have hb2:Blk (w.heap.size+1) [.int .i64 ky,.string sy,.int .i16 vy,.int .i64 oy,.slice py ry.length cy,.int .i64 qy] 35 ((w.alloc (Obj.cells #[.int .i64 kx,.string sx,.int .i16 vx,.int .i64 ox,.slice px rx.length cx,.int .i64 qx] 35)).alloc (Obj.cells #[.int .i64 ky,.string sy,.int .i16 vy,.int .i64 oy,.slice py ry.length cy,.int .i64 qy] 35)):=by
  have h:=Blk.new (w.alloc (Obj.cells #[.int .i64 kx,.string sx,.int .i16 vx,.int .i64 ox,.slice px rx.length cx,.int .i64 qx] 35)) [.int .i64 ky,.string sy,.int .i16 vy,.int .i64 oy,.slice py ry.length cy,.int .i64 qy] 35
  rw [alloc_sz] at h
  exact h
 have hb3:=hb1.grew ((Grew.refl _).alloc (Obj.cells #[.int .i64 ky,.string sy,.int .i16 vy,.int .i64 oy,.slice py ry.length cy,.int .i64 qy] 35))
 have hgV:Grew w ((w.alloc (Obj.cells #[.int .i64 kx,.string sx,.int .i16 vx,.int .i64 ox,.slice px rx.length cx,.int .i64 qx] 35)).alloc (Obj.cells #[.int .i64 ky,.string sy,.int .i16 vy,.int .i64 oy,.slice py ry.length cy,.int .i64 qy] 35)):=((Grew.refl w).alloc _).alloc _
 generalize ((w.alloc (Obj.cells #[.int .i64 kx,.string sx,.int .i16 vx,.int .i64 ox,.slice px rx.length cx,.int .i64 qx] 35)).alloc (Obj.cells #[.int .i64 ky,.string sy,.int .i16 vy,.int .i64 oy,.slice py ry.length cy,.int .i64 qy] 35))=V at hb2 hb3 hgV ⊢
 clear hb1
 generalize w.heap.size+1=U at hb2 ⊢
 generalize w.heap.size=S at hb3 ⊢
 have HBS:=zh hb3
 have HBU:=zh hb2
 have HGV:=zh hgV
 have d0:Atv ⟨S,0,none⟩ (.int .i64 kx) V:=hb3.atv 0 rfl
 have d1:Atv ⟨S,1,none⟩ (.string sx) V:=hb3.atv 1 rfl
 have d2:Atv ⟨S,2,none⟩ (.int .i16 vx) V:=hb3.atv 2 rfl
 have d3:Atv ⟨S,3,none⟩ (.int .i64 ox) V:=hb3.atv 3 rfl
 have d4:Atv ⟨S,4,none⟩ (.slice px rx.length cx) V:=hb3.atv 4 rfl
 have e0:Atv ⟨U,0,none⟩ (.int .i64 ky) V:=hb2.atv 0 rfl
 have e1:Atv ⟨U,1,none⟩ (.string sy) V:=hb2.atv 1 rfl
 have e2:Atv ⟨U,2,none⟩ (.int .i16 vy) V:=hb2.atv 2 rfl
 have e3:Atv ⟨U,3,none⟩ (.int .i64 oy) V:=hb2.atv 3 rfl
 have e4:Atv ⟨U,4,none⟩ (.slice py ry.length cy) V:=hb2.atv 4 rfl
 clear hb2 hb3 hgV
 refine wp_stillL [some 6,some 7,some 8,some 9,some 10,some 11,some 12,some 13,some 14,some 15,some 16,some 17,some 18,some 19,some 20,some 21,some 22,some 23,some 24,some 25,some 26,some 27,some 28,some 29,some 30,some 31,some 32,some 33,some 34,some 35,some 36,some 37,some 38,some 39,some 40] (Zfc (Zfb (Ztg (Ztb (Zta (Zfe (Zfb (Zfa [])))))))) [fun v _=>v=.pointer (some ⟨S,0,none⟩),fun v _=>v=.int .i64 (kx),fun v _=>v=.pointer (some ⟨U,0,none⟩),fun v _=>v=.int .i64 (ky),fun v _=>v=.bool ((kx) != (ky)),fun v _=>v=.bool ((kx) != (ky)),fun v _=>Zg (((kx) != (ky))=false) (.pointer (some ⟨S,1,none⟩)) v,fun v _=>Zg (((kx) != (ky))=false) (.string sx) v,fun v _=>Zg (((kx) != (ky))=false) (.pointer (some ⟨U,1,none⟩)) v,fun v _=>Zg (((kx) != (ky))=false) (.string sy) v,fun v _=>Zg (((kx) != (ky))=false) (.bool (!decide ((sx)=(sy)))) v,fun v _=>v=.bool (((kx) != (ky))||(!decide ((sx)=(sy)))),fun v _=>v=.bool (((kx) != (ky))||(!decide ((sx)=(sy)))),fun v _=>Zg ((((kx) != (ky))||(!decide ((sx)=(sy))))=false) (.pointer (some ⟨S,2,none⟩)) v,fun v _=>Zg ((((kx) != (ky))||(!decide ((sx)=(sy))))=false) (.int .i16 (vx)) v,fun v _=>Zg ((((kx) != (ky))||(!decide ((sx)=(sy))))=false) (.pointer (some ⟨U,2,none⟩)) v,fun v _=>Zg ((((kx) != (ky))||(!decide ((sx)=(sy))))=false) (.int .i16 (vy)) v,fun v _=>Zg ((((kx) != (ky))||(!decide ((sx)=(sy))))=false) (.bool ((vx) != (vy))) v,fun v _=>v=.bool ((((kx) != (ky))||(!decide ((sx)=(sy))))||((vx) != (vy))),fun v _=>v=.bool ((((kx) != (ky))||(!decide ((sx)=(sy))))||((vx) != (vy))),fun v _=>Zg (((((kx) != (ky))||(!decide ((sx)=(sy))))||((vx) != (vy)))=false) (.pointer (some ⟨S,3,none⟩)) v,fun v _=>Zg (((((kx) != (ky))||(!decide ((sx)=(sy))))||((vx) != (vy)))=false) (.int .i64 (ox)) v,fun v _=>Zg (((((kx) != (ky))||(!decide ((sx)=(sy))))||((vx) != (vy)))=false) (.pointer (some ⟨U,3,none⟩)) v,fun v _=>Zg (((((kx) != (ky))||(!decide ((sx)=(sy))))||((vx) != (vy)))=false) (.int .i64 (oy)) v,fun v _=>Zg (((((kx) != (ky))||(!decide ((sx)=(sy))))||((vx) != (vy)))=false) (.bool ((ox) != (oy))) v,fun v _=>v=.bool (((((kx) != (ky))||(!decide ((sx)=(sy))))||((vx) != (vy)))||((ox) != (oy))),fun v _=>v=.bool (((((kx) != (ky))||(!decide ((sx)=(sy))))||((vx) != (vy)))||((ox) != (oy))),fun v _=>Zg ((((((kx) != (ky))||(!decide ((sx)=(sy))))||((vx) != (vy)))||((ox) != (oy)))=false) (.pointer (some ⟨S,4,none⟩)) v,fun v _=>Zg ((((((kx) != (ky))||(!decide ((sx)=(sy))))||((vx) != (vy)))||((ox) != (oy)))=false) (.slice px (rx.length) (cx)) v,fun v _=>Zg ((((((kx) != (ky))||(!decide ((sx)=(sy))))||((vx) != (vy)))||((ox) != (oy)))=false) (.int .i64 (((rx.length:Nat):Int))) v,fun v _=>Zg ((((((kx) != (ky))||(!decide ((sx)=(sy))))||((vx) != (vy)))||((ox) != (oy)))=false) (.pointer (some ⟨U,4,none⟩)) v,fun v _=>Zg ((((((kx) != (ky))||(!decide ((sx)=(sy))))||((vx) != (vy)))||((ox) != (oy)))=false) (.slice py (ry.length) (cy)) v,fun v _=>Zg ((((((kx) != (ky))||(!decide ((sx)=(sy))))||((vx) != (vy)))||((ox) != (oy)))=false) (.int .i64 (((ry.length:Nat):Int))) v,fun v _=>Zg ((((((kx) != (ky))||(!decide ((sx)=(sy))))||((vx) != (vy)))||((ox) != (oy)))=false) (.bool ((((rx.length:Nat):Int)) != (((ry.length:Nat):Int)))) v,fun v _=>v=.bool ((((((kx) != (ky))||(!decide ((sx)=(sy))))||((vx) != (vy)))||((ox) != (oy)))||((((rx.length:Nat):Int)) != (((ry.length:Nat):Int))))] (by kernel_rfl) rfl ⟨?_,?_,?_,?_,?_,?_,?_,?_,?_,?_,?_,?_,?_,?_,?_,?_,?_,?_,?_,?_,?_,?_,?_,?_,?_,?_,?_,?_,?_,?_,?_,?_,?_,?_,?_,trivial⟩ ?_
 ·intro u w hR hd;exact rn_fld_35_0 (ev rfl) ⟨rfl,rfl⟩
 ·intro u w hR hd;exact rn_ld_3 (ev (hd.1 rfl)) (d0.kept hR) ⟨rfl,rfl⟩
 ·intro u w hR hd;exact rn_fld_35_0 (ev rfl) ⟨rfl,rfl⟩
 ·intro u w hR hd;exact rn_ld_3 (ev (hd.1 rfl)) (e0.kept hR) ⟨rfl,rfl⟩
 ·intro u w hR hd;exact rn_neq_3 (ev (hd.1 rfl)) (ev (hd.2.1 rfl)) ⟨rfl,rfl⟩
 ·intro u w hR hd;exact runs_mv (ev (hd.1 rfl)) ⟨rfl,rfl⟩
 ·intro u w hR hd;exact⟨fun hg=>have hG:=Zh (hd.1 rfl) hg;rn_fld_35_1 (ev rfl) ⟨rfl,⟨fun _=>rfl,fun hn=>absurd hG hn⟩⟩,Zn (hd.1 rfl)⟩
 ·intro u w hR hd;exact⟨fun hg=>have hG:=Zh (hd.2.1 rfl) hg;rn_ld_9 (ev ((hd.1 rfl).1 hG)) (d1.kept hR) ⟨rfl,⟨fun _=>rfl,fun hn=>absurd hG hn⟩⟩,Zn (hd.2.1 rfl)⟩
 ·intro u w hR hd;exact⟨fun hg=>have hG:=Zh (hd.1 rfl) hg;rn_fld_35_1 (ev rfl) ⟨rfl,⟨fun _=>rfl,fun hn=>absurd hG hn⟩⟩,Zn (hd.1 rfl)⟩
 ·intro u w hR hd;exact⟨fun hg=>have hG:=Zh (hd.2.1 rfl) hg;rn_ld_9 (ev ((hd.1 rfl).1 hG)) (e1.kept hR) ⟨rfl,⟨fun _=>rfl,fun hn=>absurd hG hn⟩⟩,Zn (hd.2.1 rfl)⟩
 ·intro u w hR hd;exact⟨fun hg=>have hG:=Zh (hd.2.2.1 rfl) hg;rn_nes_9 (ev ((hd.1 rfl).1 hG)) (ev ((hd.2.1 rfl).1 hG)) ⟨rfl,⟨fun _=>rfl,fun hn=>absurd hG hn⟩⟩,Zn (hd.2.2.1 rfl)⟩
 ·intro u w hR hd;exact runs_or2 (ev (hd.1 rfl)) (fun hb=>ev ((hd.2.1 rfl).1 hb)) ⟨rfl,rfl⟩
 ·intro u w hR hd;exact runs_mv (ev (hd.1 rfl)) ⟨rfl,rfl⟩
 ·intro u w hR hd;exact⟨fun hg=>have hG:=Zh (hd.1 rfl) hg;rn_fld_35_2 (ev rfl) ⟨rfl,⟨fun _=>rfl,fun hn=>absurd hG hn⟩⟩,Zn (hd.1 rfl)⟩
 ·intro u w hR hd;exact⟨fun hg=>have hG:=Zh (hd.2.1 rfl) hg;rn_ld_32 (ev ((hd.1 rfl).1 hG)) (d2.kept hR) ⟨rfl,⟨fun _=>rfl,fun hn=>absurd hG hn⟩⟩,Zn (hd.2.1 rfl)⟩
 ·intro u w hR hd;exact⟨fun hg=>have hG:=Zh (hd.1 rfl) hg;rn_fld_35_2 (ev rfl) ⟨rfl,⟨fun _=>rfl,fun hn=>absurd hG hn⟩⟩,Zn (hd.1 rfl)⟩
 ·intro u w hR hd;exact⟨fun hg=>have hG:=Zh (hd.2.1 rfl) hg;rn_ld_32 (ev ((hd.1 rfl).1 hG)) (e2.kept hR) ⟨rfl,⟨fun _=>rfl,fun hn=>absurd hG hn⟩⟩,Zn (hd.2.1 rfl)⟩
 ·intro u w hR hd;exact⟨fun hg=>have hG:=Zh (hd.2.2.1 rfl) hg;rn_neq_32 (ev ((hd.1 rfl).1 hG)) (ev ((hd.2.1 rfl).1 hG)) ⟨rfl,⟨fun _=>rfl,fun hn=>absurd hG hn⟩⟩,Zn (hd.2.2.1 rfl)⟩
 ·intro u w hR hd;exact runs_or2 (ev (hd.1 rfl)) (fun hb=>ev ((hd.2.1 rfl).1 hb)) ⟨rfl,rfl⟩
 ·intro u w hR hd;exact runs_mv (ev (hd.1 rfl)) ⟨rfl,rfl⟩
 ·intro u w hR hd;exact⟨fun hg=>have hG:=Zh (hd.1 rfl) hg;rn_fld_35_3 (ev rfl) ⟨rfl,⟨fun _=>rfl,fun hn=>absurd hG hn⟩⟩,Zn (hd.1 rfl)⟩
 ·intro u w hR hd;exact⟨fun hg=>have hG:=Zh (hd.2.1 rfl) hg;rn_ld_3 (ev ((hd.1 rfl).1 hG)) (d3.kept hR) ⟨rfl,⟨fun _=>rfl,fun hn=>absurd hG hn⟩⟩,Zn (hd.2.1 rfl)⟩
 ·intro u w hR hd;exact⟨fun hg=>have hG:=Zh (hd.1 rfl) hg;rn_fld_35_3 (ev rfl) ⟨rfl,⟨fun _=>rfl,fun hn=>absurd hG hn⟩⟩,Zn (hd.1 rfl)⟩
 ·intro u w hR hd;exact⟨fun hg=>have hG:=Zh (hd.2.1 rfl) hg;rn_ld_3 (ev ((hd.1 rfl).1 hG)) (e3.kept hR) ⟨rfl,⟨fun _=>rfl,fun hn=>absurd hG hn⟩⟩,Zn (hd.2.1 rfl)⟩
 ·intro u w hR hd;exact⟨fun hg=>have hG:=Zh (hd.2.2.1 rfl) hg;rn_neq_3 (ev ((hd.1 rfl).1 hG)) (ev ((hd.2.1 rfl).1 hG)) ⟨rfl,⟨fun _=>rfl,fun hn=>absurd hG hn⟩⟩,Zn (hd.2.2.1 rfl)⟩
 ·intro u w hR hd;exact runs_or2 (ev (hd.1 rfl)) (fun hb=>ev ((hd.2.1 rfl).1 hb)) ⟨rfl,rfl⟩
 ·intro u w hR hd;exact runs_mv (ev (hd.1 rfl)) ⟨rfl,rfl⟩
 ·intro u w hR hd;exact⟨fun hg=>have hG:=Zh (hd.1 rfl) hg;rn_fld_35_4 (ev rfl) ⟨rfl,⟨fun _=>rfl,fun hn=>absurd hG hn⟩⟩,Zn (hd.1 rfl)⟩
 ·intro u w hR hd;exact⟨fun hg=>have hG:=Zh (hd.2.1 rfl) hg;rn_ld_33 (ev ((hd.1 rfl).1 hG)) (d4.kept hR) ⟨rfl,⟨fun _=>rfl,fun hn=>absurd hG hn⟩⟩,Zn (hd.2.1 rfl)⟩
 ·intro u w hR hd;exact⟨fun hg=>have hG:=Zh (hd.2.1 rfl) hg;rn_len_33 (ev ((hd.1 rfl).1 hG)) ⟨rfl,⟨fun _=>rfl,fun hn=>absurd hG hn⟩⟩,Zn (hd.2.1 rfl)⟩
 ·intro u w hR hd;exact⟨fun hg=>have hG:=Zh (hd.1 rfl) hg;rn_fld_35_4 (ev rfl) ⟨rfl,⟨fun _=>rfl,fun hn=>absurd hG hn⟩⟩,Zn (hd.1 rfl)⟩
 ·intro u w hR hd;exact⟨fun hg=>have hG:=Zh (hd.2.1 rfl) hg;rn_ld_33 (ev ((hd.1 rfl).1 hG)) (e4.kept hR) ⟨rfl,⟨fun _=>rfl,fun hn=>absurd hG hn⟩⟩,Zn (hd.2.1 rfl)⟩
 ·intro u w hR hd;exact⟨fun hg=>have hG:=Zh (hd.2.1 rfl) hg;rn_len_33 (ev ((hd.1 rfl).1 hG)) ⟨rfl,⟨fun _=>rfl,fun hn=>absurd hG hn⟩⟩,Zn (hd.2.1 rfl)⟩
 ·intro u w hR hd;exact⟨fun hg=>have hG:=Zh (hd.2.2.1 rfl) hg;rn_neq_3 (ev ((hd.1 rfl).1 hG)) (ev ((hd.2.1 rfl).1 hG)) ⟨rfl,⟨fun _=>rfl,fun hn=>absurd hG hn⟩⟩,Zn (hd.2.2.1 rfl)⟩
 ·intro u w hR hd;exact runs_or2 (ev (hd.1 rfl)) (fun hb=>ev ((hd.2.1 rfl).1 hb)) ⟨rfl,rfl⟩
 ·intro u h
  have he:u 40=.bool ((((((kx) != (ky))||(!decide ((sx)=(sy))))||((vx) != (vy)))||((ox) != (oy)))||((((rx.length:Nat):Int)) != (((ry.length:Nat):Int)))):=h 34 (by decide)
  have hE:((((((kx) != (ky))||(!decide ((sx)=(sy))))||((vx) != (vy)))||((ox) != (oy)))||((((rx.length:Nat):Int)) != (((ry.length:Nat):Int))))=!eqH kx sx vx ox rx.length ky sy vy oy ry.length:=by rw [eqH,Bool.not_not]
  rw [hE] at he
  simp only [mixA,mixL,zz9,zz0,he]
  clear h he hE d0 d1 d2 d3 d4 e0 e1 e2 e3 e4
  cases hh:eqH kx sx vx ox rx.length ky sy vy oy ry.length with
  | false =>
    rw [hh,Bool.false_and] at HOK
    go_wp2
    go_ret
    exact⟨ret_bool HOK.out,HGV.out⟩
  | true =>
    have hlen:rx.length=ry.length:=by
     rw [eqH,Bool.not_eq_true'] at hh
     simp only [Bool.or_eq_false_iff] at hh
     have:=hh.2
     simp at this
     omega
    rw [hh,Bool.true_and] at HOK
    have HLE:=zh hlen
    have r4:V.cell? ⟨S,4,none⟩=some (.slice px rx.length cx):=HBS.out.cell 4
    clear hh hlen
    go_wp2
    clear r4
    go_loopg [5,44] rx.length (fun gg jv iv wr=>∃(j:Nat),iv=.int .i64 (j:Int)∧j≤rx.length∧gg=rx.length - j∧Hid (eqXs (rx.take j) (ry.take j)=true)∧Hid (Grew V wr))
    case atStart=>exact⟨0,rfl,Nat.zero_le _,rfl,zh (eqXs_nil _),zh (Grew.refl _)⟩
    case round =>
     obtain ⟨j,rfl,hj,rfl,HI,HGr⟩:=hrel
     have HG:=zh (HGV.out.trans HGr.out)
     by_cases hlt:j < rx.length
     ·have hlt2:j < ry.length:=by have:=HLE.out;omega
      have hta:=List.take_succ_eq_append_getElem hlt
      have htb:=List.take_succ_eq_append_getElem hlt2
      have hno:=fun h=>eqXs_no rx ry j hlt hlt2 h
      have hih:=ih _ (List.getElem_mem hlt)
      have HLT:=zh (Nat.succ_le_of_lt hlt)
      have HL2:=zh (And.intro hlt hlt2)
      obtain ⟨ba,oa,pa,ca,hpa,hba,haa,hca⟩:=HX.out.get j hlt
      generalize rx[j]'hlt=xa at hba haa hca hih hno hta
      obtain ⟨ka,sa,va,o_a,ra,qa⟩:=xa
      replace haa:XL A w pa ca ra:=haa
      replace hca:∀i_ u_,(xdc ⟨ka,sa,va,o_a,pa,ra.length,ca,qa⟩)[i_]?=some u_→w.cell? ⟨ba,oa+j * 6+i_,none⟩=some u_:=hca
      obtain ⟨bb,ob,pb,cb,hpb,hbb,hab,hcb⟩:=HY.out.get j hlt2
      generalize ry[j]'hlt2=xb at hbb hab hcb hih hno htb
      obtain ⟨kb,sb,vb,o_b,rb,qb⟩:=xb
      replace hab:XL B w pb cb rb:=hab
      replace hcb:∀i_ u_,(xdc ⟨kb,sb,vb,o_b,pb,rb.length,cb,qb⟩)[i_]?=some u_→w.cell? ⟨bb,ob+j * 6+i_,none⟩=some u_:=hcb
      obtain ⟨dd,hd⟩:∃d,eqX ⟨ka,sa,va,o_a,ra,qa⟩ ⟨kb,sb,vb,o_b,rb,qb⟩=d:=⟨_,rfl⟩
      have HD:=zh hd
      have HTA:=zh hta
      have HTB:=zh htb
      have HNO:=zh (fun(h:dd=false)=>(show b=false from HOK.out ▸ hno (hd.trans h)))
      have HIH:=zh (fun W (hW:Grew w W)=>(show Calls Tryz.prog 24 #[xv ka sa va o_a pa ra.length ca qa,xv kb sb vb o_b pb rb.length cb qb] W fun e w'=>e=.returned (.bool dd)∧Grew W w' from hd ▸ hih ⟨kb,sb,vb,o_b,rb,qb⟩ A B W pa pb ca cb (haa.kept hW) (hab.kept hW)))
      subst hpa
      subst hpb
      have hbS:=HBS.out.grew (HGr.out.trans (Grew.refl wr).drw)
      have hbU:=HBU.out.grew (HGr.out.trans (Grew.refl wr).drw)
      have d4:Atv ⟨S,4,none⟩ (.slice (some ⟨ba,oa,none⟩) rx.length cx) wr.drew:=hbS.atv 4 rfl
      have e4:Atv ⟨U,4,none⟩ (.slice (some ⟨bb,ob,none⟩) ry.length cy) wr.drew:=hbU.atv 4 rfl
      have f0:Atv ⟨ba,oa+j * 6,none⟩ (.int .i64 ka) wr.drew:=Atv.kept (hca 0 _ rfl) (HG.out.trans (Grew.refl wr).drw)
      have f1:Atv ⟨ba,oa+j * 6+1,none⟩ (.string sa) wr.drew:=Atv.kept (hca 1 _ rfl) (HG.out.trans (Grew.refl wr).drw)
      have f2:Atv ⟨ba,oa+j * 6+2,none⟩ (.int .i16 va) wr.drew:=Atv.kept (hca 2 _ rfl) (HG.out.trans (Grew.refl wr).drw)
      have f3:Atv ⟨ba,oa+j * 6+3,none⟩ (.int .i64 o_a) wr.drew:=Atv.kept (hca 3 _ rfl) (HG.out.trans (Grew.refl wr).drw)
      have f4:Atv ⟨ba,oa+j * 6+4,none⟩ (.slice pa ra.length ca) wr.drew:=Atv.kept (hca 4 _ rfl) (HG.out.trans (Grew.refl wr).drw)
      have f5:Atv ⟨ba,oa+j * 6+5,none⟩ (.int .i64 qa) wr.drew:=Atv.kept (hca 5 _ rfl) (HG.out.trans (Grew.refl wr).drw)
      have h0:Atv ⟨bb,ob+j * 6,none⟩ (.int .i64 kb) wr.drew:=Atv.kept (hcb 0 _ rfl) (HG.out.trans (Grew.refl wr).drw)
      have h1:Atv ⟨bb,ob+j * 6+1,none⟩ (.string sb) wr.drew:=Atv.kept (hcb 1 _ rfl) (HG.out.trans (Grew.refl wr).drw)
      have h2:Atv ⟨bb,ob+j * 6+2,none⟩ (.int .i16 vb) wr.drew:=Atv.kept (hcb 2 _ rfl) (HG.out.trans (Grew.refl wr).drw)
      have h3:Atv ⟨bb,ob+j * 6+3,none⟩ (.int .i64 o_b) wr.drew:=Atv.kept (hcb 3 _ rfl) (HG.out.trans (Grew.refl wr).drw)
      have h4:Atv ⟨bb,ob+j * 6+4,none⟩ (.slice pb rb.length cb) wr.drew:=Atv.kept (hcb 4 _ rfl) (HG.out.trans (Grew.refl wr).drw)
      have h5:Atv ⟨bb,ob+j * 6+5,none⟩ (.int .i64 qb) wr.drew:=Atv.kept (hcb 5 _ rfl) (HG.out.trans (Grew.refl wr).drw)
      clear hta htb hno hih hd haa hab hca hcb hba hbb hbS hbU hlt2
      go_upto_region 6 with fail
      have hlt2:j < ry.length:=HL2.out.2
      refine wp_posts [some 47,some 48,some 49,some 50,some 51,some 52,some 53,some 54,some 55,some 56,some 57,some 58] (Zfg (Zfd (Zfc (Zfb (Zfa (Ztd (Ztc (Zfa [])))))))) [fun v _=>v=.pointer (some ⟨S,4,none⟩),fun v _=>v=.slice (some ⟨ba,oa,none⟩) (rx.length) (cx),fun v _=>v=.int .i64 (((j:Nat):Int)),fun v _=>v=.pointer (some ⟨ba,oa+j * 6,none⟩),fun v _=>v=.agg #[.int .i64 (ka),.string sa,.int .i16 (va),.int .i64 (o_a),.slice pa ra.length ca,.int .i64 (qa)],fun v _=>v=.pointer (some ⟨U,4,none⟩),fun v _=>v=.slice (some ⟨bb,ob,none⟩) (ry.length) (cy),fun v _=>v=.int .i64 (((j:Nat):Int)),fun v _=>v=.pointer (some ⟨bb,ob+j * 6,none⟩),fun v _=>v=.agg #[.int .i64 (kb),.string sb,.int .i16 (vb),.int .i64 (o_b),.slice pb rb.length cb,.int .i64 (qb)],fun v _=>v=.bool (dd),fun v _=>v=.bool (!(dd))] (by kernel_rfl) (by kernel_rfl) rfl ?_ ⟨?_,?_,?_,?_,?_,?_,?_,?_,?_,?_,?_,?_,trivial⟩ ?_
      ·exact⟨Zi,Zi,Zi,Zi,Zi,Zi,Zi,Zi,Zi,Zi,Zi,Zi,trivial⟩
      ·intro u w hR hd;exact rn_fld_35_4 (ev rfl) Zr
      ·intro u w hR hd;exact rn_ld_33 (ev (hd.1 rfl)) (d4.kept hR) Zr
      ·intro u w hR hd;exact runs_mv (ev rfl) Zr
      ·intro u w hR hd;exact rn_idx_33 (j) (ev (hd.1 rfl)) (ev (hd.2.1 rfl)) (by omega) Zr
      ·intro u w hR hd;exact rn_ld_35 (ev (hd.1 rfl)) (f0.kept hR) (f1.kept hR) (f2.kept hR) (f3.kept hR) (f4.kept hR) (f5.kept hR) Zr
      ·intro u w hR hd;exact rn_fld_35_4 (ev rfl) Zr
      ·intro u w hR hd;exact rn_ld_33 (ev (hd.1 rfl)) (e4.kept hR) Zr
      ·intro u w hR hd;exact runs_mv (ev rfl) Zr
      ·intro u w hR hd;exact rn_idx_33 (j) (ev (hd.1 rfl)) (ev (hd.2.1 rfl)) (by omega) Zr
      ·intro u w hR hd;exact rn_ld_35 (ev (hd.1 rfl)) (h0.kept hR) (h1.kept hR) (h2.kept hR) (h3.kept hR) (h4.kept hR) (h5.kept hR) Zr
      ·intro u w hR hd;exact runs_c2 enters_eq (ev (hd.1 rfl)) (ev (hd.2.1 rfl)) (callp (fun _ e=>e) (HIH.out _ (HG.out.trans ((Grew.refl _).drw.trans hR))))
      ·intro u w hR hd;exact runs_nt (ev (hd.1 rfl)) Zr
      ·intro u w4 hR hh
       have he:u 58=.bool (!(dd)):=hh 11 (by decide)
       simp only [mixA,mixL,zz9,zz0,he]
       have HG4:Hid (Grew V w4):=zh (HGr.out.trans ((Grew.refl wr).drw.trans hR))
       clear hh he hR d4 e4 f0 f1 f2 f3 f4 f5 h0 h1 h2 h3 h4 h5
       cases dd with
       | false =>
         have HN2:=zh (HNO.out rfl)
         clear HNO
         go_wp2
         go_ret
         exact⟨ret_bool HN2.out.symm,HGV.out.trans HG4.out⟩
       | true =>
         clear HNO
         go_wp2
         go_roundg (rx.length - (j+1))
         case measure=>have:=HLT.out;omega
         case rel=>exact⟨j+1,by go_num,HLT.out,rfl,zh (by rw [HTA.out,HTB.out,eqXs_snoc _ _ _ _ (by rw [List.length_take,List.length_take,HLE.out]),HI.out,HD.out];rfl),HG4⟩
     ·obtain rfl:j=rx.length:=by omega
      rw [List.take_length,HLE.out,List.take_length] at HI
      go_wp2
      go_ret
      exact⟨ret_bool (HI.out.symm.trans HOK.out),HG.out⟩
section
variable {dst:Option Tmp}{ty:TypeId}{pos:String}{after:Array Edge}{g:Option (Nat × Bool)}{a:Act}{w:World}{T:Value→World→Prop}
end
theorem strip_own {wr w2:World}{S:Nat}{p1:Option Addr}{n1 c1:Nat}{l:List Xp}{o:Obj}{o2:Obj}(h:OwN XsAt 6 xdc (S+2) (Aside (S+2) wr.heap.size p1) wr 35 p1 n1 c1 l) (g:Grew (wr.alloc o) w2):OwN XsAt 6 xdc (S+2) (Aside (S+2) w2.heap.size p1) (w2.alloc o2) 35 p1 n1 c1 l:=by
 have h1:=(((Grew.refl wr).alloc o).trans g)
 exact(h.kept hangsX (h1.alloc o2)).mono hangsX fun b hb=>⟨hb.1,Nat.lt_of_lt_of_le hb.2.1 h1.sz,hb.2.2⟩
theorem strip_at {wr w2:World}{S:Nat}{p1 p2:Option Addr}{n1 c1 c2:Nat}{l ra:List Xp}{o:Obj}{k v oo q:Int}{s:ByteArray}(h:OwN XsAt 6 xdc (S+2) (Aside (S+2) wr.heap.size p1) wr 35 p1 n1 c1 l) (hS:S+2≤wr.heap.size) (hx:XL (Fresh (wr.alloc o).heap.size w2.heap.size) w2 p2 c2 (stXs ra)) (hz:s.size≤1048576∧v≤32767):XsAt (Aside (S+2) w2.heap.size p1) w2 [stX ⟨k,s,v,oo,ra,q⟩] [⟨k,s,v,oo,p2,ra.length,c2,0⟩]:=by
 have h1:=xat1 (k:=k) (v:=v) (o:=oo) (q:=0) (s:=s) (ar:=stXs ra) hz (hx.mono (B':=Aside (S+2) w2.heap.size p1) fun b hb=>⟨by have:=hb.1;rw [alloc_sz] at this;omega,hb.2,h.offTop hangsX (by have:=hb.1;rw [alloc_sz] at this;omega)⟩)
 rw [stXs_len] at h1
 rw [stX]
 exact h1
theorem strip_done {w wr:World}{S:Nat}{p1:Option Addr}{n1 c1:Nat}{l:List Xp}(h:OwN XsAt 6 xdc (S+2) (Aside (S+2) wr.heap.size p1) wr 35 p1 n1 c1 l) (hS:w.heap.size=S) (hg:Grew w wr):∀w',Chg wr w' (fun k=>k=S∨k=S+1)→XL (Fresh w.heap.size w'.heap.size) w' p1 c1 l∧Grew w w':=by
 intro w' hc
 have h2:=h.chg hangsX hc (fun a ha e=>by have:=(h.place hangsX a ha).1;omega) (fun b hb e=>by have:=hb.1;omega)
 have hsz:=hc.size
 refine⟨⟨fun _ a ha=>?_,?_⟩,grew_lift hg hc fun k hk=>by omega⟩
 ·have:=h.place hangsX a ha
  exact⟨by omega,by omega⟩
 ·obtain ⟨_,L,h3,h4⟩:=h2.mono hangsX (B':=Fresh w.heap.size w'.heap.size) fun b hb=>⟨by have:=hb.1;omega,Nat.lt_of_lt_of_le hb.2.1 hsz⟩
  exact⟨L,(h3.rd encXd).2,h4⟩
set_option maxHeartbeats 16000000 in
theorem strip_any:∀(x:Xp) (B:Nat→Prop) (w:World) (p:Option Addr) (c:Nat),(x.s.size≤1048576∧x.v≤32767)→XL B w p c x.ar→nX x≤1048576 →
 Calls Tryz.prog 132 #[xv x.k x.s x.v x.o p x.ar.length c x.q] w fun e w'=>∃p' c',e=.returned (xv x.k x.s x.v x.o p' x.ar.length c' 0)∧XL (Fresh w.heap.size w'.heap.size) w' p' c' (stXs x.ar)∧Grew w w':=by
 intro x
 induction x using Xp.ind with
 | h k s v o ar q ih =>
 intro B w p c hz hx hn
 have HX:Hid (XL B w p c ar):=zh hx
 have hcap:ar.length≤c:=hx.cap.1
 have hmax:=hx.cap.2.1
 show Calls Tryz.prog 132 #[xv k s v o p ar.length c q] w fun e w'=>∃p' c',e=.returned (xv k s v o p' ar.length c' 0)∧XL (Fresh w.heap.size w'.heap.size) w' p' c' (stXs ar)∧Grew w w'
 rw [nX] at hn
 have hnl:=nXs_len ar
 clear hx hz
 go_enter Tryz.func132,Tryz.ntmps132
 go_wp2
 have hb1:Blk w.heap.size [.int .i64 k,.string s,.int .i16 v,.int .i64 o,.slice p ar.length c,.int .i64 0] 35 ((w.alloc (Obj.cells #[.int .i64 k,.string s,.int .i16 v,.int .i64 o,.slice p ar.length c,.int .i64 0] 35)).alloc (Obj.cells #[.int .i64 0,.string ⟨#[]⟩,.int .i16 0,.int .i64 0,.slice none 0 0,.int .i64 0] 35)):=(Blk.new w _ _).grew ((Grew.refl _).alloc _)
 have hb2:Blk (w.heap.size+1) [.int .i64 0,.string ⟨#[]⟩,.int .i16 0,.int .i64 0,.slice none 0 0,.int .i64 0] 35 ((w.alloc (Obj.cells #[.int .i64 k,.string s,.int .i16 v,.int .i64 o,.slice p ar.length c,.int .i64 0] 35)).alloc (Obj.cells #[.int .i64 0,.string ⟨#[]⟩,.int .i16 0,.int .i64 0,.slice none 0 0,.int .i64 0] 35)):=by
  have h:=Blk.new (w.alloc (Obj.cells #[.int .i64 k,.string s,.int .i16 v,.int .i64 o,.slice p ar.length c,.int .i64 0] 35)) [.int .i64 0,.string ⟨#[]⟩,.int .i16 0,.int .i64 0,.slice none 0 0,.int .i64 0] 35
  rw [alloc_sz] at h
  exact h
 have hg1:Grew w ((w.alloc (Obj.cells #[.int .i64 k,.string s,.int .i16 v,.int .i64 o,.slice p ar.length c,.int .i64 0] 35)).alloc (Obj.cells #[.int .i64 0,.string ⟨#[]⟩,.int .i16 0,.int .i64 0,.slice none 0 0,.int .i64 0] 35)):=((Grew.refl w).alloc _).alloc _
 have hs1:((w.alloc (Obj.cells #[.int .i64 k,.string s,.int .i16 v,.int .i64 o,.slice p ar.length c,.int .i64 0] 35)).alloc (Obj.cells #[.int .i64 0,.string ⟨#[]⟩,.int .i16 0,.int .i64 0,.slice none 0 0,.int .i64 0] 35)).heap.size=w.heap.size+2:=by rw [alloc_sz,alloc_sz]
 obtain ⟨S,hS⟩:∃S,w.heap.size=S:=⟨_,rfl⟩
 have HS0:=zh hS
 rw [hS] at hb1 hb2 hs1 ⊢
 clear hS
 generalize ((w.alloc (Obj.cells #[.int .i64 k,.string s,.int .i16 v,.int .i64 o,.slice p ar.length c,.int .i64 0] 35)).alloc (Obj.cells #[.int .i64 0,.string ⟨#[]⟩,.int .i16 0,.int .i64 0,.slice none 0 0,.int .i64 0] 35))=w1 at hb1 hb2 hg1 hs1 ⊢
 have HB1:=zh hb1
 have HB2:=zh hb2
 have HG1:=zh hg1
 have HW1:=zh hs1
 clear hb1 hb2 hg1 hs1
 go_loopg [3,5,10] ar.length (fun gg lv bv iv wr=>∃(j:Nat) (p1:Option Addr) (n1 c1:Nat),lv=.slice p1 n1 c1∧iv=.int .i64 (j:Int)∧j≤ar.length∧gg=ar.length - j∧Hid (OwN XsAt 6 xdc (S+2) (Aside (S+2) wr.heap.size p1) wr 35 p1 n1 c1 (stXs (ar.take j)))∧Hid (Grew w1 wr))
 case atStart=>exact⟨0,none,0,0,rfl,rfl,Nat.zero_le _,rfl,zh (by rw [List.take_zero,stXs];exact OwN.nil hangsX),zh (Grew.refl _)⟩
 case round =>
  obtain ⟨j,p1,n1,c1,rfl,rfl,hj,rfl,HR,HGr⟩:=hrel
  have HG:=zh (HG1.out.trans HGr.out)
  by_cases hlt:j < ar.length
  ·have HN1:Hid (n1≤1048576):=zh (by have h1:=HR.out.len;rw [stXs_len,List.length_take] at h1;omega)
   obtain ⟨ba,oa,pa,ca,rfl,hba,haa,hca⟩:=HX.out.get j hlt
   have hma:=List.getElem_mem hlt
   have hna:=nXs_mem hma
   have hta:=List.take_succ_eq_append_getElem hlt
   have HLa:=zh (Nat.succ_le_of_lt hlt)
   have hih:=ih _ hma B
   generalize ar[j]=xa at *
   obtain ⟨ka,sa,va,o_a,ra,qa⟩:=xa
   replace hba:sa.size≤1048576∧va≤32767:=hba.2
   have HTa:=zh hta
   have HAa:Hid (XL B w pa ca ra):=zh haa
   have hcapa:ra.length≤ca:=haa.cap.1
   have hmaxa:=haa.cap.2.1
   replace hca:∀i_ u_,(xdc ⟨ka,sa,va,o_a,pa,ra.length,ca,qa⟩)[i_]?=some u_→wr.cell? ⟨ba,oa+j * 6+i_,none⟩=some u_:=fun i_ u_ h_=>Atv.kept (hca i_ u_ h_) HG.out
   have ca0:wr.cell? ⟨ba,oa+j * 6,none⟩=some (.int .i64 ka):=by simpa using hca 0 _ rfl
   have ca1:wr.cell? ⟨ba,oa+j * 6+1,none⟩=some (.string sa):=hca 1 _ rfl
   have ca2:wr.cell? ⟨ba,oa+j * 6+2,none⟩=some (.int .i16 va):=hca 2 _ rfl
   have ca3:wr.cell? ⟨ba,oa+j * 6+3,none⟩=some (.int .i64 o_a):=hca 3 _ rfl
   have ca4:wr.cell? ⟨ba,oa+j * 6+4,none⟩=some (.slice pa ra.length ca):=hca 4 _ rfl
   have ca5:wr.cell? ⟨ba,oa+j * 6+5,none⟩=some (.int .i64 qa):=hca 5 _ rfl
   clear hca haa hta
   have HIH:=zh (fun W (hW:Grew w W)=>(show Calls Tryz.prog 132 #[xv ka sa va o_a pa ra.length ca qa] W fun e w'=>∃p' c',e=.returned (xv ka sa va o_a p' ra.length c' 0)∧XL (Fresh W.heap.size w'.heap.size) w' p' c' (stXs ra)∧Grew W w' from hih W pa ca hba (HAa.out.kept hW) (by omega)))
   clear hih hma hna
   go_wp2_with (first
    | (go_at_call 132;(with_reducible refine(HIH.out _ (HG.out.alloc _)).mono ?_);rintro e_ w2 ⟨p2,c2,rfl,hx2,g2⟩;have HX2:=zh hx2;have HQ2:=zh g2;clear hx2 g2)
    | (at_builtin;refine wpList_append_own hangsX rfl _ _ 33 rfl (S+2) 35 zX 72 Tryz.underlying33 infoX rfl p1 n1 c1 (stXs (ar.take j)) rfl (B:=Aside (S+2) w2.heap.size p1) (strip_own HR.out HQ2.out) _ 1 1 [stX ⟨ka,sa,va,o_a,ra,qa⟩] rfl (InN.made hangsX _ _ _ _ _ _ _ (strip_at HR.out (by have h2:=HGr.out.sz;have h3:=HW1.out;omega) HX2.out hba) rfl rfl) (fun b hb=>hb.2.2) (by have:=HN1.out;omega) (by have:=HN1.out;omega) (by have h1:=HQ2.out.sz;have h2:=HGr.out.sz;have h3:=HW1.out;rw [alloc_sz] at h1 ⊢;omega) ?_;intro p3 c3 w3 ho3 hp3;have HO3:=zh ho3;have HP3:=zh hp3;clear ho3 hp3))
   have HG3:Hid (Grew w1 w3):=zh (Below.trans (((HGr.out.alloc _).trans HQ2.out).alloc _) (HW1.out ▸ HP3.out.below))
   go_roundg (ar.length - (j+1))
   case measure=>have:=HLa.out;omega
   case rel=>exact⟨j+1,p3,n1+1,c3,rfl,by go_num,HLa.out,rfl,zh (by
    rw [stXs_snoc HTa.out]
    refine HO3.out.mono hangsX fun b hb=>?_
    have h1:b < (w2.alloc (Obj.cells #[.int .i64 ka,.string sa,.int .i16 va,.int .i64 o_a,.slice p2 ra.length c2,.int .i64 0] 35)).heap.size:=by rw [alloc_sz];have:=hb.2.1;omega
    exact⟨hb.1,Nat.lt_of_lt_of_le h1 HP3.out.below.size,HP3.out.off h1 hb.2.2⟩),HG3⟩
  ·obtain rfl:j=ar.length:=by omega
   rw [List.take_length] at HR
   have hn1:n1=ar.length:=by have h1:=HR.out.len;rwa [stXs_len] at h1
   subst hn1
   have hbx:=HB1.out.grew HGr.out
   have hby:=HB2.out.grew HGr.out
   have r0:=hbx.cell 0
   have t0:=hby.cell 0
   have rf0:=hbx.free 0
   have tf0:=hby.free 0
   have r1:=hbx.cell 1
   have t1:=hby.cell 1
   have rf1:=hbx.free 1
   have tf1:=hby.free 1
   have r2:=hbx.cell 2
   have t2:=hby.cell 2
   have rf2:=hbx.free 2
   have tf2:=hby.free 2
   have r3:=hbx.cell 3
   have t3:=hby.cell 3
   have rf3:=hbx.free 3
   have tf3:=hby.free 3
   have r4:=hbx.cell 4
   have t4:=hby.cell 4
   have rf4:=hbx.free 4
   have tf4:=hby.free 4
   have r5:=hbx.cell 5
   have t5:=hby.cell 5
   have rf5:=hbx.free 5
   have tf5:=hby.free 5
   simp only [zz7,zz8] at r0 r1 r2 r3 r4 r5 t0 t1 t2 t3 t4 t5
   have HRR:=zh (strip_done (w:=w) HR.out HS0.out HG.out)
   have hsz1:=HR.out.inN hangsX
   have hcp:=hsz1.cap hangsX
   clear hsz1 HR hbx hby
   go_wp2
   refine rn_ret_c35 Tryz.results132 (S0:=S+1) (v0_0:=.int .i64 k) (v0_1:=.string s) (v0_2:=.int .i16 v) (v0_3:=.int .i64 o) (v0_4:=.slice p1 ar.length c1) (v0_5:=.int .i64 0) rfl (by go_simp) (by go_simp) (by go_simp) (by go_simp) (by go_simp) (by go_simp) ?_
   have g0:=Chg.refl wr (fun k=>k=S∨k=S+1)
   have g1:=g0.then_set ⟨S,4,none⟩ (.slice p1 ar.length c1) (.inl rfl)
   have g2:=g1.then_set ⟨S+1,0,none⟩ (.int .i64 k) (.inr rfl)
   have g3:=g2.then_set ⟨S+1,1,none⟩ (.string s) (.inr rfl)
   have g4:=g3.then_set ⟨S+1,2,none⟩ (.int .i16 v) (.inr rfl)
   have g5:=g4.then_set ⟨S+1,3,none⟩ (.int .i64 o) (.inr rfl)
   have g6:=g5.then_set ⟨S+1,4,none⟩ (.slice p1 ar.length c1) (.inr rfl)
   have g7:=g6.then_set ⟨S+1,5,none⟩ (.int .i64 0) (.inr rfl)
   obtain ⟨h5,h6⟩:=HRR.out _ g7
   exact⟨p1,c1,rfl,h5,h6⟩
def ORow {α:Type}(k:Nat) (enc:α→List Value) (e:TypeId) (w:World) (a b g:Nat) (p:Option Addr) (c:Nat) (L:List α):Prop:=Rw k enc w p c L∧(0 < L.length→a≤g∧g < b∧p=some ⟨g,0,none⟩∧OwR w a e k enc (.slice p L.length c) L)
section
variable {α:Type}{k:Nat}{enc:α→List Value}{e:TypeId}{w w':World}{a b g:Nat}{p:Option Addr}{c:Nat}{L:List α}
theorem ORow.chg {S:Nat→Prop}(h:ORow k enc e w a b g p c L) (hc:Chg w w' S) (hS:∀j,a≤j→j < b→¬ S j):ORow k enc e w' a b g p c L:=by
 obtain ⟨h1,h2⟩:=h
 by_cases hn:0 < L.length
 ·obtain ⟨h3,h4,rfl,h5⟩:=h2 hn
  exact⟨h1.chg hc (fun q hq=>by obtain rfl:=Option.some.inj hq;exact hS g h3 h4),fun _=>⟨h3,h4,rfl,h5.chg hc (fun q hq=>by obtain rfl:=Option.some.inj hq;exact hS g h3 h4)⟩⟩
 ·obtain rfl:=List.eq_nil_of_length_eq_zero (by omega:L.length=0)
  exact⟨⟨RdL.nil _ _ _ _ _ h1.max,h1.bare⟩,fun h=>absurd h hn⟩
theorem ORow.wide {b':Nat}(h:ORow k enc e w a b g p c L) (hb:b≤b'):ORow k enc e w a b' g p c L:=⟨h.1,fun hn=>by obtain ⟨h3,h4,h5⟩:=h.2 hn;exact⟨h3,by omega,h5⟩⟩
end
mutual
def OXp (w:World):Xp→Nat→Nat→Xd→Prop
 | ⟨k,s,v,o,ar,q⟩,a,b,d=>∃p c g L,d=⟨k,s,v,o,p,ar.length,c,q⟩∧(s.size≤1048576∧v≤32767)∧L.length=ar.length∧ORow 6 xdc 35 w a b g p c L∧OXs w ar (g+1) b L
def OXs (w:World):List Xp→Nat→Nat→List Xd→Prop
 | [],_,_,L=>L=[]
 | x :: xs,a,b,L=>∃d L' m,L=d :: L'∧a≤m∧m≤b∧OXp w x a m d∧OXs w xs m b L'
end
def OX (w:World) (a b:Nat) (p:Option Addr) (c:Nat) (l:List Xp):Prop:=∃g L,L.length=l.length∧ORow 6 xdc 35 w a b g p c L∧OXs w l (g+1) b L
theorem OXp_iff {w:World}{x:Xp}{a b:Nat}{d:Xd}:OXp w x a b d↔∃p c,d=x.nd p c∧(x.s.size≤1048576∧x.v≤32767)∧OX w a b p c x.ar:=by
 cases x with
 | mk k s v o ar q =>
   rw [OXp]
   constructor
   ·rintro ⟨p,c,g,L,h1,h2,h3,h4,h5⟩
    exact⟨p,c,h1,h2,g,L,h3,h4,h5⟩
   ·rintro ⟨p,c,h1,h2,g,L,h3,h4,h5⟩
    exact⟨p,c,g,L,h1,h2,h3,h4,h5⟩
mutual
theorem OXp_wide {w:World}:∀{x:Xp}{a b b':Nat}{d:Xd},OXp w x a b d→b≤b'→OXp w x a b' d
 | ⟨k,s,v,o,ar,q⟩,a,b,b',d,h,hb=>by
   rw [OXp] at h ⊢
   obtain ⟨p,c,g,L,h1,h2,h3,h4,h5⟩:=h
   exact⟨p,c,g,L,h1,h2,h3,h4.wide hb,OXs_wide h5 hb⟩
theorem OXs_wide {w:World}:∀{xs:List Xp}{a b b':Nat}{L:List Xd},OXs w xs a b L→b≤b'→OXs w xs a b' L
 | [],_,_,_,_,h,_=>by rw [OXs] at h ⊢;exact h
 | x :: xs,a,b,b',_,h,hb=>by
   rw [OXs] at h ⊢
   obtain ⟨d,L',m,h1,h2,h3,h4,h5⟩:=h
   exact⟨d,L',m,h1,h2,by omega,h4,OXs_wide h5 hb⟩
end
mutual
theorem OXp_chg {w w':World}{S:Nat→Prop}(hc:Chg w w' S):∀{x:Xp}{a b:Nat}{d:Xd},OXp w x a b d→(∀j,a≤j→j < b→¬ S j)→OXp w' x a b d
 | ⟨k,s,v,o,ar,q⟩,a,b,d,h,hS=>by
   rw [OXp] at h ⊢
   obtain ⟨p,c,g,L,h1,h2,h3,h4,h5⟩:=h
   by_cases hn:0 < L.length
   ·have hg:=h4.2 hn
    exact⟨p,c,g,L,h1,h2,h3,h4.chg hc hS,OXs_chg hc h5 (fun j h6 h7=>hS j (by omega) h7)⟩
   ·have h0:L=[]:=List.eq_nil_of_length_eq_zero (by omega)
    subst h0
    obtain rfl:ar=[]:=List.eq_nil_of_length_eq_zero (by simpa using h3.symm)
    exact⟨p,c,g,[],h1,h2,h3,h4.chg hc hS,by rw [OXs]⟩
theorem OXs_chg {w w':World}{S:Nat→Prop}(hc:Chg w w' S):∀{xs:List Xp}{a b:Nat}{L:List Xd},OXs w xs a b L→(∀j,a≤j→j < b→¬ S j)→OXs w' xs a b L
 | [],_,_,_,h,_=>by rw [OXs] at h ⊢;exact h
 | x :: xs,a,b,_,h,hS=>by
   rw [OXs] at h ⊢
   obtain ⟨d,L',m,h1,h2,h3,h4,h5⟩:=h
   exact⟨d,L',m,h1,h2,h3,OXp_chg hc h4 (fun j h6 h7=>hS j h6 (by omega)),OXs_chg hc h5 (fun j h6 h7=>hS j (by omega) h7)⟩
end
theorem OXs_snoc {w:World}{x:Xp}{d:Xd}{m b:Nat}:∀{xs:List Xp}{a:Nat}{L:List Xd},OXs w xs a m L→a≤m→m≤b→OXp w x m b d→OXs w (xs++[x]) a b (L++[d])
 | [],a,_,h,ha,hm,hx=>by
   rw [OXs] at h
   subst h
   rw [List.nil_append,List.nil_append,OXs]
   refine⟨d,[],b,rfl,by omega,Nat.le_refl _,?_,by rw [OXs]⟩
   rw [OXp_iff] at hx ⊢
   obtain ⟨p,c,h1,h2,g,L,h3,h4,h5⟩:=hx
   refine⟨p,c,h1,h2,g,L,h3,⟨h4.1,fun hn=>?_⟩,h5⟩
   obtain ⟨h6,h7,h8,h9⟩:=h4.2 hn
   exact⟨by omega,h7,h8,h9.down ha⟩
 | y :: ys,a,_,h,ha,hm,hx=>by
   rw [OXs] at h
   obtain ⟨d',L',m',rfl,h2,h3,h4,h5⟩:=h
   rw [List.cons_append,List.cons_append,OXs]
   exact⟨d',L'++[d],m',rfl,h2,by omega,h4,OXs_snoc h5 h3 hm hx⟩
mutual
theorem OXp_at {w:World}{B:Nat→Prop}:∀{x:Xp}{a b:Nat}{d:Xd},OXp w x a b d→(∀j,a≤j→j < b→B j)→XAt B w x d
 | ⟨k,s,v,o,ar,q⟩,a,b,d,h,hB=>by
   rw [OXp] at h
   rw [XAt]
   obtain ⟨p,c,g,L,h1,h2,h3,h4,h5⟩:=h
   refine⟨p,c,h1,h2,fun hn ad had=>?_,L,h4.1,?_⟩
   ·obtain ⟨h6,h7,rfl,_⟩:=h4.2 (by omega)
    obtain rfl:=Option.some.inj had
    exact hB g h6 h7
   ·by_cases hn:0 < L.length
    ·have hg:=h4.2 hn
     exact OXs_at h5 (fun j h6 h7=>hB j (by omega) h7)
    ·obtain rfl:ar=[]:=List.eq_nil_of_length_eq_zero (by omega)
     have h0:L=[]:=List.eq_nil_of_length_eq_zero (by omega)
     rw [XsAt,h0]
theorem OXs_at {w:World}{B:Nat→Prop}:∀{xs:List Xp}{a b:Nat}{L:List Xd},OXs w xs a b L→(∀j,a≤j→j < b→B j)→XsAt B w xs L
 | [],_,_,_,h,_=>by rw [OXs] at h;rw [XsAt];exact h
 | x :: xs,a,b,_,h,hB=>by
   rw [OXs] at h
   rw [XsAt]
   obtain ⟨d,L',m,h1,h2,h3,h4,h5⟩:=h
   exact⟨d,L',h1,OXp_at h4 (fun j h6 h7=>hB j h6 (by omega)),OXs_at h5 (fun j h6 h7=>hB j (by omega) h7)⟩
end
theorem OX.chg {w w':World}{a b:Nat}{p:Option Addr}{c:Nat}{l:List Xp}{S:Nat→Prop}(h:OX w a b p c l) (hc:Chg w w' S) (hS:∀j,a≤j→j < b→¬ S j):OX w' a b p c l:=by
 obtain ⟨g,L,h3,h4,h5⟩:=h
 by_cases hn:0 < L.length
 ·have hg:=h4.2 hn
  exact⟨g,L,h3,h4.chg hc hS,OXs_chg hc h5 (fun j h6 h7=>hS j (by omega) h7)⟩
 ·have h0:L=[]:=List.eq_nil_of_length_eq_zero (by omega)
  subst h0
  obtain rfl:l=[]:=List.eq_nil_of_length_eq_zero (by simpa using h3.symm)
  exact⟨g,[],h3,h4.chg hc hS,by rw [OXs]⟩
theorem OX.kept {w w':World}{a b:Nat}{p:Option Addr}{c:Nat}{l:List Xp}(h:OX w a b p c l) (hg:Grew w w'):OX w' a b p c l:=h.chg (Chg.of_grew hg (fun _=>False)) (fun _ _ _ h=>h)
theorem OX.xl {w:World}{a b:Nat}{p:Option Addr}{c:Nat}{l:List Xp}(h:OX w a b p c l):XL (Fresh a b) w p c l:=by
 obtain ⟨g,L,h3,h4,h5⟩:=h
 refine⟨fun hn ad had=>?_,L,h4.1,?_⟩
 ·obtain ⟨h6,h7,rfl,_⟩:=h4.2 (by omega)
  obtain rfl:=Option.some.inj had
  exact⟨h6,h7⟩
 ·by_cases hn:0 < L.length
  ·have hg:=h4.2 hn
   exact OXs_at h5 (fun j h6 h7=>⟨by omega,h7⟩)
  ·obtain rfl:l=[]:=List.eq_nil_of_length_eq_zero (by omega)
   have h0:L=[]:=List.eq_nil_of_length_eq_zero (by omega)
   rw [XsAt,h0]
mutual
def stS:Sm→Sm
 | ⟨k,s,n,ar,b,e,_⟩=>⟨k,s,n,stXs ar,stSs b,stSs e,0⟩
def stSs:List Sm→List Sm
 | []=>[]
 | x :: xs=>stS x :: stSs xs
end
theorem stSs_append:∀a b:List Sm,stSs (a++b)=stSs a++stSs b
 | [],b=>by rw [List.nil_append,stSs,List.nil_append]
 | x :: a,b=>by rw [List.cons_append,stSs,stSs,stSs_append a b,List.cons_append]
theorem stSs_snoc {l:List Sm}{j:Nat}{x:Sm}(h:l.take (j+1)=l.take j++[x]):stSs (l.take (j+1))=stSs (l.take j)++[stS x]:=by
 rw [h,stSs_append,stSs,stSs]
theorem stSs_len:∀l:List Sm,(stSs l).length=l.length
 | []=>by rw [stSs]
 | x :: l=>by rw [stSs,List.length_cons,List.length_cons,stSs_len l]
theorem stS_eq (k n q:Int) (s:ByteArray) (ar:List Xp) (b e:List Sm):stS ⟨k,s,n,ar,b,e,q⟩=⟨k,s,n,stXs ar,stSs b,stSs e,0⟩:=by rw [stS]
mutual
theorem nX_st:∀x:Xp,nX (stX x)=nX x
 | ⟨k,s,v,o,ar,q⟩=>by rw [stX,nX,nX,nXs_st ar]
theorem nXs_st:∀l:List Xp,nXs (stXs l)=nXs l
 | []=>by rw [stXs]
 | x :: l=>by rw [stXs,nXs,nXs,nX_st x,nXs_st l]
end
mutual
theorem stX_st:∀x:Xp,stX (stX x)=stX x
 | ⟨k,s,v,o,ar,q⟩=>by rw [stX,stX,stXs_st ar]
theorem stXs_st:∀l:List Xp,stXs (stXs l)=stXs l
 | []=>by rw [stXs,stXs]
 | x :: l=>by rw [stXs,stXs,stX_st x,stXs_st l]
end
mutual
theorem stS_st:∀x:Sm,stS (stS x)=stS x
 | ⟨k,s,n,ar,b,e,q⟩=>by rw [stS,stS,stXs_st ar,stSs_st b,stSs_st e]
theorem stSs_st:∀l:List Sm,stSs (stSs l)=stSs l
 | []=>by rw [stSs,stSs]
 | x :: l=>by rw [stSs,stSs,stS_st x,stSs_st l]
end
mutual
def OSp (w:World):Sm→Nat→Nat→Sd→Prop
 | ⟨k,s,n,ar,y,e,q⟩,a,b,d=>∃ap ac yp yc ep ec m1 m2,d=⟨k,s,n,ap,ar.length,ac,yp,y.length,yc,ep,e.length,ec,q⟩∧s.size≤1048576∧a≤m1∧m1≤m2∧m2≤b∧OX w a m1 ap ac ar∧(∃g L,L.length=y.length∧ORow 7 sdc 49 w m1 m2 g yp yc L∧OSs w y (g+1) m2 L)∧(∃g L,L.length=e.length∧ORow 7 sdc 49 w m2 b g ep ec L∧OSs w e (g+1) b L)
def OSs (w:World):List Sm→Nat→Nat→List Sd→Prop
 | [],_,_,L=>L=[]
 | x :: xs,a,b,L=>∃d L' m,L=d :: L'∧a≤m∧m≤b∧OSp w x a m d∧OSs w xs m b L'
end
def OS (w:World) (a b:Nat) (p:Option Addr) (c:Nat) (l:List Sm):Prop:=∃g L,L.length=l.length∧ORow 7 sdc 49 w a b g p c L∧OSs w l (g+1) b L
theorem OSp_iff {w:World}{x:Sm}{a b:Nat}{d:Sd}:OSp w x a b d↔∃ap ac yp yc ep ec m1 m2,d=x.nd ap ac yp yc ep ec∧x.s.size≤1048576∧a≤m1∧m1≤m2∧m2≤b∧OX w a m1 ap ac x.ar∧OS w m1 m2 yp yc x.b∧OS w m2 b ep ec x.e:=by
 cases x with
 | mk k s n ar y e q=>rw [OSp];rfl
theorem ORow.nilS {w w':World}{a b g:Nat}{p:Option Addr}{c:Nat}{L:List Sd}{S:Nat→Prop}(hn:¬ 0 < L.length) (h:ORow 7 sdc 49 w a b g p c L):ORow 7 sdc 49 w' a b g p c L:=by
 obtain rfl:=List.eq_nil_of_length_eq_zero (by omega:L.length=0)
 exact⟨⟨RdL.nil _ _ _ _ _ h.1.max,h.1.bare⟩,fun h=>absurd h hn⟩
mutual
theorem OSp_chg {w w':World}{S:Nat→Prop}(hc:Chg w w' S):∀{x:Sm}{a b:Nat}{d:Sd},OSp w x a b d→(∀j,a≤j→j < b→¬ S j)→OSp w' x a b d
 | ⟨k,s,n,ar,y,e,q⟩,a,b,d,h,hS=>by
   rw [OSp] at h ⊢
   obtain ⟨ap,ac,yp,yc,ep,ec,m1,m2,h1,h2,h3,h4,h5,h6,⟨g1,L1,l1,r1,t1⟩,g2,L2,l2,r2,t2⟩:=h
   refine⟨ap,ac,yp,yc,ep,ec,m1,m2,h1,h2,h3,h4,h5,h6.chg hc (fun j a1 a2=>hS j a1 (by omega)),⟨g1,L1,l1,?_⟩,g2,L2,l2,?_⟩
   ·by_cases hn:0 < L1.length
    ·have hg:=r1.2 hn
     exact⟨r1.chg hc (fun j a1 a2=>hS j (by omega) (by omega)),OSs_chg hc t1 (fun j a1 a2=>hS j (by omega) (by omega))⟩
    ·obtain rfl:y=[]:=List.eq_nil_of_length_eq_zero (by omega)
     have h0:L1=[]:=List.eq_nil_of_length_eq_zero (by omega)
     exact⟨r1.nilS (S:=S) hn,by rw [OSs,h0]⟩
   ·by_cases hn:0 < L2.length
    ·have hg:=r2.2 hn
     exact⟨r2.chg hc (fun j a1 a2=>hS j (by omega) (by omega)),OSs_chg hc t2 (fun j a1 a2=>hS j (by omega) (by omega))⟩
    ·obtain rfl:e=[]:=List.eq_nil_of_length_eq_zero (by omega)
     have h0:L2=[]:=List.eq_nil_of_length_eq_zero (by omega)
     exact⟨r2.nilS (S:=S) hn,by rw [OSs,h0]⟩
theorem OSs_chg {w w':World}{S:Nat→Prop}(hc:Chg w w' S):∀{xs:List Sm}{a b:Nat}{L:List Sd},OSs w xs a b L→(∀j,a≤j→j < b→¬ S j)→OSs w' xs a b L
 | [],_,_,_,h,_=>by rw [OSs] at h ⊢;exact h
 | x :: xs,a,b,_,h,hS=>by
   rw [OSs] at h ⊢
   obtain ⟨d,L',m,h1,h2,h3,h4,h5⟩:=h
   exact⟨d,L',m,h1,h2,h3,OSp_chg hc h4 (fun j h6 h7=>hS j h6 (by omega)),OSs_chg hc h5 (fun j h6 h7=>hS j (by omega) h7)⟩
end
theorem OX.down {w:World}{a a' b:Nat}{p:Option Addr}{c:Nat}{l:List Xp}(h:OX w a b p c l) (ha:a'≤a):OX w a' b p c l:=by
 obtain ⟨g,L,h3,h4,h5⟩:=h
 exact⟨g,L,h3,⟨h4.1,fun hn=>by obtain ⟨h6,h7,h8,h9⟩:=h4.2 hn;exact⟨by omega,h7,h8,h9.down ha⟩⟩,h5⟩
theorem OSs_snoc {w:World}{x:Sm}{d:Sd}{m b:Nat}:∀{xs:List Sm}{a:Nat}{L:List Sd},OSs w xs a m L→a≤m→m≤b→OSp w x m b d→OSs w (xs++[x]) a b (L++[d])
 | [],a,_,h,ha,hm,hx=>by
   rw [OSs] at h
   subst h
   rw [List.nil_append,List.nil_append,OSs]
   refine⟨d,[],b,rfl,by omega,Nat.le_refl _,?_,by rw [OSs]⟩
   rw [OSp_iff] at hx ⊢
   obtain ⟨ap,ac,yp,yc,ep,ec,m1,m2,h1,h2,h3,h4,h5,h6,h7,h8⟩:=hx
   exact⟨ap,ac,yp,yc,ep,ec,m1,m2,h1,h2,by omega,h4,h5,h6.down ha,h7,h8⟩
 | y :: ys,a,_,h,ha,hm,hx=>by
   rw [OSs] at h
   obtain ⟨d',L',m',rfl,h2,h3,h4,h5⟩:=h
   rw [List.cons_append,List.cons_append,OSs]
   exact⟨d',L'++[d],m',rfl,h2,by omega,h4,OSs_snoc h5 h3 hm hx⟩
mutual
theorem OSp_at {w:World}{B:Nat→Prop}:∀{x:Sm}{a b:Nat}{d:Sd},OSp w x a b d→(∀j,a≤j→j < b→B j)→SAt B w x d
 | ⟨k,s,n,ar,y,e,q⟩,a,b,d,h,hB=>by
   rw [OSp] at h
   obtain ⟨ap,ac,yp,yc,ep,ec,m1,m2,h1,h2,h3,h4,h5,h6,⟨g1,L1,l1,r1,t1⟩,g2,L2,l2,r2,t2⟩:=h
   rw [SAt_iff]
   refine⟨ap,ac,yp,yc,ep,ec,h1,h2,h6.xl.mono (fun j hj=>hB j hj.1 (by have:=hj.2;omega)),⟨fun hn ad had=>?_,L1,r1.1,?_⟩,fun hn ad had=>?_,L2,r2.1,?_⟩
   ·obtain ⟨a1,a2,rfl,_⟩:=r1.2 (by rw [l1];exact hn)
    obtain rfl:=Option.some.inj had
    exact hB g1 (by omega) (by omega)
   ·by_cases hn:0 < L1.length
    ·have hg:=r1.2 hn
     exact OSs_at t1 (fun j a1 a2=>hB j (by omega) (by omega))
    ·have h9:y=[]:=List.eq_nil_of_length_eq_zero (by omega)
     have h0:L1=[]:=List.eq_nil_of_length_eq_zero (by omega)
     show SsAt B w y L1
     rw [h9,SsAt,h0]
   ·obtain ⟨a1,a2,rfl,_⟩:=r2.2 (by rw [l2];exact hn)
    obtain rfl:=Option.some.inj had
    exact hB g2 (by omega) (by omega)
   ·by_cases hn:0 < L2.length
    ·have hg:=r2.2 hn
     exact OSs_at t2 (fun j a1 a2=>hB j (by omega) (by omega))
    ·have h9:e=[]:=List.eq_nil_of_length_eq_zero (by omega)
     have h0:L2=[]:=List.eq_nil_of_length_eq_zero (by omega)
     show SsAt B w e L2
     rw [h9,SsAt,h0]
theorem OSs_at {w:World}{B:Nat→Prop}:∀{xs:List Sm}{a b:Nat}{L:List Sd},OSs w xs a b L→(∀j,a≤j→j < b→B j)→SsAt B w xs L
 | [],_,_,_,h,_=>by rw [OSs] at h;rw [SsAt];exact h
 | x :: xs,a,b,_,h,hB=>by
   rw [OSs] at h
   rw [SsAt]
   obtain ⟨d,L',m,h1,h2,h3,h4,h5⟩:=h
   exact⟨d,L',h1,OSp_at h4 (fun j h6 h7=>hB j h6 (by omega)),OSs_at h5 (fun j h6 h7=>hB j (by omega) h7)⟩
end
theorem OS.chg {w w':World}{a b:Nat}{p:Option Addr}{c:Nat}{l:List Sm}{S:Nat→Prop}(h:OS w a b p c l) (hc:Chg w w' S) (hS:∀j,a≤j→j < b→¬ S j):OS w' a b p c l:=by
 obtain ⟨g,L,h3,h4,h5⟩:=h
 by_cases hn:0 < L.length
 ·have hg:=h4.2 hn
  exact⟨g,L,h3,h4.chg hc hS,OSs_chg hc h5 (fun j h6 h7=>hS j (by omega) h7)⟩
 ·obtain rfl:l=[]:=List.eq_nil_of_length_eq_zero (by omega)
  have h0:L=[]:=List.eq_nil_of_length_eq_zero (by omega)
  exact⟨g,L,h3,h4.nilS (S:=S) hn,by rw [OSs,h0]⟩
theorem OS.kept {w w':World}{a b:Nat}{p:Option Addr}{c:Nat}{l:List Sm}(h:OS w a b p c l) (hg:Grew w w'):OS w' a b p c l:=h.chg (Chg.of_grew hg (fun _=>False)) (fun _ _ _ h=>h)
theorem OS.sl {w:World}{a b:Nat}{p:Option Addr}{c:Nat}{l:List Sm}(h:OS w a b p c l):SL (Fresh a b) w p c l:=by
 obtain ⟨g,L,h3,h4,h5⟩:=h
 refine⟨fun hn ad had=>?_,L,h4.1,?_⟩
 ·obtain ⟨h6,h7,rfl,_⟩:=h4.2 (by rw [h3];exact hn)
  obtain rfl:=Option.some.inj had
  exact⟨h6,h7⟩
 ·by_cases hn:0 < L.length
  ·have hg:=h4.2 hn
   exact OSs_at h5 (fun j h6 h7=>⟨by omega,h7⟩)
  ·obtain rfl:l=[]:=List.eq_nil_of_length_eq_zero (by omega)
   have h0:L=[]:=List.eq_nil_of_length_eq_zero (by omega)
   rw [SsAt,h0]
def OTp (w:World) (t:Ta) (a b:Nat) (d:Td):Prop:=∃p c,d=t.nd p c∧(t.s.size≤1048576∧t.c.size≤1048576∧t.m.size≤1048576)∧OS w a b p c t.b
def OTs (w:World):List Ta→Nat→Nat→List Td→Prop
 | [],_,_,L=>L=[]
 | x :: xs,a,b,L=>∃d L' m,L=d :: L'∧a≤m∧m≤b∧OTp w x a m d∧OTs w xs m b L'
def OT (w:World) (a b:Nat) (p:Option Addr) (c:Nat) (l:List Ta):Prop:=∃g L,L.length=l.length∧ORow 8 tdc 42 w a b g p c L∧OTs w l (g+1) b L
theorem OTs_cons {w:World}{x:Ta}{xs:List Ta}{a b:Nat}{L:List Td}(h:OTs w (x :: xs) a b L):∃d L' m,L=d :: L'∧a≤m∧m≤b∧OTp w x a m d∧OTs w xs m b L':=by
 rw [OTs] at h
 exact h
theorem OTs_wide {w:World}:∀{xs:List Ta}{a b b':Nat}{L:List Td},OTs w xs a b L→b≤b'→OTs w xs a b' L
 | [],_,_,_,_,h,_=>by rw [OTs] at h ⊢;exact h
 | x :: xs,a,b,b',_,h,hb=>by
   obtain ⟨d,L',m,h1,h2,h3,h4,h5⟩:=OTs_cons h
   rw [OTs]
   exact⟨d,L',m,h1,h2,by omega,h4,OTs_wide h5 hb⟩
theorem OTp.chg {w w':World}{S:Nat→Prop}{x:Ta}{a b:Nat}{d:Td}(h:OTp w x a b d) (hc:Chg w w' S) (hS:∀j,a≤j→j < b→¬ S j):OTp w' x a b d:=by
 obtain ⟨p,c,h1,h2,h3⟩:=h
 exact⟨p,c,h1,h2,h3.chg hc hS⟩
theorem OTs_chg {w w':World}{S:Nat→Prop}(hc:Chg w w' S):∀{xs:List Ta}{a b:Nat}{L:List Td},OTs w xs a b L→(∀j,a≤j→j < b→¬ S j)→OTs w' xs a b L
 | [],_,_,_,h,_=>by rw [OTs] at h ⊢;exact h
 | x :: xs,a,b,_,h,hS=>by
   obtain ⟨d,L',m,h1,h2,h3,h4,h5⟩:=OTs_cons h
   rw [OTs]
   exact⟨d,L',m,h1,h2,h3,h4.chg hc (fun j h6 h7=>hS j h6 (by omega)),OTs_chg hc h5 (fun j h6 h7=>hS j (by omega) h7)⟩
theorem OS.down {w:World}{a a' b:Nat}{p:Option Addr}{c:Nat}{l:List Sm}(h:OS w a b p c l) (ha:a'≤a):OS w a' b p c l:=by
 obtain ⟨g,L,h3,h4,h5⟩:=h
 exact⟨g,L,h3,⟨h4.1,fun hn=>by obtain ⟨h6,h7,h8,h9⟩:=h4.2 hn;exact⟨by omega,h7,h8,h9.down ha⟩⟩,h5⟩
theorem OTs_snoc {w:World}{x:Ta}{d:Td}{m b:Nat}:∀{xs:List Ta}{a:Nat}{L:List Td},OTs w xs a m L→a≤m→m≤b→OTp w x m b d→OTs w (xs++[x]) a b (L++[d])
 | [],a,_,h,ha,hm,hx=>by
   rw [OTs] at h
   subst h
   rw [List.nil_append,List.nil_append,OTs]
   obtain ⟨p,c,h1,h2,h3⟩:=hx
   exact⟨d,[],b,rfl,by omega,Nat.le_refl _,⟨p,c,h1,h2,h3.down ha⟩,by rw [OTs]⟩
 | y :: ys,a,_,h,ha,hm,hx=>by
   obtain ⟨d',L',m',rfl,h2,h3,h4,h5⟩:=OTs_cons h
   rw [List.cons_append,List.cons_append,OTs]
   exact⟨d',L'++[d],m',rfl,h2,by omega,h4,OTs_snoc h5 h3 hm hx⟩
theorem OT.chg {w w':World}{a b:Nat}{p:Option Addr}{c:Nat}{l:List Ta}{S:Nat→Prop}(h:OT w a b p c l) (hc:Chg w w' S) (hS:∀j,a≤j→j < b→¬ S j):OT w' a b p c l:=by
 obtain ⟨g,L,h3,h4,h5⟩:=h
 by_cases hn:0 < L.length
 ·have hg:=h4.2 hn
  exact⟨g,L,h3,h4.chg hc hS,OTs_chg hc h5 (fun j h6 h7=>hS j (by omega) h7)⟩
 ·obtain rfl:l=[]:=List.eq_nil_of_length_eq_zero (by omega)
  obtain rfl:L=[]:=List.eq_nil_of_length_eq_zero (by omega)
  exact⟨g,[],h3,⟨⟨RdL.nil _ _ _ _ _ h4.1.max,h4.1.bare⟩,fun h=>absurd h hn⟩,by rw [OTs]⟩
theorem OT.kept {w w':World}{a b:Nat}{p:Option Addr}{c:Nat}{l:List Ta}(h:OT w a b p c l) (hg:Grew w w'):OT w' a b p c l:=h.chg (Chg.of_grew hg (fun _=>False)) (fun _ _ _ h=>h)
theorem OTs_at {w:World}{B:Nat→Prop}:∀{xs:List Ta}{a b:Nat}{L:List Td},OTs w xs a b L→(∀j,a≤j→j < b→B j)→TsAt B w xs L
 | [],_,_,_,h,_=>by rw [OTs] at h;rw [TsAt];exact h
 | x :: xs,a,b,_,h,hB=>by
   obtain ⟨d,L',m,h1,h2,h3,⟨p,c,h4,hz,h5⟩,h6⟩:=OTs_cons h
   rw [TsAt]
   exact⟨d,L',h1,⟨p,c,h4,hz,h5.sl.mono (fun j hj=>hB j hj.1 (by have:=hj.2;omega))⟩,OTs_at h6 (fun j h7 h8=>hB j (by omega) h8)⟩
theorem OT.tl {w:World}{a b:Nat}{p:Option Addr}{c:Nat}{l:List Ta}(h:OT w a b p c l):TL (Fresh a b) w p c l:=by
 obtain ⟨g,L,h3,h4,h5⟩:=h
 refine⟨fun hn ad had=>?_,L,h4.1,?_⟩
 ·obtain ⟨h6,h7,rfl,_⟩:=h4.2 (by rw [h3];exact hn)
  obtain rfl:=Option.some.inj had
  exact⟨h6,h7⟩
 ·by_cases hn:0 < L.length
  ·have hg:=h4.2 hn
   exact OTs_at h5 (fun j h6 h7=>⟨by omega,h7⟩)
  ·obtain rfl:l=[]:=List.eq_nil_of_length_eq_zero (by omega)
   have h0:L=[]:=List.eq_nil_of_length_eq_zero (by omega)
   rw [TsAt,h0]
open Go.ChangeShapes Go.WideShapes Go.ChangeAt
theorem Own.apart {w:World}{base:Nat}{e e':TypeId}{p:Option Addr}{n c:Nat}{xs:List UInt8}(h:Own w base e (.slice p n c) xs) (he:e≠e'){S:Nat}{vs:List Value}(hb:Blk S vs e' w):¬ (Value.ownBlock (.slice p n c)=some S):=fun hs=>by
 rcases h.2 with ⟨hv,_⟩ | ⟨g,cap,cur,hv,_,hg,_⟩
 ·simp only [Value.slice.injEq] at hv
  rw [ownBlock_sl,hv.1] at hs
  cases hs
 ·simp only [Value.slice.injEq] at hv
  rw [ownBlock_sl,hv.1] at hs
  obtain rfl:g=S:=Option.some.inj hs
  have h2:w.heap[g]?=_:=hb
  rw [h2] at hg
  simp at hg
  exact he hg.2.symm
theorem Own.gr {w w':World}{base:Nat}{e:TypeId}{v:Value}{xs:List UInt8}(h:Own w base e v xs) (hg:Grew w w'):Own w' base e v xs:=h.below hg
theorem Own.empty (w:World) (base:Nat) (e:TypeId):Own w base e (.slice none 0 0) []:=World.ownsRow_nil w base e 1
section
variable {P:Program}{w:World}{ops:Array Oper}{rest:List Oper}{o:Oper}{a:Act}{Q:Exit→Act→World→Prop}
theorem wpList_append_str (hgd:o.guard=none) (s x:Operand) (t u:TypeId)
 (ho:o.op=.call { callee:=.builtin .append,args:=#[s,x],argTypes:=#[t,u] })
 (base:Nat) (e:TypeId) (ht:P.underlying t=some (.slice e)) (hu:P.underlying u=some .string) (hi:(P.info? e).map (fun i=>(i.zero,i.size,i.bytes))=some (some (.int .u8 0),1,1))
 (v:Value) (xs:List UInt8) (hs:a.eval s=v) (hown:Own w base e v xs) (l:List UInt8) (hx:a.eval x=.string ⟨l.toArray⟩)
 (hbytes:xs.length+l.length≤140737488355328) (hbase:base≤w.heap.size)
 (h:∀p' c' zs w',Hid (zs=xs++l)→Own w' base e (.slice p' zs.length c') zs→Below base w w'→Chg w w' (fun j=>v.ownBlock=some j)→wpList P ops Q rest (a.put o.dst (.slice p' zs.length c')) w'):wpList P ops Q (o :: rest) a w:=by
 obtain ⟨i,hi,hz0,hz1,hz2⟩:=info_parts hi
 have hsz:(⟨l.toArray⟩:ByteArray).size=l.length:=rfl
 refine Lib.wpList_append_own_string w hgd s x t u ho base e i ht hu hi hz0 hz1 hz2 v xs.length (bvs xs) hs hown ⟨l.toArray⟩ hx (by rw [hsz];simp only [maxLen];omega) (by rw [hsz];omega) hbase fun v' w' h2 h3 _=>?_
 have h4:Own w' base e v' (xs++l):=by
  show World.ownsRow _ _ _ _ _ _ _
  rw [List.length_append,bvs_append]
  exact h2
 obtain ⟨p',c',rfl,_,_⟩:=h4.shape
 exact h p' c' _ w' rfl h4 (hown.grown_below h3 (Nat.le_refl _) hbase) (Chg.of_grownBy h3)
end
section
variable {P:Program}{dst:Option Tmp}{ty:TypeId}{pos:String}{after:Array Edge}{g:Option (Nat × Bool)}{a:Act}{w:World}{T:Value→World→Prop}
end

def litV {H:Type}:DataW H→Value
 | .lit (.int k n)=>.int k n
 | .lit (.bool b)=>.bool b
 | .lit (.string l)=>.string ⟨l.toArray⟩
 | _=>undef
def rowV {H:Type}:DataW H→List Value
 | .agg ds=>ds.map litV
 | _=>[]
def arrV {H:Type}:DataW H→List Value
 | .agg rs=>rs.flatMap rowV
 | _=>[]
def flat1 (P:Program) (t:TypeId):Bool:=match P.underlying t with
 | some (.int _)=>true
 | some .bool=>true
 | some .string=>true
 | _=>false
def rowOk (P:Program) (fs:Array Field):Bool:=(List.range fs.size).all fun i=>match fs[i]? with
 | some f=>f.offset==i&&P.cellsOf f.type==1&&flat1 P f.type
 | none=>false
section
variable {H:Type}{enc:TypeId × Value→H}{P:Program}{w:World}{base:Nat}{sp:Nat→Bool}{held:Bool}{fuel:Nat}{cs:List Value}
theorem lit_vals {t:TypeId}{x:DataW H × List MemPlace}(hf:flat1 P t=true) (h:DataW.trod enc P w base sp held fuel t cs=some x):cs=[litV x.1]:=by
 unfold flat1 at hf
 split at hf
 ·rename_i hu
  obtain ⟨n,rfl,rfl,_⟩:=DataW.trod_int hu h
  rfl
 ·rename_i hu
  obtain ⟨b,rfl,rfl⟩:=DataW.trod_bool hu h
  rfl
 ·rename_i hu
  obtain ⟨s,rfl,rfl,_⟩:=DataW.trod_string hu h
  rfl
 ·cases hf
theorem row_vals {t:TypeId}{fs:Array Field}{x:DataW H × List MemPlace}(ht:P.underlying t=some (.struct fs)) (hc:P.cellsOf t=fs.size) (hok:rowOk P fs=true)
 (h:DataW.trod enc P w base sp held fuel t cs=some x):cs=rowV x.1:=by
 obtain ⟨xs,n,_,rfl,hl,hxs,hf⟩:=DataW.trod_struct ht h
 show cs=(xs.map (·.1)).map litV
 apply List.ext_getElem?
 intro i
 by_cases hi:i < fs.size
 ·have h1:=List.all_eq_true.1 hok i (List.mem_range.2 hi)
  rw [Array.getElem?_eq_getElem hi] at h1
  simp only [Bool.and_eq_true,beq_iff_eq] at h1
  obtain ⟨⟨h2,h3⟩,h4⟩:=h1
  have h5:=hf i fs[i] (Array.getElem?_eq_getElem hi)
  have hx:i < xs.length:=by omega
  rw [List.getElem?_eq_getElem hx,h2,h3] at h5
  have h6:=lit_vals h4 h5
  have h7:cs[i]?=some (litV xs[i].1):=by
   have:=congrArg (·[0]?) h6
   simpa [List.getElem?_take,List.getElem?_drop] using this
  rw [h7]
  simp [List.getElem?_eq_getElem hx]
 ·rw [List.getElem?_eq_none (by omega),List.getElem?_eq_none (by simp;omega)]
theorem arr_vals {T e:TypeId}{m k:Nat}{fs:Array Field}{x:DataW H × List MemPlace}(hT:P.underlying T=some (.array m e)) (he:P.underlying e=some (.struct fs)) (hce:P.cellsOf e=k) (hk:fs.size=k) (hcT:P.cellsOf T=m * k) (hok:rowOk P fs=true)
 (h:DataW.trod enc P w base sp held fuel T cs=some x):cs=arrV x.1:=by
 obtain ⟨xs,n,_,rfl,hl,hxs,hf⟩:=DataW.trod_array hT h
 show cs=(xs.map (·.1)).flatMap rowV
 rw [hcT] at hl
 have key:∀j,j≤m→cs.take (j * k)=((xs.map (·.1)).take j).flatMap rowV:=by
  intro j
  induction j with
  | zero=>intro _;simp
  | succ j ih =>
    intro hj
    have hx:j < xs.length:=by omega
    have h1:=hf j (by omega)
    rw [List.getElem?_eq_getElem hx,hce] at h1
    have h2:=row_vals he (hce.trans hk.symm) hok h1
    rw [Nat.succ_mul,List.take_add,ih (by omega),h2,List.take_add_one,List.getElem?_eq_getElem (by simpa using hx)]
    simp
 have:=key m (Nat.le_refl _)
 rwa [List.take_of_length_le (by omega),List.take_of_length_le (by simp;omega)] at this
end
theorem rows_of_head {P:Program}{W:World}{name:String}{d:DataW Unit}{rest:List (String × DataW Unit)}{g:Nat}{T e:TypeId}{m k:Nat}{fs:Array Field}
 (hg:P.globalNamed name=some g) (hty:(P.globals[g]?).map (·.type)=some T) (hT:P.underlying T=some (.array m e)) (he:P.underlying e=some (.struct fs)) (hce:P.cellsOf e=k) (hk:fs.size=k) (hcT:P.cellsOf T=m * k) (hok:rowOk P fs=true)
 (h:laidMet P ((name,d) :: rest) W):W.var? P name=some (arrV d).toArray:=by
 obtain ⟨ps,⟨g',t',cs,fuel,p,q,hg',ht',hvar,hd,_,_⟩,_⟩:=h
 obtain rfl:=Option.some.inj (hg.symm.trans hg')
 obtain rfl:=Option.some.inj (hty.symm.trans ht')
 have:=arr_vals hT he hce hk hcT hok hd
 rw [hvar,← this]
def eqHS (ka:Int) (sa:ByteArray) (na:Int) (na_:Nat) (kb:Int) (sb:ByteArray) (nb:Int) (nb_:Nat) (m1 m2:Bool):Bool:=!(((((((ka) != (kb))||(!decide ((sa)=(sb))))||((na) != (nb)))||((((na_:Nat):Int)) != (((nb_:Nat):Int))))||(!(m1)))||(!(m2)))
mutual
def eqS:Sm→Sm→Bool
 | ⟨k,s,n,ar,b,e,_⟩,⟨k',s',n',ar',b',e',_⟩=>eqHS k s n ar.length k' s' n' ar'.length (decide (b.length=b'.length)&&eqSz b b') (decide (e.length=e'.length)&&eqSz e e')&&eqXs ar ar'
def eqSz:List Sm→List Sm→Bool
 | x :: xs,y :: ys=>eqS x y&&eqSz xs ys
 | _,_=>true
end
def eqSs (a b:List Sm):Bool:=decide (a.length=b.length)&&eqSz a b
theorem eqS_eq (k n q k' n' q':Int) (s s':ByteArray) (ar ar':List Xp) (b e b' e':List Sm):eqS ⟨k,s,n,ar,b,e,q⟩ ⟨k',s',n',ar',b',e',q'⟩=(eqHS k s n ar.length k' s' n' ar'.length (eqSs b b') (eqSs e e')&&eqXs ar ar'):=by rw [eqS];rfl
theorem eqSz_nil (l:List Sm):eqSz [] l=true:=by rw [eqSz];simp
theorem eqSz_snoc:∀(a b:List Sm) (x y:Sm),a.length=b.length→eqSz (a++[x]) (b++[y])=(eqSz a b&&eqS x y)
 | [],[],x,y,_=>by rw [List.nil_append,List.nil_append,eqSz,eqSz_nil,Bool.and_true,Bool.true_and]
 | u :: a,v :: b,x,y,h=>by
   rw [List.cons_append,List.cons_append,eqSz,eqSz,eqSz_snoc a b x y (by simpa using h),Bool.and_assoc]
theorem eqSz_no:∀(a b:List Sm) (j:Nat) (hj:j < a.length) (hj':j < b.length),eqS a[j] b[j]=false→eqSz a b=false
 | x :: a,y :: b,0,_,_,h=>by
   rw [eqSz]
   simp only [zz2] at h
   rw [h,Bool.false_and]
 | x :: a,y :: b,j+1,h1,h2,h=>by
   rw [eqSz,eqSz_no a b j (by simpa using h1) (by simpa using h2) (by simpa using h),Bool.and_false]
section
variable {dst:Option Tmp}{ty:TypeId}{pos:String}{after:Array Edge}{g:Option (Nat × Bool)}{a:Act}{w:World}{T:Value→World→Prop}
theorem rn_fld_49_0 {x:Operand}{S o:Nat}(hx:a.eval x=.pointer (some ⟨S,o,none⟩)) (h:T (.pointer (some ⟨S,o,none⟩)) w):Runs Tryz.prog ⟨dst,.fieldAddr 49 x 0,ty,pos,after,g⟩ a w T:=by
 refine Runs.value (v:=.pointer (some ⟨S,o,none⟩)) (w':=w) ?_ h
 simp only [execOp,hx]
 go_simp
end
theorem enters_qs:Enters Tryz.prog 30:=fun args w=>by go_simp
set_option maxHeartbeats 16000000 in
theorem eqs_any:∀(n:Nat) (l m:List Sm),nSs l < n→∀(A B:Nat→Prop) (w:World) (p p':Option Addr) (c c':Nat),SL A w p c l→SL B w p' c' m →
 Calls Tryz.prog 30 #[.slice p l.length c,.slice p' m.length c'] w fun e w'=>e=.returned (.bool (eqSs l m))∧Grew w w':=by
 intro n
 induction n with
 | zero=>intro _ _ h;exact absurd h (Nat.not_lt_zero _)
 | succ n ih =>
 intro l m hln A B w p p' c c' hx hy
 have HX:=zh hx
 have HY:=zh hy
 have hcap:l.length≤c∧m.length≤c':=⟨hx.cap.1,hy.cap.1⟩
 have hmax:=And.intro hx.cap.2.1 hy.cap.2.1
 obtain ⟨b,hb⟩:∃b,eqSs l m=b:=⟨_,rfl⟩
 rw [hb]
 rw [eqSs] at hb
 clear hx hy
 by_cases hlen:l.length=m.length
 ·rw [decide_eq_true hlen,Bool.true_and] at hb
  have HOK:=zh hb
  have HLE:=zh hlen
  have hne:((l.length:Int) != (m.length:Int))=false:=by rw [hlen];simp
  clear hb hlen
  go_enter Tryz.func30,Tryz.ntmps30
  go_wp2
  go_loopg [5,6,7,8,16] l.length (fun gg v5 v6 v7 v8 iv wr=>∃(j:Nat),iv=.int .i64 (j:Int)∧j≤l.length∧gg=l.length - j∧Hid (eqSz (l.take j) (m.take j)=true)∧Hid (Grew w wr))
  case atStart=>exact⟨0,rfl,Nat.zero_le _,rfl,zh (eqSz_nil _),zh (Grew.refl _)⟩
  case round =>
   obtain ⟨j,rfl,hj,rfl,HI,HG⟩:=hrel
   by_cases hlt:j < l.length
   ·have hlt2:j < m.length:=by have:=HLE.out;omega
    have hta:=List.take_succ_eq_append_getElem hlt
    have htb:=List.take_succ_eq_append_getElem hlt2
    have hno:=fun h=>eqSz_no l m j hlt hlt2 h
    have hma:=List.getElem_mem hlt
    have hmb:=List.getElem_mem hlt2
    have hna:=nSs_mem hma
    have hnb:=nSs_mem hmb
    have HLT:=zh (Nat.succ_le_of_lt hlt)
    have HL2:=zh (And.intro hlt hlt2)
    obtain ⟨ba,oa,paa,caa,pba,cba,pea,cea,hpa,hba,haa,hboa,hela,hca⟩:=HX.out.get j hlt
    generalize l[j]'hlt=xa at hba haa hboa hela hca hno hta hma hna
    obtain ⟨ka,sa,na,ra,ya,ea,qa⟩:=xa
    replace haa:XL A w paa caa ra:=haa
    replace hboa:SL A w pba cba ya:=hboa
    replace hela:SL A w pea cea ea:=hela
    have hcapa:ra.length≤caa∧ya.length≤cba∧ea.length≤cea:=⟨haa.cap.1,hboa.cap.1,hela.cap.1⟩
    have hmaxa:=And.intro haa.cap.2.1 (And.intro hboa.cap.2.1 hela.cap.2.1)
    replace hca:∀i_ u_,(sdc ⟨ka,sa,na,paa,ra.length,caa,pba,ya.length,cba,pea,ea.length,cea,qa⟩)[i_]?=some u_→(wr).cell? ⟨ba,oa+j * 7+i_,none⟩=some u_:=fun i_ u_ h_=>Atv.kept (hca i_ u_ h_) (HG.out)
    have ca0:(wr).cell? ⟨ba,oa+j * 7,none⟩=some (.int .i64 ka):=by simpa using hca 0 _ rfl
    have ca1:(wr).cell? ⟨ba,oa+j * 7+1,none⟩=some (.string sa):=hca 1 _ rfl
    have ca2:(wr).cell? ⟨ba,oa+j * 7+2,none⟩=some (.int .i64 na):=hca 2 _ rfl
    have ca3:(wr).cell? ⟨ba,oa+j * 7+3,none⟩=some (.slice paa ra.length caa):=hca 3 _ rfl
    have ca4:(wr).cell? ⟨ba,oa+j * 7+4,none⟩=some (.slice pba ya.length cba):=hca 4 _ rfl
    have ca5:(wr).cell? ⟨ba,oa+j * 7+5,none⟩=some (.slice pea ea.length cea):=hca 5 _ rfl
    have ca6:(wr).cell? ⟨ba,oa+j * 7+6,none⟩=some (.int .i64 qa):=hca 6 _ rfl
    obtain ⟨bb,ob,pab,cab,pbb,cbb,peb,ceb,hpb,hbb,hab,hbob,helb,hcb⟩:=HY.out.get j hlt2
    generalize m[j]'hlt2=xb at hbb hab hbob helb hcb hno htb hmb hnb
    obtain ⟨kb,sb,nb,rb,yb,eb,qb⟩:=xb
    replace hab:XL B w pab cab rb:=hab
    replace hbob:SL B w pbb cbb yb:=hbob
    replace helb:SL B w peb ceb eb:=helb
    have hcapb:rb.length≤cab∧yb.length≤cbb∧eb.length≤ceb:=⟨hab.cap.1,hbob.cap.1,helb.cap.1⟩
    have hmaxb:=And.intro hab.cap.2.1 (And.intro hbob.cap.2.1 helb.cap.2.1)
    replace hcb:∀i_ u_,(sdc ⟨kb,sb,nb,pab,rb.length,cab,pbb,yb.length,cbb,peb,eb.length,ceb,qb⟩)[i_]?=some u_→(wr.alloc (Obj.cells #[.int .i64 ka,.string sa,.int .i64 na,.slice paa ra.length caa,.slice pba ya.length cba,.slice pea ea.length cea,.int .i64 qa] 49)).cell? ⟨bb,ob+j * 7+i_,none⟩=some u_:=fun i_ u_ h_=>Atv.kept (hcb i_ u_ h_) (HG.out.alloc _)
    have cb0:(wr.alloc (Obj.cells #[.int .i64 ka,.string sa,.int .i64 na,.slice paa ra.length caa,.slice pba ya.length cba,.slice pea ea.length cea,.int .i64 qa] 49)).cell? ⟨bb,ob+j * 7,none⟩=some (.int .i64 kb):=by simpa using hcb 0 _ rfl
    have cb1:(wr.alloc (Obj.cells #[.int .i64 ka,.string sa,.int .i64 na,.slice paa ra.length caa,.slice pba ya.length cba,.slice pea ea.length cea,.int .i64 qa] 49)).cell? ⟨bb,ob+j * 7+1,none⟩=some (.string sb):=hcb 1 _ rfl
    have cb2:(wr.alloc (Obj.cells #[.int .i64 ka,.string sa,.int .i64 na,.slice paa ra.length caa,.slice pba ya.length cba,.slice pea ea.length cea,.int .i64 qa] 49)).cell? ⟨bb,ob+j * 7+2,none⟩=some (.int .i64 nb):=hcb 2 _ rfl
    have cb3:(wr.alloc (Obj.cells #[.int .i64 ka,.string sa,.int .i64 na,.slice paa ra.length caa,.slice pba ya.length cba,.slice pea ea.length cea,.int .i64 qa] 49)).cell? ⟨bb,ob+j * 7+3,none⟩=some (.slice pab rb.length cab):=hcb 3 _ rfl
    have cb4:(wr.alloc (Obj.cells #[.int .i64 ka,.string sa,.int .i64 na,.slice paa ra.length caa,.slice pba ya.length cba,.slice pea ea.length cea,.int .i64 qa] 49)).cell? ⟨bb,ob+j * 7+4,none⟩=some (.slice pbb yb.length cbb):=hcb 4 _ rfl
    have cb5:(wr.alloc (Obj.cells #[.int .i64 ka,.string sa,.int .i64 na,.slice paa ra.length caa,.slice pba ya.length cba,.slice pea ea.length cea,.int .i64 qa] 49)).cell? ⟨bb,ob+j * 7+5,none⟩=some (.slice peb eb.length ceb):=hcb 5 _ rfl
    have cb6:(wr.alloc (Obj.cells #[.int .i64 ka,.string sa,.int .i64 na,.slice paa ra.length caa,.slice pba ya.length cba,.slice pea ea.length cea,.int .i64 qa] 49)).cell? ⟨bb,ob+j * 7+6,none⟩=some (.int .i64 qb):=hcb 6 _ rfl
    have hns:nS ⟨ka,sa,na,ra,ya,ea,qa⟩=nSs ya+nSs ea+1:=rfl
    obtain ⟨m1,hm1⟩:∃t,eqSs ya yb=t:=⟨_,rfl⟩
    obtain ⟨m2,hm2⟩:∃t,eqSs ea eb=t:=⟨_,rfl⟩
    have hq:=eqS_eq ka na qa kb nb qb sa sb ra rb ya ea yb eb
    rw [hm1,hm2] at hq
    have HIY:=zh (fun W (hW:Grew w W)=>(show Calls Tryz.prog 30 #[.slice pba ya.length cba,.slice pbb yb.length cbb] W fun e w'=>e=.returned (.bool m1)∧Grew W w' from hm1 ▸ ih ya yb (by omega) A B W pba pbb cba cbb (hboa.kept hW) (hbob.kept hW)))
    have HIE:=zh (fun W (hW:Grew w W)=>(show Calls Tryz.prog 30 #[.slice pea ea.length cea,.slice peb eb.length ceb] W fun e w'=>e=.returned (.bool m2)∧Grew W w' from hm2 ▸ ih ea eb (by omega) A B W pea peb cea ceb (hela.kept hW) (helb.kept hW)))
    have HNO:=zh (fun(h:(eqHS ka sa na ra.length kb sb nb rb.length m1 m2&&eqXs ra rb)=false)=>(show b=false from HOK.out ▸ hno (hq.trans h)))
    have HQ:=zh hq
    have HTA:=zh hta
    have HTB:=zh htb
    have HAA:=zh haa
    have HAB:=zh hab
    subst hpa
    subst hpb
    clear hta htb hno hma hmb hna hnb hns hm1 hm2 hq haa hab hboa hela hbob helb hca hcb hba hbb
    go_upto_region 7 with fail
    clear ca0 ca1 ca2 ca3 ca4 ca5 ca6 cb0 cb1 cb2 cb3 cb4 cb5 cb6
    have hb1:Blk wr.heap.size [.int .i64 ka,.string sa,.int .i64 na,.slice paa ra.length caa,.slice pba ya.length cba,.slice pea ea.length cea,.int .i64 qa] 49 (wr.alloc (Obj.cells #[.int .i64 ka,.string sa,.int .i64 na,.slice paa ra.length caa,.slice pba ya.length cba,.slice pea ea.length cea,.int .i64 qa] 49)):=Blk.new wr _ _
    have hb2:Blk (wr.heap.size+1) [.int .i64 kb,.string sb,.int .i64 nb,.slice pab rb.length cab,.slice pbb yb.length cbb,.slice peb eb.length ceb,.int .i64 qb] 49 ((wr.alloc (Obj.cells #[.int .i64 ka,.string sa,.int .i64 na,.slice paa ra.length caa,.slice pba ya.length cba,.slice pea ea.length cea,.int .i64 qa] 49)).alloc (Obj.cells #[.int .i64 kb,.string sb,.int .i64 nb,.slice pab rb.length cab,.slice pbb yb.length cbb,.slice peb eb.length ceb,.int .i64 qb] 49)):=by
     have h:=Blk.new (wr.alloc (Obj.cells #[.int .i64 ka,.string sa,.int .i64 na,.slice paa ra.length caa,.slice pba ya.length cba,.slice pea ea.length cea,.int .i64 qa] 49)) [.int .i64 kb,.string sb,.int .i64 nb,.slice pab rb.length cab,.slice pbb yb.length cbb,.slice peb eb.length ceb,.int .i64 qb] 49
     rw [alloc_sz] at h
     exact h
    have hb3:=hb1.grew ((Grew.refl _).alloc (Obj.cells #[.int .i64 kb,.string sb,.int .i64 nb,.slice pab rb.length cab,.slice pbb yb.length cbb,.slice peb eb.length ceb,.int .i64 qb] 49))
    have hgV:Grew w ((wr.alloc (Obj.cells #[.int .i64 ka,.string sa,.int .i64 na,.slice paa ra.length caa,.slice pba ya.length cba,.slice pea ea.length cea,.int .i64 qa] 49)).alloc (Obj.cells #[.int .i64 kb,.string sb,.int .i64 nb,.slice pab rb.length cab,.slice pbb yb.length cbb,.slice peb eb.length ceb,.int .i64 qb] 49)):=((HG.out).alloc _).alloc _
    generalize ((wr.alloc (Obj.cells #[.int .i64 ka,.string sa,.int .i64 na,.slice paa ra.length caa,.slice pba ya.length cba,.slice pea ea.length cea,.int .i64 qa] 49)).alloc (Obj.cells #[.int .i64 kb,.string sb,.int .i64 nb,.slice pab rb.length cab,.slice pbb yb.length cbb,.slice peb eb.length ceb,.int .i64 qb] 49))=V at hb2 hb3 hgV ⊢
    clear hb1
    generalize wr.heap.size+1=U at hb2 ⊢
    generalize wr.heap.size=S at hb3 ⊢
    have HBS:=zh hb3
    have HBU:=zh hb2
    have HGV:=zh hgV
    clear hgV
    have d0:Atv ⟨S,0,none⟩ (.int .i64 ka) V:=hb3.atv 0 rfl
    have d1:Atv ⟨S,1,none⟩ (.string sa) V:=hb3.atv 1 rfl
    have d2:Atv ⟨S,2,none⟩ (.int .i64 na) V:=hb3.atv 2 rfl
    have d3:Atv ⟨S,3,none⟩ (.slice paa ra.length caa) V:=hb3.atv 3 rfl
    have d4:Atv ⟨S,4,none⟩ (.slice pba ya.length cba) V:=hb3.atv 4 rfl
    have d5:Atv ⟨S,5,none⟩ (.slice pea ea.length cea) V:=hb3.atv 5 rfl
    have e0:Atv ⟨U,0,none⟩ (.int .i64 kb) V:=hb2.atv 0 rfl
    have e1:Atv ⟨U,1,none⟩ (.string sb) V:=hb2.atv 1 rfl
    have e2:Atv ⟨U,2,none⟩ (.int .i64 nb) V:=hb2.atv 2 rfl
    have e3:Atv ⟨U,3,none⟩ (.slice pab rb.length cab) V:=hb2.atv 3 rfl
    have e4:Atv ⟨U,4,none⟩ (.slice pbb yb.length cbb) V:=hb2.atv 4 rfl
    have e5:Atv ⟨U,5,none⟩ (.slice peb eb.length ceb) V:=hb2.atv 5 rfl
    clear hb2 hb3
    refine wp_postsL [some 25,some 26,some 27,some 28,some 29,some 30,some 31,some 32,some 33,some 34,some 35,some 36,some 37,some 38,some 39,some 40,some 41,some 42,some 43,some 44,some 45,some 46,some 47,some 48,some 49,some 50,some 51,some 52,some 53,some 54,some 55,some 56,some 57,some 58,some 59,some 60,some 61,some 62,some 63,some 64,some 65,some 66,some 67,some 68] (Zfe (Zfd (Zfa (Ztg (Ztd (Ztc (Zfe (Zfc [])))))))) [fun v _=>v=.pointer (some ⟨S,0,none⟩),fun v _=>v=.int .i64 (ka),fun v _=>v=.pointer (some ⟨U,0,none⟩),fun v _=>v=.int .i64 (kb),fun v _=>v=.bool ((ka) != (kb)),fun v _=>v=.bool ((ka) != (kb)),fun v _=>Zg (((ka) != (kb))=false) (.pointer (some ⟨S,1,none⟩)) v,fun v _=>Zg (((ka) != (kb))=false) (.string sa) v,fun v _=>Zg (((ka) != (kb))=false) (.pointer (some ⟨U,1,none⟩)) v,fun v _=>Zg (((ka) != (kb))=false) (.string sb) v,fun v _=>Zg (((ka) != (kb))=false) (.bool (!decide ((sa)=(sb)))) v,fun v _=>v=.bool (((ka) != (kb))||(!decide ((sa)=(sb)))),fun v _=>v=.bool (((ka) != (kb))||(!decide ((sa)=(sb)))),fun v _=>Zg ((((ka) != (kb))||(!decide ((sa)=(sb))))=false) (.pointer (some ⟨S,2,none⟩)) v,fun v _=>Zg ((((ka) != (kb))||(!decide ((sa)=(sb))))=false) (.int .i64 (na)) v,fun v _=>Zg ((((ka) != (kb))||(!decide ((sa)=(sb))))=false) (.pointer (some ⟨U,2,none⟩)) v,fun v _=>Zg ((((ka) != (kb))||(!decide ((sa)=(sb))))=false) (.int .i64 (nb)) v,fun v _=>Zg ((((ka) != (kb))||(!decide ((sa)=(sb))))=false) (.bool ((na) != (nb))) v,fun v _=>v=.bool ((((ka) != (kb))||(!decide ((sa)=(sb))))||((na) != (nb))),fun v _=>v=.bool ((((ka) != (kb))||(!decide ((sa)=(sb))))||((na) != (nb))),fun v _=>Zg (((((ka) != (kb))||(!decide ((sa)=(sb))))||((na) != (nb)))=false) (.pointer (some ⟨S,3,none⟩)) v,fun v _=>Zg (((((ka) != (kb))||(!decide ((sa)=(sb))))||((na) != (nb)))=false) (.slice paa (ra.length) (caa)) v,fun v _=>Zg (((((ka) != (kb))||(!decide ((sa)=(sb))))||((na) != (nb)))=false) (.int .i64 (((ra.length:Nat):Int))) v,fun v _=>Zg (((((ka) != (kb))||(!decide ((sa)=(sb))))||((na) != (nb)))=false) (.pointer (some ⟨U,3,none⟩)) v,fun v _=>Zg (((((ka) != (kb))||(!decide ((sa)=(sb))))||((na) != (nb)))=false) (.slice pab (rb.length) (cab)) v,fun v _=>Zg (((((ka) != (kb))||(!decide ((sa)=(sb))))||((na) != (nb)))=false) (.int .i64 (((rb.length:Nat):Int))) v,fun v _=>Zg (((((ka) != (kb))||(!decide ((sa)=(sb))))||((na) != (nb)))=false) (.bool ((((ra.length:Nat):Int)) != (((rb.length:Nat):Int)))) v,fun v _=>v=.bool (((((ka) != (kb))||(!decide ((sa)=(sb))))||((na) != (nb)))||((((ra.length:Nat):Int)) != (((rb.length:Nat):Int)))),fun v _=>v=.bool (((((ka) != (kb))||(!decide ((sa)=(sb))))||((na) != (nb)))||((((ra.length:Nat):Int)) != (((rb.length:Nat):Int)))),fun v _=>Zg ((((((ka) != (kb))||(!decide ((sa)=(sb))))||((na) != (nb)))||((((ra.length:Nat):Int)) != (((rb.length:Nat):Int))))=false) (.pointer (some ⟨S,4,none⟩)) v,fun v _=>Zg ((((((ka) != (kb))||(!decide ((sa)=(sb))))||((na) != (nb)))||((((ra.length:Nat):Int)) != (((rb.length:Nat):Int))))=false) (.slice pba (ya.length) (cba)) v,fun v _=>Zg ((((((ka) != (kb))||(!decide ((sa)=(sb))))||((na) != (nb)))||((((ra.length:Nat):Int)) != (((rb.length:Nat):Int))))=false) (.pointer (some ⟨U,4,none⟩)) v,fun v _=>Zg ((((((ka) != (kb))||(!decide ((sa)=(sb))))||((na) != (nb)))||((((ra.length:Nat):Int)) != (((rb.length:Nat):Int))))=false) (.slice pbb (yb.length) (cbb)) v,fun v _=>Zg ((((((ka) != (kb))||(!decide ((sa)=(sb))))||((na) != (nb)))||((((ra.length:Nat):Int)) != (((rb.length:Nat):Int))))=false) (.bool (m1)) v,fun v _=>Zg ((((((ka) != (kb))||(!decide ((sa)=(sb))))||((na) != (nb)))||((((ra.length:Nat):Int)) != (((rb.length:Nat):Int))))=false) (.bool (!(m1))) v,fun v _=>v=.bool ((((((ka) != (kb))||(!decide ((sa)=(sb))))||((na) != (nb)))||((((ra.length:Nat):Int)) != (((rb.length:Nat):Int))))||(!(m1))),fun v _=>v=.bool ((((((ka) != (kb))||(!decide ((sa)=(sb))))||((na) != (nb)))||((((ra.length:Nat):Int)) != (((rb.length:Nat):Int))))||(!(m1))),fun v _=>Zg (((((((ka) != (kb))||(!decide ((sa)=(sb))))||((na) != (nb)))||((((ra.length:Nat):Int)) != (((rb.length:Nat):Int))))||(!(m1)))=false) (.pointer (some ⟨S,5,none⟩)) v,fun v _=>Zg (((((((ka) != (kb))||(!decide ((sa)=(sb))))||((na) != (nb)))||((((ra.length:Nat):Int)) != (((rb.length:Nat):Int))))||(!(m1)))=false) (.slice pea (ea.length) (cea)) v,fun v _=>Zg (((((((ka) != (kb))||(!decide ((sa)=(sb))))||((na) != (nb)))||((((ra.length:Nat):Int)) != (((rb.length:Nat):Int))))||(!(m1)))=false) (.pointer (some ⟨U,5,none⟩)) v,fun v _=>Zg (((((((ka) != (kb))||(!decide ((sa)=(sb))))||((na) != (nb)))||((((ra.length:Nat):Int)) != (((rb.length:Nat):Int))))||(!(m1)))=false) (.slice peb (eb.length) (ceb)) v,fun v _=>Zg (((((((ka) != (kb))||(!decide ((sa)=(sb))))||((na) != (nb)))||((((ra.length:Nat):Int)) != (((rb.length:Nat):Int))))||(!(m1)))=false) (.bool (m2)) v,fun v _=>Zg (((((((ka) != (kb))||(!decide ((sa)=(sb))))||((na) != (nb)))||((((ra.length:Nat):Int)) != (((rb.length:Nat):Int))))||(!(m1)))=false) (.bool (!(m2))) v,fun v _=>v=.bool (((((((ka) != (kb))||(!decide ((sa)=(sb))))||((na) != (nb)))||((((ra.length:Nat):Int)) != (((rb.length:Nat):Int))))||(!(m1)))||(!(m2)))] (by kernel_rfl) rfl ?_ ⟨?_,?_,?_,?_,?_,?_,?_,?_,?_,?_,?_,?_,?_,?_,?_,?_,?_,?_,?_,?_,?_,?_,?_,?_,?_,?_,?_,?_,?_,?_,?_,?_,?_,?_,?_,?_,?_,?_,?_,?_,?_,?_,?_,?_,trivial⟩ ?_
    ·exact⟨Zi,Zi,Zi,Zi,Zi,Zi,Zi,Zi,Zi,Zi,Zi,Zi,Zi,Zi,Zi,Zi,Zi,Zi,Zi,Zi,Zi,Zi,Zi,Zi,Zi,Zi,Zi,Zi,Zi,Zi,Zi,Zi,Zi,Zi,Zi,Zi,Zi,Zi,Zi,Zi,Zi,Zi,Zi,Zi,trivial⟩
    ·intro u w hR hd;exact rn_fld_49_0 (ev rfl) Zr
    ·intro u w hR hd;exact rn_ld_3 (ev (hd.1 rfl)) (d0.kept hR) Zr
    ·intro u w hR hd;exact rn_fld_49_0 (ev rfl) Zr
    ·intro u w hR hd;exact rn_ld_3 (ev (hd.1 rfl)) (e0.kept hR) Zr
    ·intro u w hR hd;exact rn_neq_3 (ev (hd.1 rfl)) (ev (hd.2.1 rfl)) Zr
    ·intro u w hR hd;exact runs_mv (ev (hd.1 rfl)) Zr
    ·intro u w hR hd;exact⟨fun hg=>have hG:=Zh (hd.1 rfl) hg;rn_fld_49_1 (ev rfl) (Zs hG),Zn (hd.1 rfl)⟩
    ·intro u w hR hd;exact⟨fun hg=>have hG:=Zh (hd.2.1 rfl) hg;rn_ld_9 (ev ((hd.1 rfl).1 hG)) (d1.kept hR) (Zs hG),Zn (hd.2.1 rfl)⟩
    ·intro u w hR hd;exact⟨fun hg=>have hG:=Zh (hd.1 rfl) hg;rn_fld_49_1 (ev rfl) (Zs hG),Zn (hd.1 rfl)⟩
    ·intro u w hR hd;exact⟨fun hg=>have hG:=Zh (hd.2.1 rfl) hg;rn_ld_9 (ev ((hd.1 rfl).1 hG)) (e1.kept hR) (Zs hG),Zn (hd.2.1 rfl)⟩
    ·intro u w hR hd;exact⟨fun hg=>have hG:=Zh (hd.2.2.1 rfl) hg;rn_nes_9 (ev ((hd.1 rfl).1 hG)) (ev ((hd.2.1 rfl).1 hG)) (Zs hG),Zn (hd.2.2.1 rfl)⟩
    ·intro u w hR hd;exact runs_or2 (ev (hd.1 rfl)) (fun hb=>ev ((hd.2.1 rfl).1 hb)) Zr
    ·intro u w hR hd;exact runs_mv (ev (hd.1 rfl)) Zr
    ·intro u w hR hd;exact⟨fun hg=>have hG:=Zh (hd.1 rfl) hg;rn_fld_49_2 (ev rfl) (Zs hG),Zn (hd.1 rfl)⟩
    ·intro u w hR hd;exact⟨fun hg=>have hG:=Zh (hd.2.1 rfl) hg;rn_ld_3 (ev ((hd.1 rfl).1 hG)) (d2.kept hR) (Zs hG),Zn (hd.2.1 rfl)⟩
    ·intro u w hR hd;exact⟨fun hg=>have hG:=Zh (hd.1 rfl) hg;rn_fld_49_2 (ev rfl) (Zs hG),Zn (hd.1 rfl)⟩
    ·intro u w hR hd;exact⟨fun hg=>have hG:=Zh (hd.2.1 rfl) hg;rn_ld_3 (ev ((hd.1 rfl).1 hG)) (e2.kept hR) (Zs hG),Zn (hd.2.1 rfl)⟩
    ·intro u w hR hd;exact⟨fun hg=>have hG:=Zh (hd.2.2.1 rfl) hg;rn_neq_3 (ev ((hd.1 rfl).1 hG)) (ev ((hd.2.1 rfl).1 hG)) (Zs hG),Zn (hd.2.2.1 rfl)⟩
    ·intro u w hR hd;exact runs_or2 (ev (hd.1 rfl)) (fun hb=>ev ((hd.2.1 rfl).1 hb)) Zr
    ·intro u w hR hd;exact runs_mv (ev (hd.1 rfl)) Zr
    ·intro u w hR hd;exact⟨fun hg=>have hG:=Zh (hd.1 rfl) hg;rn_fld_49_3 (ev rfl) (Zs hG),Zn (hd.1 rfl)⟩
    ·intro u w hR hd;exact⟨fun hg=>have hG:=Zh (hd.2.1 rfl) hg;rn_ld_33 (ev ((hd.1 rfl).1 hG)) (d3.kept hR) (Zs hG),Zn (hd.2.1 rfl)⟩
    ·intro u w hR hd;exact⟨fun hg=>have hG:=Zh (hd.2.1 rfl) hg;rn_len_33 (ev ((hd.1 rfl).1 hG)) (Zs hG),Zn (hd.2.1 rfl)⟩
    ·intro u w hR hd;exact⟨fun hg=>have hG:=Zh (hd.1 rfl) hg;rn_fld_49_3 (ev rfl) (Zs hG),Zn (hd.1 rfl)⟩
    ·intro u w hR hd;exact⟨fun hg=>have hG:=Zh (hd.2.1 rfl) hg;rn_ld_33 (ev ((hd.1 rfl).1 hG)) (e3.kept hR) (Zs hG),Zn (hd.2.1 rfl)⟩
    ·intro u w hR hd;exact⟨fun hg=>have hG:=Zh (hd.2.1 rfl) hg;rn_len_33 (ev ((hd.1 rfl).1 hG)) (Zs hG),Zn (hd.2.1 rfl)⟩
    ·intro u w hR hd;exact⟨fun hg=>have hG:=Zh (hd.2.2.1 rfl) hg;rn_neq_3 (ev ((hd.1 rfl).1 hG)) (ev ((hd.2.1 rfl).1 hG)) (Zs hG),Zn (hd.2.2.1 rfl)⟩
    ·intro u w hR hd;exact runs_or2 (ev (hd.1 rfl)) (fun hb=>ev ((hd.2.1 rfl).1 hb)) Zr
    ·intro u w hR hd;exact runs_mv (ev (hd.1 rfl)) Zr
    ·intro u w hR hd;exact⟨fun hg=>have hG:=Zh (hd.1 rfl) hg;rn_fld_49_4 (ev rfl) (Zs hG),Zn (hd.1 rfl)⟩
    ·intro u w hR hd;exact⟨fun hg=>have hG:=Zh (hd.2.1 rfl) hg;rn_ld_40 (ev ((hd.1 rfl).1 hG)) (d4.kept hR) (Zs hG),Zn (hd.2.1 rfl)⟩
    ·intro u w hR hd;exact⟨fun hg=>have hG:=Zh (hd.1 rfl) hg;rn_fld_49_4 (ev rfl) (Zs hG),Zn (hd.1 rfl)⟩
    ·intro u w hR hd;exact⟨fun hg=>have hG:=Zh (hd.2.1 rfl) hg;rn_ld_40 (ev ((hd.1 rfl).1 hG)) (e4.kept hR) (Zs hG),Zn (hd.2.1 rfl)⟩
    ·intro u w hR hd;exact⟨fun hg=>have hG:=Zh (hd.2.2.1 rfl) hg;runs_c2 enters_qs (ev ((hd.1 rfl).1 hG)) (ev ((hd.2.1 rfl).1 hG)) (callp (fun _ e=>⟨fun _=>e,fun hn=>absurd hG hn⟩) (HIY.out _ (HGV.out.trans hR))),Zn (hd.2.2.1 rfl)⟩
    ·intro u w hR hd;exact⟨fun hg=>have hG:=Zh (hd.2.1 rfl) hg;runs_nt (ev ((hd.1 rfl).1 hG)) (Zs hG),Zn (hd.2.1 rfl)⟩
    ·intro u w hR hd;exact runs_or2 (ev (hd.1 rfl)) (fun hb=>ev ((hd.2.1 rfl).1 hb)) Zr
    ·intro u w hR hd;exact runs_mv (ev (hd.1 rfl)) Zr
    ·intro u w hR hd;exact⟨fun hg=>have hG:=Zh (hd.1 rfl) hg;rn_fld_49_5 (ev rfl) (Zs hG),Zn (hd.1 rfl)⟩
    ·intro u w hR hd;exact⟨fun hg=>have hG:=Zh (hd.2.1 rfl) hg;rn_ld_40 (ev ((hd.1 rfl).1 hG)) (d5.kept hR) (Zs hG),Zn (hd.2.1 rfl)⟩
    ·intro u w hR hd;exact⟨fun hg=>have hG:=Zh (hd.1 rfl) hg;rn_fld_49_5 (ev rfl) (Zs hG),Zn (hd.1 rfl)⟩
    ·intro u w hR hd;exact⟨fun hg=>have hG:=Zh (hd.2.1 rfl) hg;rn_ld_40 (ev ((hd.1 rfl).1 hG)) (e5.kept hR) (Zs hG),Zn (hd.2.1 rfl)⟩
    ·intro u w hR hd;exact⟨fun hg=>have hG:=Zh (hd.2.2.1 rfl) hg;runs_c2 enters_qs (ev ((hd.1 rfl).1 hG)) (ev ((hd.2.1 rfl).1 hG)) (callp (fun _ e=>⟨fun _=>e,fun hn=>absurd hG hn⟩) (HIE.out _ (HGV.out.trans hR))),Zn (hd.2.2.1 rfl)⟩
    ·intro u w hR hd;exact⟨fun hg=>have hG:=Zh (hd.2.1 rfl) hg;runs_nt (ev ((hd.1 rfl).1 hG)) (Zs hG),Zn (hd.2.1 rfl)⟩
    ·intro u w hR hd;exact runs_or2 (ev (hd.1 rfl)) (fun hb=>ev ((hd.2.1 rfl).1 hb)) Zr
    ·intro u w4 hR hh
     have he:u 68=.bool (((((((ka) != (kb))||(!decide ((sa)=(sb))))||((na) != (nb)))||((((ra.length:Nat):Int)) != (((rb.length:Nat):Int))))||(!(m1)))||(!(m2))):=hh 43 (by decide)
     have hE:(((((((ka) != (kb))||(!decide ((sa)=(sb))))||((na) != (nb)))||((((ra.length:Nat):Int)) != (((rb.length:Nat):Int))))||(!(m1)))||(!(m2)))=!eqHS ka sa na ra.length kb sb nb rb.length m1 m2:=by rw [eqHS,Bool.not_not]
     rw [hE] at he
     simp only [mixA,mixL,zz9,zz0,he]
     have HG4:Hid (Grew V w4):=zh hR
     have HGw:=zh (HGV.out.trans hR)
     clear hh he hE hR d0 d1 d2 d3 d4 d5 e0 e1 e2 e3 e4 e5 HIY HIE
     cases hh:eqHS ka sa na ra.length kb sb nb rb.length m1 m2 with
     | false =>
       rw [hh,Bool.false_and] at HNO
       have HN2:=zh (HNO.out rfl)
       clear HNO hh HQ
       go_wp2
       go_ret
       exact⟨ret_bool HN2.out.symm,HGw.out⟩
     | true =>
       have hlen:ra.length=rb.length:=by
        rw [eqHS,Bool.not_eq_true'] at hh
        simp only [Bool.or_eq_false_iff] at hh
        have:=hh.1.1.2
        simp at this
        omega
       rw [hh,Bool.true_and] at HNO HQ
       have HLA:=zh hlen
       have r3:w4.cell? ⟨S,3,none⟩=some (.slice paa ra.length caa):=(HBS.out.grew HG4.out).cell 3
       clear hh hlen
       go_wp2
       clear r3
       go_loopg [8,72] ra.length (fun gg jv iv wr=>∃(i:Nat),iv=.int .i64 (i:Int)∧i≤ra.length∧gg=ra.length - i∧Hid (eqXs (ra.take i) (rb.take i)=true)∧Hid (Grew V wr))
       case atStart=>exact⟨0,rfl,Nat.zero_le _,rfl,zh (eqXs_nil _),HG4⟩
       case round =>
        obtain ⟨i,rfl,hi,rfl,HJ,HGq⟩:=hrel
        have HG:=zh (HGV.out.trans HGq.out)
        by_cases hlt:i < ra.length
        ·have hlt2:i < rb.length:=by have:=HLA.out;omega
         have hta:=List.take_succ_eq_append_getElem hlt
         have htb:=List.take_succ_eq_append_getElem hlt2
         have hno:=fun h=>eqXs_no ra rb i hlt hlt2 h
         have HLT2:=zh (Nat.succ_le_of_lt hlt)
         have HL3:=zh (And.intro hlt hlt2)
         obtain ⟨bu,ou,pu,cu,hpu,hbu,hau,hcu⟩:=HAA.out.get i hlt
         generalize ra[i]'hlt=xu at hbu hau hcu hno hta
         obtain ⟨ku,su,vu,o_u,ru,qu⟩:=xu
         replace hau:XL A w pu cu ru:=hau
         replace hcu:∀i_ u_,(xdc ⟨ku,su,vu,o_u,pu,ru.length,cu,qu⟩)[i_]?=some u_→w.cell? ⟨bu,ou+i * 6+i_,none⟩=some u_:=hcu
         obtain ⟨bv,ov,pv,cv,hpv,hbv,hav,hcv⟩:=HAB.out.get i hlt2
         generalize rb[i]'hlt2=xv at hbv hav hcv hno htb
         obtain ⟨kv,sv,vv,o_v,rv,qv⟩:=xv
         replace hav:XL B w pv cv rv:=hav
         replace hcv:∀i_ u_,(xdc ⟨kv,sv,vv,o_v,pv,rv.length,cv,qv⟩)[i_]?=some u_→w.cell? ⟨bv,ov+i * 6+i_,none⟩=some u_:=hcv
         obtain ⟨dd,hd⟩:∃d,eqX ⟨ku,su,vu,o_u,ru,qu⟩ ⟨kv,sv,vv,o_v,rv,qv⟩=d:=⟨_,rfl⟩
         have HD:=zh hd
         have HTU:=zh hta
         have HTV:=zh htb
         have HN3:=zh (fun(h:dd=false)=>(show b=false from HNO.out (hno (hd.trans h))))
         have HIH:=zh (fun W (hW:Grew w W)=>(show Calls Tryz.prog 24 #[xv ku su vu o_u pu ru.length cu qu,xv kv sv vv o_v pv rv.length cv qv] W fun e w'=>e=.returned (.bool dd)∧Grew W w' from hd ▸ eqx_any ⟨ku,su,vu,o_u,ru,qu⟩ ⟨kv,sv,vv,o_v,rv,qv⟩ A B W pu pv cu cv (hau.kept hW) (hav.kept hW)))
         subst hpu
         subst hpv
         have hbS:=HBS.out.grew (HGq.out.trans (Grew.refl wr).drw)
         have hbU:=HBU.out.grew (HGq.out.trans (Grew.refl wr).drw)
         have d3:Atv ⟨S,3,none⟩ (.slice (some ⟨bu,ou,none⟩) ra.length caa) wr.drew:=hbS.atv 3 rfl
         have e3:Atv ⟨U,3,none⟩ (.slice (some ⟨bv,ov,none⟩) rb.length cab) wr.drew:=hbU.atv 3 rfl
         have f0:Atv ⟨bu,ou+i * 6,none⟩ (.int .i64 ku) wr.drew:=Atv.kept (hcu 0 _ rfl) (HG.out.trans (Grew.refl wr).drw)
         have f1:Atv ⟨bu,ou+i * 6+1,none⟩ (.string su) wr.drew:=Atv.kept (hcu 1 _ rfl) (HG.out.trans (Grew.refl wr).drw)
         have f2:Atv ⟨bu,ou+i * 6+2,none⟩ (.int .i16 vu) wr.drew:=Atv.kept (hcu 2 _ rfl) (HG.out.trans (Grew.refl wr).drw)
         have f3:Atv ⟨bu,ou+i * 6+3,none⟩ (.int .i64 o_u) wr.drew:=Atv.kept (hcu 3 _ rfl) (HG.out.trans (Grew.refl wr).drw)
         have f4:Atv ⟨bu,ou+i * 6+4,none⟩ (.slice pu ru.length cu) wr.drew:=Atv.kept (hcu 4 _ rfl) (HG.out.trans (Grew.refl wr).drw)
         have f5:Atv ⟨bu,ou+i * 6+5,none⟩ (.int .i64 qu) wr.drew:=Atv.kept (hcu 5 _ rfl) (HG.out.trans (Grew.refl wr).drw)
         have h0:Atv ⟨bv,ov+i * 6,none⟩ (.int .i64 kv) wr.drew:=Atv.kept (hcv 0 _ rfl) (HG.out.trans (Grew.refl wr).drw)
         have h1:Atv ⟨bv,ov+i * 6+1,none⟩ (.string sv) wr.drew:=Atv.kept (hcv 1 _ rfl) (HG.out.trans (Grew.refl wr).drw)
         have h2:Atv ⟨bv,ov+i * 6+2,none⟩ (.int .i16 vv) wr.drew:=Atv.kept (hcv 2 _ rfl) (HG.out.trans (Grew.refl wr).drw)
         have h3:Atv ⟨bv,ov+i * 6+3,none⟩ (.int .i64 o_v) wr.drew:=Atv.kept (hcv 3 _ rfl) (HG.out.trans (Grew.refl wr).drw)
         have h4:Atv ⟨bv,ov+i * 6+4,none⟩ (.slice pv rv.length cv) wr.drew:=Atv.kept (hcv 4 _ rfl) (HG.out.trans (Grew.refl wr).drw)
         have h5:Atv ⟨bv,ov+i * 6+5,none⟩ (.int .i64 qv) wr.drew:=Atv.kept (hcv 5 _ rfl) (HG.out.trans (Grew.refl wr).drw)
         clear hta htb hno hd hau hav hcu hcv hbu hbv hbS hbU hlt2
         go_upto_region 12 with fail
         have hlt2:i < rb.length:=HL3.out.2
         refine wp_posts [some 75,some 76,some 77,some 78,some 79,some 80,some 81,some 82,some 83,some 84,some 85,some 86] (Zfg (Zfg (Zfd (Zfb (Zfa (Ztd (Ztc (Zfb [])))))))) [fun v _=>v=.pointer (some ⟨S,3,none⟩),fun v _=>v=.slice (some ⟨bu,ou,none⟩) (ra.length) (caa),fun v _=>v=.int .i64 (((i:Nat):Int)),fun v _=>v=.pointer (some ⟨bu,ou+i * 6,none⟩),fun v _=>v=.agg #[.int .i64 (ku),.string su,.int .i16 (vu),.int .i64 (o_u),.slice pu ru.length cu,.int .i64 (qu)],fun v _=>v=.pointer (some ⟨U,3,none⟩),fun v _=>v=.slice (some ⟨bv,ov,none⟩) (rb.length) (cab),fun v _=>v=.int .i64 (((i:Nat):Int)),fun v _=>v=.pointer (some ⟨bv,ov+i * 6,none⟩),fun v _=>v=.agg #[.int .i64 (kv),.string sv,.int .i16 (vv),.int .i64 (o_v),.slice pv rv.length cv,.int .i64 (qv)],fun v _=>v=.bool (dd),fun v _=>v=.bool (!(dd))] (by kernel_rfl) (by kernel_rfl) rfl ?_ ⟨?_,?_,?_,?_,?_,?_,?_,?_,?_,?_,?_,?_,trivial⟩ ?_
         ·exact⟨Zi,Zi,Zi,Zi,Zi,Zi,Zi,Zi,Zi,Zi,Zi,Zi,trivial⟩
         ·intro u w hR hd;exact rn_fld_49_3 (ev rfl) Zr
         ·intro u w hR hd;exact rn_ld_33 (ev (hd.1 rfl)) (d3.kept hR) Zr
         ·intro u w hR hd;exact runs_mv (ev rfl) Zr
         ·intro u w hR hd;exact rn_idx_33 (i) (ev (hd.1 rfl)) (ev (hd.2.1 rfl)) (by omega) Zr
         ·intro u w hR hd;exact rn_ld_35 (ev (hd.1 rfl)) (f0.kept hR) (f1.kept hR) (f2.kept hR) (f3.kept hR) (f4.kept hR) (f5.kept hR) Zr
         ·intro u w hR hd;exact rn_fld_49_3 (ev rfl) Zr
         ·intro u w hR hd;exact rn_ld_33 (ev (hd.1 rfl)) (e3.kept hR) Zr
         ·intro u w hR hd;exact runs_mv (ev rfl) Zr
         ·intro u w hR hd;exact rn_idx_33 (i) (ev (hd.1 rfl)) (ev (hd.2.1 rfl)) (by omega) Zr
         ·intro u w hR hd;exact rn_ld_35 (ev (hd.1 rfl)) (h0.kept hR) (h1.kept hR) (h2.kept hR) (h3.kept hR) (h4.kept hR) (h5.kept hR) Zr
         ·intro u w hR hd;exact runs_c2 enters_eq (ev (hd.1 rfl)) (ev (hd.2.1 rfl)) (callp (fun _ e=>e) (HIH.out _ (HG.out.trans ((Grew.refl _).drw.trans hR))))
         ·intro u w hR hd;exact runs_nt (ev (hd.1 rfl)) Zr
         ·intro u w4 hR hh
          have he:u 86=.bool (!(dd)):=hh 11 (by decide)
          simp only [mixA,mixL,zz9,zz0,he]
          have HG5:Hid (Grew V w4):=zh (HGq.out.trans ((Grew.refl wr).drw.trans hR))
          clear hh he hR d3 e3 f0 f1 f2 f3 f4 f5 h0 h1 h2 h3 h4 h5
          cases dd with
          | false =>
            have HN4:=zh (HN3.out rfl)
            clear HN3
            go_wp2
            go_ret
            exact⟨ret_bool HN4.out.symm,HGV.out.trans HG5.out⟩
          | true =>
            clear HN3
            go_wp2
            go_roundg (ra.length - (i+1))
            case measure=>have:=HLT2.out;omega
            case rel=>exact⟨i+1,by go_num,HLT2.out,rfl,zh (by rw [HTU.out,HTV.out,eqXs_snoc _ _ _ _ (by rw [List.length_take,List.length_take,HLA.out]),HJ.out,HD.out];rfl),HG5⟩
        ·obtain rfl:i=ra.length:=by omega
         rw [List.take_length,HLA.out,List.take_length] at HJ
         have HQ2:=zh (HQ.out.trans HJ.out)
         clear HNO HQ HJ
         go_wp2
         go_roundg (l.length - (j+1))
         case measure=>have:=HLT.out;omega
         case rel=>exact⟨j+1,by go_num,HLT.out,rfl,zh (by rw [HTA.out,HTB.out,eqSz_snoc _ _ _ _ (by rw [List.length_take,List.length_take,HLE.out]),HI.out,HQ2.out];rfl),HG⟩
   ·obtain rfl:j=l.length:=by omega
    rw [List.take_length,HLE.out,List.take_length] at HI
    go_wp2
    go_ret
    exact⟨ret_bool (HI.out.symm.trans HOK.out),HG.out⟩
 ·rw [decide_eq_false hlen,Bool.false_and] at hb
  have hne:((l.length:Int) != (m.length:Int))=true:=by simp;omega
  go_enter Tryz.func30,Tryz.ntmps30
  go_wp2
  go_ret
  exact⟨ret_bool hb,Grew.refl _⟩
section
variable {dst:Option Tmp}{ty:TypeId}{pos:String}{after:Array Edge}{g:Option (Nat × Bool)}{a:Act}{w:World}{T:Value→World→Prop}
theorem rn_idx_24 {x y:Operand}{b o n c:Nat}(i:Nat) (hx:a.eval x=.slice (some ⟨b,o,none⟩) n c) (hy:a.eval y=.int .i64 (i:Int)) (hi:i < n) (h:T (.pointer (some ⟨b,o+i,none⟩)) w):Runs Tryz.prog ⟨dst,.indexAddr 24 x y,ty,pos,after,g⟩ a w T:=by
 have hi2:(i:Int) < (n:Int):=by omega
 refine Runs.value (v:=.pointer (some ⟨b,o+i,none⟩)) (w':=w) ?_ h
 simp only [execOp,hx,hy]
 go_simp
end
theorem take_ne {α:Type}{l m:List α}{j:Nat}(h1:j < l.length) (h2:j < m.length) (h:l[j]≠m[j]):l≠m:=fun e=>h (by subst e;rfl)
set_option maxHeartbeats 16000000 in
theorem names_any (A B:Nat→Prop) (w:World) (l m:List ByteArray) (p p':Option Addr) (c c':Nat) (hx:InN FlatAt 1 strc A w p l.length c l) (hy:InN FlatAt 1 strc B w p' m.length c' m) :
 Calls Tryz.prog 74 #[.slice p l.length c,.slice p' m.length c'] w fun e w'=>e=.returned (.bool (decide (l=m)))∧Grew w w':=by
 have HX:=zh hx
 have HY:=zh hy
 have hcap:l.length≤c∧m.length≤c':=⟨(hx.cap (hangsF encStr)).1,(hy.cap (hangsF encStr)).1⟩
 have hmax:=And.intro (hx.cap (hangsF encStr)).2.1 (hy.cap (hangsF encStr)).2.1
 clear hx hy
 obtain ⟨b,hb⟩:∃b,decide (l=m)=b:=⟨_,rfl⟩
 rw [hb]
 have HOK:=zh hb
 clear hb
 by_cases hlen:l.length=m.length
 ·have HLE:=zh hlen
  have hne:((l.length:Int) != (m.length:Int))=false:=by rw [hlen];simp
  clear hlen
  go_enter Tryz.func74,Tryz.ntmps74
  go_wp2
  go_loopg [5,13] l.length (fun gg v5 iv wr=>∃(j:Nat),iv=.int .i64 (j:Int)∧j≤l.length∧gg=l.length - j∧Hid (l.take j=m.take j)∧Hid (Grew w wr))
  case atStart=>exact⟨0,rfl,Nat.zero_le _,rfl,zh rfl,zh (Grew.refl _)⟩
  case round =>
   obtain ⟨j,rfl,hj,rfl,HI,HG⟩:=hrel
   by_cases hlt:j < l.length
   ·have hlt2:j < m.length:=by have:=HLE.out;omega
    have hta:=List.take_succ_eq_append_getElem hlt
    have htb:=List.take_succ_eq_append_getElem hlt2
    have hno:=fun h=>take_ne hlt hlt2 h
    have HLT:=zh (Nat.succ_le_of_lt hlt)
    have HL2:=zh (And.intro hlt hlt2)
    obtain ⟨ba,oa,rfl,hca⟩:=HX.out.getF j hlt
    obtain ⟨bb,ob,rfl,hcb⟩:=HY.out.getF j hlt2
    generalize l[j]'hlt=sa at hca hta hno
    generalize m[j]'hlt2=sb at hcb htb hno
    have hca':w.cell? ⟨ba,oa+j,none⟩=some (.string sa):=by simpa using hca 0 _ rfl
    have hcb':w.cell? ⟨bb,ob+j,none⟩=some (.string sb):=by simpa using hcb 0 _ rfl
    have d0:Atv ⟨ba,oa+j,none⟩ (.string sa) wr.drew:=Atv.kept hca' (HG.out.trans (Grew.refl wr).drw)
    have e0:Atv ⟨bb,ob+j,none⟩ (.string sb) wr.drew:=Atv.kept hcb' (HG.out.trans (Grew.refl wr).drw)
    have HNO:=zh (fun(h:sa≠sb)=>(show b=false from HOK.out ▸ decide_eq_false (hno h)))
    have HTA:=zh hta
    have HTB:=zh htb
    clear hta htb hno hca hcb hca' hcb' hlt2
    go_upto_region 6 with fail
    have hlt2:j < m.length:=HL2.out.2
    refine wp_posts [some 16,some 17,some 18,some 19,some 20,some 21,some 22,some 23,some 24] zD0 [fun v _=>v=.slice (some ⟨ba,oa,none⟩) (l.length) (c),fun v _=>v=.int .i64 (((j:Nat):Int)),fun v _=>v=.pointer (some ⟨ba,oa+j,none⟩),fun v _=>v=.string sa,fun v _=>v=.slice (some ⟨bb,ob,none⟩) (m.length) (c'),fun v _=>v=.int .i64 (((j:Nat):Int)),fun v _=>v=.pointer (some ⟨bb,ob+j,none⟩),fun v _=>v=.string sb,fun v _=>v=.bool (!decide ((sa)=(sb)))] (by kernel_rfl) (by kernel_rfl) rfl ?_ ⟨?_,?_,?_,?_,?_,?_,?_,?_,?_,trivial⟩ ?_
    ·exact⟨Zi,Zi,Zi,Zi,Zi,Zi,Zi,Zi,Zi,trivial⟩
    ·intro u w hR hd;exact runs_mv (ev rfl) Zr
    ·intro u w hR hd;exact runs_mv (ev rfl) Zr
    ·intro u w hR hd;exact rn_idx_24 (j) (ev (hd.1 rfl)) (ev (hd.2.1 rfl)) (by omega) Zr
    ·intro u w hR hd;exact rn_ld_9 (ev (hd.1 rfl)) (d0.kept hR) Zr
    ·intro u w hR hd;exact runs_mv (ev rfl) Zr
    ·intro u w hR hd;exact runs_mv (ev rfl) Zr
    ·intro u w hR hd;exact rn_idx_24 (j) (ev (hd.1 rfl)) (ev (hd.2.1 rfl)) (by omega) Zr
    ·intro u w hR hd;exact rn_ld_9 (ev (hd.1 rfl)) (e0.kept hR) Zr
    ·intro u w hR hd;exact rn_nes_9 (ev (hd.1 rfl)) (ev (hd.2.1 rfl)) Zr
    ·intro u w4 hR hh
     have he:u 24=.bool (!decide (sa=sb)):=hh 8 (by decide)
     simp only [mixA,mixL,zz9,zz0,he]
     have HG4:Hid (Grew w w4):=zh (HG.out.trans ((Grew.refl wr).drw.trans hR))
     clear hh he hR d0 e0
     by_cases hs:sa=sb
     ·have HS:=zh hs
      rw [decide_eq_true hs]
      clear HNO hs
      go_wp2
      go_roundg (l.length - (j+1))
      case measure=>have:=HLT.out;omega
      case rel=>exact⟨j+1,by go_num,HLT.out,rfl,zh (by rw [HTA.out,HTB.out,HI.out,HS.out]),HG4⟩
     ·have HN2:=zh (HNO.out hs)
      rw [decide_eq_false hs]
      clear HNO hs
      go_wp2
      go_ret
      exact⟨ret_bool HN2.out.symm,HG4.out⟩
   ·obtain rfl:j=l.length:=by omega
    rw [List.take_length,HLE.out,List.take_length] at HI
    go_wp2
    go_ret
    exact⟨ret_bool ((decide_eq_true HI.out).symm.trans HOK.out),HG.out⟩
 ·have hne:((l.length:Int) != (m.length:Int))=true:=by simp;omega
  have hlm:b=false:=HOK.out ▸ decide_eq_false fun e=>hlen (by rw [e])
  go_enter Tryz.func74,Tryz.ntmps74
  go_wp2
  go_ret
  exact⟨ret_bool hlm.symm,Grew.refl _⟩
end Go.Proofs.YtcknpcbkofgdoaaGreatDoor
