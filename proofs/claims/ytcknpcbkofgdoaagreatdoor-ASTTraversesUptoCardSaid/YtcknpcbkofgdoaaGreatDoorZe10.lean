/-
  LAYER 16 (ast), THE PROGRAM: slices.EqualFunc.
  LAYER 16 (ast), THE PROGRAM: equalConst, equalGlobal, equalChannel, EqualExpr.
  LAYER 16 (ast), THE PROGRAM: slices.EqualFunc.
  LAYER 16 (ast), THE PROGRAM: slices.EqualFunc.
  LAYER 16 (ast), THE PROGRAM: equalStmt.
  LAYER 16 (ast), THE PROGRAM: slices.Equal of strings.
-/
import Derived.Test.YtcknpcbkofgdoaaGreatDoorZeShort
import Derived.Test.YtcknpcbkofgdoaaGreatDoorZe05
import Derived.Test.YtcknpcbkofgdoaaGreatDoorZe02
import Derived.Test.YtcknpcbkofgdoaaGreatDoorZe00
import Derived.Deep.LoopGhost
import Derived.Deep.Cut
import Derived.Shelf.Abstract
import Derived.Test.YtcknpcbkofgdoaaGreatDoorZe01
import Derived.Test.YtcknpcbkofgdoaaGreatDoorZe06
namespace Go.Proofs.YtcknpcbkofgdoaaGreatDoor
open Go Go.RowKit Go.IntWalk
set_option linter.unusedSimpArgs false
set_option linter.unusedVariables false
set_option maxRecDepth 8000
def all2 {α:Type}(R:α→α→Bool):List α→List α→Bool
 | x :: xs,y :: ys=>R x y&&all2 R xs ys
 | _,_=>true
def eqL {α:Type}(R:α→α→Bool) (a b:List α):Bool:=decide (a.length=b.length)&&all2 R a b
section
variable {α:Type}{R:α→α→Bool}
theorem all2_snoc:∀(a b:List α) (x y:α),a.length=b.length→all2 R (a++[x]) (b++[y])=(all2 R a b&&R x y)
 | [],[],x,y,_=>by simp [all2]
 | u :: a,v :: b,x,y,h=>by
   rw [List.cons_append,List.cons_append,all2,all2,all2_snoc a b x y (by simpa using h),Bool.and_assoc]
theorem all2_no:∀(a b:List α) (j:Nat) (hj:j < a.length) (hj':j < b.length),R a[j] b[j]=false→all2 R a b=false
 | x :: a,y :: b,0,_,_,h=>by
   rw [all2]
   simp only [zz2] at h
   rw [h,Bool.false_and]
 | x :: a,y :: b,j+1,h1,h2,h=>by
   rw [all2,all2_no a b j (by simpa using h1) (by simpa using h2) (by simpa using h),Bool.and_false]
end
theorem eqXs_all2:∀a b:List Xp,eqXs a b=all2 eqX a b
 | [],_=>by simp [eqXs,all2]
 | _ :: _,[]=>by simp [eqXs,all2]
 | x :: a,y :: b=>by rw [eqXs,all2,eqXs_all2 a b]
theorem eqSz_all2:∀a b:List Sm,eqSz a b=all2 eqS a b
 | [],_=>by simp [eqSz,all2]
 | _ :: _,[]=>by simp [eqSz,all2]
 | x :: a,y :: b=>by rw [eqSz,all2,eqSz_all2 a b]
theorem eqSs_eqL (a b:List Sm):eqSs a b=eqL eqS a b:=by rw [eqSs,eqL,eqSz_all2]
theorem en_eC:Enters Tryz.prog 66:=fun args w=>by go_simp
theorem en_eG:Enters Tryz.prog 68:=fun args w=>by go_simp
theorem en_eH:Enters Tryz.prog 71:=fun args w=>by go_simp
theorem en_eT:Enters Tryz.prog 73:=fun args w=>by go_simp
theorem en_eS:Enters Tryz.prog 118:=fun args w=>by go_simp
theorem en_eX:Enters Tryz.prog 23:=fun args w=>by go_simp
theorem en_sl:Enters Tryz.prog 69:=fun args w=>by go_simp
theorem en_efX:Enters Tryz.prog 75:=fun args w=>by go_simp
theorem en_efS:Enters Tryz.prog 117:=fun args w=>by go_simp
theorem en_efT:Enters Tryz.prog 72:=fun args w=>by go_simp
theorem en_efC:Enters Tryz.prog 65:=fun args w=>by go_simp
theorem en_efG:Enters Tryz.prog 67:=fun args w=>by go_simp
theorem en_efH:Enters Tryz.prog 70:=fun args w=>by go_simp
set_option maxHeartbeats 8000000 in
theorem eqfX_any (g:FuncId) (cb:Array Value) (eg:∀args w,(callFunc g args).run Tryz.prog w=.ok (.enter g args) w) (l m:List Xp) (R:Xp→Xp→Bool) (A B2:Nat→Prop) (w:World) (p p2:Option Addr) (c c2:Nat) (hx:XL A w p c l) (hy:XL B2 w p2 c2 m)
 (hf:∀x ∈ l,∀y ∈ m,∀(p_:Option Addr) (c_:Nat) (p2_:Option Addr) (c2_:Nat) (W:World),XL A W p_ c_ x.ar→x.s.size≤1048576∧x.v≤32767→XL B2 W p2_ c2_ y.ar→y.s.size≤1048576∧y.v≤32767→Grew w W→Calls Tryz.prog g (#[xv x.k x.s x.v x.o p_ x.ar.length c_ x.q,xv y.k y.s y.v y.o p2_ y.ar.length c2_ y.q]++cb) W fun e w'=>e=.returned (.bool (R x y))∧Grew W w') :
 Calls Tryz.prog 75 #[.slice p l.length c,.slice p2 m.length c2,.func (.func g) #[] cb] w fun e w'=>e=.returned (.bool (eqL R l m))∧Grew w w':=by
 have hcap:l.length≤c∧m.length≤c2:=⟨hx.cap.1,hy.cap.1⟩
 have hmax:=And.intro hx.cap.2.1 hy.cap.2.1
 by_cases hlen:l.length=m.length
 ·have HX:=zh hx
  have HY:=zh hy
  have HF:=zh hf
  rw [eqL,decide_eq_true hlen,Bool.true_and]
  obtain ⟨b,hb⟩:∃b,all2 R l m=b:=⟨_,rfl⟩
  have HOK:=zh hb
  have HLE:=zh hlen
  have HFALSE:=zh (fun(j:Nat) (hj:j < l.length) (hj':j < m.length) (h:R l[j] m[j]=false)=>(show b=false from hb ▸ all2_no l m j hj hj' h))
  rw [hb]
  have hle2:(((l.length:Nat):Int) != ((m.length:Nat):Int))=false:=by rw [hlen];simp
  clear hx hy hf hb hlen
  go_enter Tryz.func75,Tryz.ntmps75
  go_wp2
  go_loopg [7,8,9,17] l.length (fun gg iv7 xv_ yv_ iv wr=>∃(j:Nat),iv=.int .i64 (j:Int)∧j≤l.length∧gg=l.length - j∧Hid (all2 R (l.take j) (m.take j)=true)∧Hid (Grew w wr))
  case atStart=>exact⟨0,rfl,Nat.zero_le _,rfl,zh rfl,zh (Grew.refl _)⟩
  case round =>
   obtain ⟨j,rfl,hj,rfl,HI,HG⟩:=hrel
   by_cases hlt:j < l.length
   ·have hlt2:j < m.length:=by rw [← HLE.out];exact hlt
    have HFJ:=zh (HFALSE.out j hlt hlt2)
    have HTL:Hid ((l.take j).length=(m.take j).length):=zh (by rw [List.length_take,List.length_take,HLE.out])
    obtain ⟨bz,oz,pz,cz,rfl,hbz,haz,hcz⟩:=HX.out.get j hlt
    have hmz:=List.getElem_mem hlt
    have hnz:=nXs_mem hmz
    have htz:=List.take_succ_eq_append_getElem hlt
    have HLz:=zh (Nat.succ_le_of_lt hlt)
    generalize l[j]=xz at *
    obtain ⟨kz,sz,vz,o_z,rz,qz⟩:=xz
    replace hbz:sz.size≤1048576∧vz≤32767:=hbz.2
    have HTz:=zh htz
    have HAz:Hid (XL A w pz cz rz):=zh haz
    have hcapz:rz.length≤cz:=haz.cap.1
    have hmaxz:=haz.cap.2.1
    replace hcz:∀i_ u_,(xdc ⟨kz,sz,vz,o_z,pz,rz.length,cz,qz⟩)[i_]?=some u_→wr.cell? ⟨bz,oz+j * 6+i_,none⟩=some u_:=fun i_ u_ h_=>Atv.kept (hcz i_ u_ h_) HG.out
    have cz0:wr.cell? ⟨bz,oz+j * 6,none⟩=some (.int .i64 kz):=by simpa using hcz 0 _ rfl
    have cz1:wr.cell? ⟨bz,oz+j * 6+1,none⟩=some (.string sz):=hcz 1 _ rfl
    have cz2:wr.cell? ⟨bz,oz+j * 6+2,none⟩=some (.int .i16 vz):=hcz 2 _ rfl
    have cz3:wr.cell? ⟨bz,oz+j * 6+3,none⟩=some (.int .i64 o_z):=hcz 3 _ rfl
    have cz4:wr.cell? ⟨bz,oz+j * 6+4,none⟩=some (.slice pz rz.length cz):=hcz 4 _ rfl
    have cz5:wr.cell? ⟨bz,oz+j * 6+5,none⟩=some (.int .i64 qz):=hcz 5 _ rfl
    clear hcz haz htz
    obtain ⟨bu,ou,pu,cu,rfl,hbu,hau,hcu⟩:=HY.out.get j hlt2
    have hmu:=List.getElem_mem hlt2
    have hnu:=nXs_mem hmu
    have htu:=List.take_succ_eq_append_getElem hlt2
    have HLu:=zh (Nat.succ_le_of_lt hlt2)
    generalize m[j]=xu at *
    obtain ⟨ku,su,vu,o_u,ru,qu⟩:=xu
    replace hbu:su.size≤1048576∧vu≤32767:=hbu.2
    have HTu:=zh htu
    have HAu:Hid (XL B2 w pu cu ru):=zh hau
    have hcapu:ru.length≤cu:=hau.cap.1
    have hmaxu:=hau.cap.2.1
    replace hcu:∀i_ u_,(xdc ⟨ku,su,vu,o_u,pu,ru.length,cu,qu⟩)[i_]?=some u_→wr.cell? ⟨bu,ou+j * 6+i_,none⟩=some u_:=fun i_ u_ h_=>Atv.kept (hcu i_ u_ h_) HG.out
    have cu0:wr.cell? ⟨bu,ou+j * 6,none⟩=some (.int .i64 ku):=by simpa using hcu 0 _ rfl
    have cu1:wr.cell? ⟨bu,ou+j * 6+1,none⟩=some (.string su):=hcu 1 _ rfl
    have cu2:wr.cell? ⟨bu,ou+j * 6+2,none⟩=some (.int .i16 vu):=hcu 2 _ rfl
    have cu3:wr.cell? ⟨bu,ou+j * 6+3,none⟩=some (.int .i64 o_u):=hcu 3 _ rfl
    have cu4:wr.cell? ⟨bu,ou+j * 6+4,none⟩=some (.slice pu ru.length cu):=hcu 4 _ rfl
    have cu5:wr.cell? ⟨bu,ou+j * 6+5,none⟩=some (.int .i64 qu):=hcu 5 _ rfl
    clear hcu hau htu
    have hblu:bu < wr.heap.size:=World.block_lt_of_cell? _ _ cu0
    obtain ⟨d,hd⟩:∃d,R ⟨kz,sz,vz,o_z,rz,qz⟩ ⟨ku,su,vu,o_u,ru,qu⟩=d:=⟨_,rfl⟩
    have HD:=zh hd
    have HC:=zh (fun W (hW:Grew w W)=>(show Calls Tryz.prog g (#[xv kz sz vz o_z pz rz.length cz qz,xv ku su vu o_u pu ru.length cu qu]++cb) W fun e w'=>e=.returned (.bool d)∧Grew W w' from hd ▸ HF.out ⟨kz,sz,vz,o_z,rz,qz⟩ hmz ⟨ku,su,vu,o_u,ru,qu⟩ hmu pz cz pu cu _ (HAz.out.kept hW) hbz (HAu.out.kept hW) hbu hW))
    have HNO:=zh (fun(h:d=false)=>HFJ.out (hd.trans h))
    have hltu:(j:Int) < (m.length:Int):=by omega
    clear hmz hmu hd HF HFALSE HFJ
    cases d with
    | false =>
      have HN2:Hid (b=false):=zh (HNO.out rfl)
      clear HNO
      go_wp2_with (go_at_fn g;refine(HC.out _ ((HG.out.alloc _).alloc _)).mono ?_;rintro e w1 ⟨rfl,g1⟩;have HG1:=zh (((HG.out.alloc _).alloc _).trans g1);clear g1)
      go_ret
      exact⟨ret_bool HN2.out.symm,HG1.out⟩
    | true =>
      go_wp2_with (go_at_fn g;refine(HC.out _ ((HG.out.alloc _).alloc _)).mono ?_;rintro e w1 ⟨rfl,g1⟩;have HG1:=zh (((HG.out.alloc _).alloc _).trans g1);clear g1)
      go_roundg (l.length - (j+1))
      case measure=>have:=HLz.out;omega
      case rel=>exact⟨j+1,by go_num,HLz.out,rfl,zh (by rw [HTz.out,HTu.out,all2_snoc _ _ _ _ HTL.out,HI.out,Bool.true_and];exact HD.out),HG1⟩
   ·obtain rfl:j=l.length:=by omega
    rw [List.take_length,HLE.out,List.take_length] at HI
    go_wp2
    go_ret
    exact⟨ret_bool (HI.out.symm.trans HOK.out),HG.out⟩
 ·have he:eqL R l m=false:=by rw [eqL,decide_eq_false hlen,Bool.false_and]
  rw [he]
  have hle2:(((l.length:Nat):Int) != ((m.length:Nat):Int))=true:=by rw [bne_iff_ne];omega
  clear he hx hy hf hlen
  go_enter Tryz.func75,Tryz.ntmps75
  go_wp2
  go_ret
  exact⟨rfl,Grew.refl _⟩
set_option maxHeartbeats 8000000 in
theorem eqfC_any (g:FuncId) (cb:Array Value) (eg:∀args w,(callFunc g args).run Tryz.prog w=.ok (.enter g args) w) (l m:List Cn) (R:Cn→Cn→Bool) (A B2:Nat→Prop) (w:World) (p p2:Option Addr) (c c2:Nat) (hx:InN FlatAt 3 cnc A w p l.length c l) (hy:InN FlatAt 3 cnc B2 w p2 m.length c2 m)
 (hf:∀x ∈ l,∀y ∈ m,∀(W:World),Grew w W→Calls Tryz.prog g (#[.agg #[.string x.s,.int .i16 x.v,.int .i64 x.q],.agg #[.string y.s,.int .i16 y.v,.int .i64 y.q]]++cb) W fun e w'=>e=.returned (.bool (R x y))∧Grew W w') :
 Calls Tryz.prog 65 #[.slice p l.length c,.slice p2 m.length c2,.func (.func g) #[] cb] w fun e w'=>e=.returned (.bool (eqL R l m))∧Grew w w':=by
 have hcap:=And.intro (hx.cap (hangsF encCn)) (hy.cap (hangsF encCn))
 by_cases hlen:l.length=m.length
 ·have HX:=zh hx
  have HY:=zh hy
  have HF:=zh hf
  rw [eqL,decide_eq_true hlen,Bool.true_and]
  obtain ⟨b,hb⟩:∃b,all2 R l m=b:=⟨_,rfl⟩
  have HOK:=zh hb
  have HLE:=zh hlen
  have HFALSE:=zh (fun(j:Nat) (hj:j < l.length) (hj':j < m.length) (h:R l[j] m[j]=false)=>(show b=false from hb ▸ all2_no l m j hj hj' h))
  rw [hb]
  have hle2:(((l.length:Nat):Int) != ((m.length:Nat):Int))=false:=by rw [hlen];simp
  clear hx hy hf hb hlen
  go_enter Tryz.func65,Tryz.ntmps65
  go_wp2
  go_loopg [7,8,9,17] l.length (fun gg iv7 xv_ yv_ iv wr=>∃(j:Nat),iv=.int .i64 (j:Int)∧j≤l.length∧gg=l.length - j∧Hid (all2 R (l.take j) (m.take j)=true)∧Hid (Grew w wr))
  case atStart=>exact⟨0,rfl,Nat.zero_le _,rfl,zh rfl,zh (Grew.refl _)⟩
  case round =>
   obtain ⟨j,rfl,hj,rfl,HI,HG⟩:=hrel
   by_cases hlt:j < l.length
   ·have hlt2:j < m.length:=by rw [← HLE.out];exact hlt
    have HFJ:=zh (HFALSE.out j hlt hlt2)
    have HTL:Hid ((l.take j).length=(m.take j).length):=zh (by rw [List.length_take,List.length_take,HLE.out])
    obtain ⟨bz,oz,rfl,hcz⟩:=HX.out.getF j hlt
    have hmz:=List.getElem_mem hlt
    have htz:=List.take_succ_eq_append_getElem hlt
    have HLz:=zh (Nat.succ_le_of_lt hlt)
    generalize l[j]=xz at *
    obtain ⟨sz,vz,qz⟩:=xz
    have HTz:=zh htz
    replace hcz:∀i_ u_,([.string sz,.int .i16 vz,.int .i64 qz]:List Value)[i_]?=some u_→wr.cell? ⟨bz,oz+j * 3+i_,none⟩=some u_:=fun i_ u_ h_=>Atv.kept (hcz i_ u_ h_) HG.out
    have cz0:wr.cell? ⟨bz,oz+j * 3,none⟩=some (.string sz):=by simpa using hcz 0 _ rfl
    have cz1:wr.cell? ⟨bz,oz+j * 3+1,none⟩=some (.int .i16 vz):=hcz 1 _ rfl
    have cz2:wr.cell? ⟨bz,oz+j * 3+2,none⟩=some (.int .i64 qz):=hcz 2 _ rfl
    clear hcz htz
    obtain ⟨bu,ou,rfl,hcu⟩:=HY.out.getF j hlt2
    have hmu:=List.getElem_mem hlt2
    have htu:=List.take_succ_eq_append_getElem hlt2
    have HLu:=zh (Nat.succ_le_of_lt hlt2)
    generalize m[j]=xu at *
    obtain ⟨su,vu,qu⟩:=xu
    have HTu:=zh htu
    replace hcu:∀i_ u_,([.string su,.int .i16 vu,.int .i64 qu]:List Value)[i_]?=some u_→wr.cell? ⟨bu,ou+j * 3+i_,none⟩=some u_:=fun i_ u_ h_=>Atv.kept (hcu i_ u_ h_) HG.out
    have cu0:wr.cell? ⟨bu,ou+j * 3,none⟩=some (.string su):=by simpa using hcu 0 _ rfl
    have cu1:wr.cell? ⟨bu,ou+j * 3+1,none⟩=some (.int .i16 vu):=hcu 1 _ rfl
    have cu2:wr.cell? ⟨bu,ou+j * 3+2,none⟩=some (.int .i64 qu):=hcu 2 _ rfl
    clear hcu htu
    have hblu:bu < wr.heap.size:=World.block_lt_of_cell? _ _ cu0
    obtain ⟨d,hd⟩:∃d,R ⟨sz,vz,qz⟩ ⟨su,vu,qu⟩=d:=⟨_,rfl⟩
    have HD:=zh hd
    have HC:=zh (fun W (hW:Grew w W)=>(show Calls Tryz.prog g (#[.agg #[.string sz,.int .i16 vz,.int .i64 qz],.agg #[.string su,.int .i16 vu,.int .i64 qu]]++cb) W fun e w'=>e=.returned (.bool d)∧Grew W w' from hd ▸ HF.out ⟨sz,vz,qz⟩ hmz ⟨su,vu,qu⟩ hmu _ hW))
    have HNO:=zh (fun(h:d=false)=>HFJ.out (hd.trans h))
    have hltu:(j:Int) < (m.length:Int):=by omega
    clear hmz hmu hd HF HFALSE HFJ
    cases d with
    | false =>
      have HN2:Hid (b=false):=zh (HNO.out rfl)
      clear HNO
      go_wp2_with (go_at_fn g;refine(HC.out _ ((HG.out.alloc _).alloc _)).mono ?_;rintro e w1 ⟨rfl,g1⟩;have HG1:=zh (((HG.out.alloc _).alloc _).trans g1);clear g1)
      go_ret
      exact⟨ret_bool HN2.out.symm,HG1.out⟩
    | true =>
      go_wp2_with (go_at_fn g;refine(HC.out _ ((HG.out.alloc _).alloc _)).mono ?_;rintro e w1 ⟨rfl,g1⟩;have HG1:=zh (((HG.out.alloc _).alloc _).trans g1);clear g1)
      go_roundg (l.length - (j+1))
      case measure=>have:=HLz.out;omega
      case rel=>exact⟨j+1,by go_num,HLz.out,rfl,zh (by rw [HTz.out,HTu.out,all2_snoc _ _ _ _ HTL.out,HI.out,Bool.true_and];exact HD.out),HG1⟩
   ·obtain rfl:j=l.length:=by omega
    rw [List.take_length,HLE.out,List.take_length] at HI
    go_wp2
    go_ret
    exact⟨ret_bool (HI.out.symm.trans HOK.out),HG.out⟩
 ·have he:eqL R l m=false:=by rw [eqL,decide_eq_false hlen,Bool.false_and]
  rw [he]
  have hle2:(((l.length:Nat):Int) != ((m.length:Nat):Int))=true:=by rw [bne_iff_ne];omega
  clear he hx hy hf hlen
  go_enter Tryz.func65,Tryz.ntmps65
  go_wp2
  go_ret
  exact⟨rfl,Grew.refl _⟩
section
variable {dst:Option Tmp}{ty:TypeId}{pos:String}{after:Array Edge}{g:Option (Nat × Bool)}{a:Act}{w:World}{T:Value→World→Prop}
end
set_option maxHeartbeats 4000000 in
theorem eqC_any (sa sb:ByteArray) (za zb:Int) (qa qb:Int) (w:World) :
 Calls Tryz.prog 66 #[.agg #[.string sa,.int .i16 za,.int .i64 qa],.agg #[.string sb,.int .i16 zb,.int .i64 qb]] w fun e w'=>e=.returned (.bool (decide (sa=sb)&&(za==zb)))∧Grew w w':=by
 have HEQ:Hid (((decide ((sa)=(sb)))&&((za)==(zb)))=(decide (sa=sb)&&(za==zb))):=zh (rfl)
 go_enter Tryz.func66,Tryz.ntmps66
 go_upto_region 1 with fail
 have hb1:Blk w.heap.size [.string sa,.int .i16 za,.int .i64 qa] 60 (w.alloc (Obj.cells #[.string sa,.int .i16 za,.int .i64 qa] 60)):=Blk.new w _ _
 have hb2:Blk (w.alloc (Obj.cells #[.string sa,.int .i16 za,.int .i64 qa] 60)).heap.size [.string sb,.int .i16 zb,.int .i64 qb] 60 ((w.alloc (Obj.cells #[.string sa,.int .i16 za,.int .i64 qa] 60)).alloc (Obj.cells #[.string sb,.int .i16 zb,.int .i64 qb] 60)):=Blk.new _ _ _
 have hb3:=hb1.grew ((Grew.refl _).alloc (Obj.cells #[.string sb,.int .i16 zb,.int .i64 qb] 60))
 have hgV:Grew w ((w.alloc (Obj.cells #[.string sa,.int .i16 za,.int .i64 qa] 60)).alloc (Obj.cells #[.string sb,.int .i16 zb,.int .i64 qb] 60)):=((Grew.refl w).alloc _).alloc _
 rw [alloc_sz] at hb2
 try rw [alloc_sz]
 generalize ((w.alloc (Obj.cells #[.string sa,.int .i16 za,.int .i64 qa] 60)).alloc (Obj.cells #[.string sb,.int .i16 zb,.int .i64 qb] 60))=V at hb2 hb3 hgV ⊢
 generalize w.heap.size+1=U at hb2 ⊢
 generalize w.heap.size=T at hb3 ⊢
 have HGV:=zh hgV
 have d0:Atv ⟨T,0,none⟩ (.string sa) V:=hb3.atv 0 rfl
 have d1:Atv ⟨T,1,none⟩ (.int .i16 za) V:=hb3.atv 1 rfl
 have d2:Atv ⟨T,2,none⟩ (.int .i64 qa) V:=hb3.atv 2 rfl
 have e0:Atv ⟨U,0,none⟩ (.string sb) V:=hb2.atv 0 rfl
 have e1:Atv ⟨U,1,none⟩ (.int .i16 zb) V:=hb2.atv 1 rfl
 have e2:Atv ⟨U,2,none⟩ (.int .i64 qb) V:=hb2.atv 2 rfl
 clear hb1 hb2 hb3 hgV
 refine wp_postsL [some 5,some 6,some 7,some 8,some 9,some 10,some 11,some 12,some 13,some 14,some 15,some 16,some 4] (Zfc (Ztd (Ztc (Zta [])))) [fun v _=>v=.pointer (some ⟨T,0,none⟩),fun v _=>v=.string sa,fun v _=>v=.pointer (some ⟨U,0,none⟩),fun v _=>v=.string sb,fun v _=>v=.bool (decide ((sa)=(sb))),fun v _=>v=.bool (decide ((sa)=(sb))),fun v _=>Zg ((decide ((sa)=(sb)))=true) (.pointer (some ⟨T,1,none⟩)) v,fun v _=>Zg ((decide ((sa)=(sb)))=true) (.int .i16 (za)) v,fun v _=>Zg ((decide ((sa)=(sb)))=true) (.pointer (some ⟨U,1,none⟩)) v,fun v _=>Zg ((decide ((sa)=(sb)))=true) (.int .i16 (zb)) v,fun v _=>Zg ((decide ((sa)=(sb)))=true) (.bool ((za)==(zb))) v,fun v _=>v=.bool ((decide ((sa)=(sb)))&&((za)==(zb))),fun v _=>v=.bool ((decide ((sa)=(sb)))&&((za)==(zb)))] (by kernel_rfl) rfl ?_ ⟨?_,?_,?_,?_,?_,?_,?_,?_,?_,?_,?_,?_,?_,trivial⟩ ?_
 ·exact⟨Zi,Zi,Zi,Zi,Zi,Zi,Zi,Zi,Zi,Zi,Zi,Zi,Zi,trivial⟩
 ·intro u w hR hd;exact rn_fld_60_0 (ev rfl) Zr
 ·intro u w hR hd;exact rn_ld_9 (ev (hd.1 rfl)) (d0.kept hR) Zr
 ·intro u w hR hd;exact rn_fld_60_0 (ev rfl) Zr
 ·intro u w hR hd;exact rn_ld_9 (ev (hd.1 rfl)) (e0.kept hR) Zr
 ·intro u w hR hd;exact rn_eqs_9 (ev (hd.1 rfl)) (ev (hd.2.1 rfl)) Zr
 ·intro u w hR hd;exact runs_mv (ev (hd.1 rfl)) Zr
 ·intro u w hR hd;exact⟨fun hg=>have hG:=Zh (hd.1 rfl) hg;rn_fld_60_1 (ev rfl) (Zs hG),Zn (hd.1 rfl)⟩
 ·intro u w hR hd;exact⟨fun hg=>have hG:=Zh (hd.2.1 rfl) hg;rn_ld_32 (ev ((hd.1 rfl).1 hG)) (d1.kept hR) (Zs hG),Zn (hd.2.1 rfl)⟩
 ·intro u w hR hd;exact⟨fun hg=>have hG:=Zh (hd.1 rfl) hg;rn_fld_60_1 (ev rfl) (Zs hG),Zn (hd.1 rfl)⟩
 ·intro u w hR hd;exact⟨fun hg=>have hG:=Zh (hd.2.1 rfl) hg;rn_ld_32 (ev ((hd.1 rfl).1 hG)) (e1.kept hR) (Zs hG),Zn (hd.2.1 rfl)⟩
 ·intro u w hR hd;exact⟨fun hg=>have hG:=Zh (hd.2.2.1 rfl) hg;rn_eql_32 (ev ((hd.1 rfl).1 hG)) (ev ((hd.2.1 rfl).1 hG)) (Zs hG),Zn (hd.2.2.1 rfl)⟩
 ·intro u w hR hd;exact runs_an (ev (hd.1 rfl)) (fun hb=>ev ((hd.2.1 rfl).1 hb)) Zr
 ·intro u w hR hd;exact runs_mva (ev (hd.1 rfl)) Zr
 ·intro u w4 hR hh
  have he:u 4=.bool ((decide ((sa)=(sb)))&&((za)==(zb))):=hh 12 (by decide)
  rw [HEQ.out] at he
  simp only [mixA,mixL,zz9,zz0,he]
  have HG4:Hid (Grew w w4):=zh (HGV.out.trans hR)
  clear hh he hR d0 d1 d2 e0 e1 e2 HGV
  go_wp2
  go_ret
  exact⟨rfl,HG4.out⟩
set_option maxHeartbeats 4000000 in
theorem eqH_any (sa sb:ByteArray) (za zb:Int) (qa qb:Int) (w:World) :
 Calls Tryz.prog 71 #[.agg #[.string sa,.int .i64 za,.int .i64 qa],.agg #[.string sb,.int .i64 zb,.int .i64 qb]] w fun e w'=>e=.returned (.bool (decide (sa=sb)&&(za==zb)))∧Grew w w':=by
 have HEQ:Hid (((decide ((sa)=(sb)))&&((za)==(zb)))=(decide (sa=sb)&&(za==zb))):=zh (rfl)
 go_enter Tryz.func71,Tryz.ntmps71
 go_upto_region 1 with fail
 have hb1:Blk w.heap.size [.string sa,.int .i64 za,.int .i64 qa] 64 (w.alloc (Obj.cells #[.string sa,.int .i64 za,.int .i64 qa] 64)):=Blk.new w _ _
 have hb2:Blk (w.alloc (Obj.cells #[.string sa,.int .i64 za,.int .i64 qa] 64)).heap.size [.string sb,.int .i64 zb,.int .i64 qb] 64 ((w.alloc (Obj.cells #[.string sa,.int .i64 za,.int .i64 qa] 64)).alloc (Obj.cells #[.string sb,.int .i64 zb,.int .i64 qb] 64)):=Blk.new _ _ _
 have hb3:=hb1.grew ((Grew.refl _).alloc (Obj.cells #[.string sb,.int .i64 zb,.int .i64 qb] 64))
 have hgV:Grew w ((w.alloc (Obj.cells #[.string sa,.int .i64 za,.int .i64 qa] 64)).alloc (Obj.cells #[.string sb,.int .i64 zb,.int .i64 qb] 64)):=((Grew.refl w).alloc _).alloc _
 rw [alloc_sz] at hb2
 try rw [alloc_sz]
 generalize ((w.alloc (Obj.cells #[.string sa,.int .i64 za,.int .i64 qa] 64)).alloc (Obj.cells #[.string sb,.int .i64 zb,.int .i64 qb] 64))=V at hb2 hb3 hgV ⊢
 generalize w.heap.size+1=U at hb2 ⊢
 generalize w.heap.size=T at hb3 ⊢
 have HGV:=zh hgV
 have d0:Atv ⟨T,0,none⟩ (.string sa) V:=hb3.atv 0 rfl
 have d1:Atv ⟨T,1,none⟩ (.int .i64 za) V:=hb3.atv 1 rfl
 have d2:Atv ⟨T,2,none⟩ (.int .i64 qa) V:=hb3.atv 2 rfl
 have e0:Atv ⟨U,0,none⟩ (.string sb) V:=hb2.atv 0 rfl
 have e1:Atv ⟨U,1,none⟩ (.int .i64 zb) V:=hb2.atv 1 rfl
 have e2:Atv ⟨U,2,none⟩ (.int .i64 qb) V:=hb2.atv 2 rfl
 clear hb1 hb2 hb3 hgV
 refine wp_postsL [some 5,some 6,some 7,some 8,some 9,some 10,some 11,some 12,some 13,some 14,some 15,some 16,some 4] (Zfc (Ztd (Ztc (Zta [])))) [fun v _=>v=.pointer (some ⟨T,0,none⟩),fun v _=>v=.string sa,fun v _=>v=.pointer (some ⟨U,0,none⟩),fun v _=>v=.string sb,fun v _=>v=.bool (decide ((sa)=(sb))),fun v _=>v=.bool (decide ((sa)=(sb))),fun v _=>Zg ((decide ((sa)=(sb)))=true) (.pointer (some ⟨T,1,none⟩)) v,fun v _=>Zg ((decide ((sa)=(sb)))=true) (.int .i64 (za)) v,fun v _=>Zg ((decide ((sa)=(sb)))=true) (.pointer (some ⟨U,1,none⟩)) v,fun v _=>Zg ((decide ((sa)=(sb)))=true) (.int .i64 (zb)) v,fun v _=>Zg ((decide ((sa)=(sb)))=true) (.bool ((za)==(zb))) v,fun v _=>v=.bool ((decide ((sa)=(sb)))&&((za)==(zb))),fun v _=>v=.bool ((decide ((sa)=(sb)))&&((za)==(zb)))] (by kernel_rfl) rfl ?_ ⟨?_,?_,?_,?_,?_,?_,?_,?_,?_,?_,?_,?_,?_,trivial⟩ ?_
 ·exact⟨Zi,Zi,Zi,Zi,Zi,Zi,Zi,Zi,Zi,Zi,Zi,Zi,Zi,trivial⟩
 ·intro u w hR hd;exact rn_fld_64_0 (ev rfl) Zr
 ·intro u w hR hd;exact rn_ld_9 (ev (hd.1 rfl)) (d0.kept hR) Zr
 ·intro u w hR hd;exact rn_fld_64_0 (ev rfl) Zr
 ·intro u w hR hd;exact rn_ld_9 (ev (hd.1 rfl)) (e0.kept hR) Zr
 ·intro u w hR hd;exact rn_eqs_9 (ev (hd.1 rfl)) (ev (hd.2.1 rfl)) Zr
 ·intro u w hR hd;exact runs_mv (ev (hd.1 rfl)) Zr
 ·intro u w hR hd;exact⟨fun hg=>have hG:=Zh (hd.1 rfl) hg;rn_fld_64_1 (ev rfl) (Zs hG),Zn (hd.1 rfl)⟩
 ·intro u w hR hd;exact⟨fun hg=>have hG:=Zh (hd.2.1 rfl) hg;rn_ld_3 (ev ((hd.1 rfl).1 hG)) (d1.kept hR) (Zs hG),Zn (hd.2.1 rfl)⟩
 ·intro u w hR hd;exact⟨fun hg=>have hG:=Zh (hd.1 rfl) hg;rn_fld_64_1 (ev rfl) (Zs hG),Zn (hd.1 rfl)⟩
 ·intro u w hR hd;exact⟨fun hg=>have hG:=Zh (hd.2.1 rfl) hg;rn_ld_3 (ev ((hd.1 rfl).1 hG)) (e1.kept hR) (Zs hG),Zn (hd.2.1 rfl)⟩
 ·intro u w hR hd;exact⟨fun hg=>have hG:=Zh (hd.2.2.1 rfl) hg;rn_eql_3 (ev ((hd.1 rfl).1 hG)) (ev ((hd.2.1 rfl).1 hG)) (Zs hG),Zn (hd.2.2.1 rfl)⟩
 ·intro u w hR hd;exact runs_an (ev (hd.1 rfl)) (fun hb=>ev ((hd.2.1 rfl).1 hb)) Zr
 ·intro u w hR hd;exact runs_mva (ev (hd.1 rfl)) Zr
 ·intro u w4 hR hh
  have he:u 4=.bool ((decide ((sa)=(sb)))&&((za)==(zb))):=hh 12 (by decide)
  rw [HEQ.out] at he
  simp only [mixA,mixL,zz9,zz0,he]
  have HG4:Hid (Grew w w4):=zh (HGV.out.trans hR)
  clear hh he hR d0 d1 d2 e0 e1 e2 HGV
  go_wp2
  go_ret
  exact⟨rfl,HG4.out⟩
set_option maxHeartbeats 4000000 in
theorem eqG_any (sa sb:ByteArray) (la lb:Int) (ia ib:Int) (qa qb:Int) (w:World) :
 Calls Tryz.prog 68 #[.agg #[.string sa,.int .i64 la,.int .i16 ia,.int .i64 qa],.agg #[.string sb,.int .i64 lb,.int .i16 ib,.int .i64 qb]] w fun e w'=>e=.returned (.bool ((decide (sa=sb)&&(la==lb))&&(ia==ib)))∧Grew w w':=by
 have HEQ:Hid ((((decide ((sa)=(sb)))&&((la)==(lb)))&&((ia)==(ib)))=((decide (sa=sb)&&(la==lb))&&(ia==ib))):=zh (rfl)
 go_enter Tryz.func68,Tryz.ntmps68
 go_upto_region 1 with fail
 have hb1:Blk w.heap.size [.string sa,.int .i64 la,.int .i16 ia,.int .i64 qa] 62 (w.alloc (Obj.cells #[.string sa,.int .i64 la,.int .i16 ia,.int .i64 qa] 62)):=Blk.new w _ _
 have hb2:Blk (w.alloc (Obj.cells #[.string sa,.int .i64 la,.int .i16 ia,.int .i64 qa] 62)).heap.size [.string sb,.int .i64 lb,.int .i16 ib,.int .i64 qb] 62 ((w.alloc (Obj.cells #[.string sa,.int .i64 la,.int .i16 ia,.int .i64 qa] 62)).alloc (Obj.cells #[.string sb,.int .i64 lb,.int .i16 ib,.int .i64 qb] 62)):=Blk.new _ _ _
 have hb3:=hb1.grew ((Grew.refl _).alloc (Obj.cells #[.string sb,.int .i64 lb,.int .i16 ib,.int .i64 qb] 62))
 have hgV:Grew w ((w.alloc (Obj.cells #[.string sa,.int .i64 la,.int .i16 ia,.int .i64 qa] 62)).alloc (Obj.cells #[.string sb,.int .i64 lb,.int .i16 ib,.int .i64 qb] 62)):=((Grew.refl w).alloc _).alloc _
 rw [alloc_sz] at hb2
 try rw [alloc_sz]
 generalize ((w.alloc (Obj.cells #[.string sa,.int .i64 la,.int .i16 ia,.int .i64 qa] 62)).alloc (Obj.cells #[.string sb,.int .i64 lb,.int .i16 ib,.int .i64 qb] 62))=V at hb2 hb3 hgV ⊢
 generalize w.heap.size+1=U at hb2 ⊢
 generalize w.heap.size=T at hb3 ⊢
 have HGV:=zh hgV
 have d0:Atv ⟨T,0,none⟩ (.string sa) V:=hb3.atv 0 rfl
 have d1:Atv ⟨T,1,none⟩ (.int .i64 la) V:=hb3.atv 1 rfl
 have d2:Atv ⟨T,2,none⟩ (.int .i16 ia) V:=hb3.atv 2 rfl
 have d3:Atv ⟨T,3,none⟩ (.int .i64 qa) V:=hb3.atv 3 rfl
 have e0:Atv ⟨U,0,none⟩ (.string sb) V:=hb2.atv 0 rfl
 have e1:Atv ⟨U,1,none⟩ (.int .i64 lb) V:=hb2.atv 1 rfl
 have e2:Atv ⟨U,2,none⟩ (.int .i16 ib) V:=hb2.atv 2 rfl
 have e3:Atv ⟨U,3,none⟩ (.int .i64 qb) V:=hb2.atv 3 rfl
 clear hb1 hb2 hb3 hgV
 refine wp_postsL [some 5,some 6,some 7,some 8,some 9,some 10,some 11,some 12,some 13,some 14,some 15,some 16,some 17,some 18,some 19,some 20,some 21,some 22,some 23,some 4] (Zfc (Zte (Ztc []))) [fun v _=>v=.pointer (some ⟨T,0,none⟩),fun v _=>v=.string sa,fun v _=>v=.pointer (some ⟨U,0,none⟩),fun v _=>v=.string sb,fun v _=>v=.bool (decide ((sa)=(sb))),fun v _=>v=.bool (decide ((sa)=(sb))),fun v _=>Zg ((decide ((sa)=(sb)))=true) (.pointer (some ⟨T,1,none⟩)) v,fun v _=>Zg ((decide ((sa)=(sb)))=true) (.int .i64 (la)) v,fun v _=>Zg ((decide ((sa)=(sb)))=true) (.pointer (some ⟨U,1,none⟩)) v,fun v _=>Zg ((decide ((sa)=(sb)))=true) (.int .i64 (lb)) v,fun v _=>Zg ((decide ((sa)=(sb)))=true) (.bool ((la)==(lb))) v,fun v _=>v=.bool ((decide ((sa)=(sb)))&&((la)==(lb))),fun v _=>v=.bool ((decide ((sa)=(sb)))&&((la)==(lb))),fun v _=>Zg (((decide ((sa)=(sb)))&&((la)==(lb)))=true) (.pointer (some ⟨T,2,none⟩)) v,fun v _=>Zg (((decide ((sa)=(sb)))&&((la)==(lb)))=true) (.int .i16 (ia)) v,fun v _=>Zg (((decide ((sa)=(sb)))&&((la)==(lb)))=true) (.pointer (some ⟨U,2,none⟩)) v,fun v _=>Zg (((decide ((sa)=(sb)))&&((la)==(lb)))=true) (.int .i16 (ib)) v,fun v _=>Zg (((decide ((sa)=(sb)))&&((la)==(lb)))=true) (.bool ((ia)==(ib))) v,fun v _=>v=.bool (((decide ((sa)=(sb)))&&((la)==(lb)))&&((ia)==(ib))),fun v _=>v=.bool (((decide ((sa)=(sb)))&&((la)==(lb)))&&((ia)==(ib)))] (by kernel_rfl) rfl ?_ ⟨?_,?_,?_,?_,?_,?_,?_,?_,?_,?_,?_,?_,?_,?_,?_,?_,?_,?_,?_,?_,trivial⟩ ?_
 ·exact⟨Zi,Zi,Zi,Zi,Zi,Zi,Zi,Zi,Zi,Zi,Zi,Zi,Zi,Zi,Zi,Zi,Zi,Zi,Zi,Zi,trivial⟩
 ·intro u w hR hd;exact rn_fld_62_0 (ev rfl) Zr
 ·intro u w hR hd;exact rn_ld_9 (ev (hd.1 rfl)) (d0.kept hR) Zr
 ·intro u w hR hd;exact rn_fld_62_0 (ev rfl) Zr
 ·intro u w hR hd;exact rn_ld_9 (ev (hd.1 rfl)) (e0.kept hR) Zr
 ·intro u w hR hd;exact rn_eqs_9 (ev (hd.1 rfl)) (ev (hd.2.1 rfl)) Zr
 ·intro u w hR hd;exact runs_mv (ev (hd.1 rfl)) Zr
 ·intro u w hR hd;exact⟨fun hg=>have hG:=Zh (hd.1 rfl) hg;rn_fld_62_1 (ev rfl) (Zs hG),Zn (hd.1 rfl)⟩
 ·intro u w hR hd;exact⟨fun hg=>have hG:=Zh (hd.2.1 rfl) hg;rn_ld_3 (ev ((hd.1 rfl).1 hG)) (d1.kept hR) (Zs hG),Zn (hd.2.1 rfl)⟩
 ·intro u w hR hd;exact⟨fun hg=>have hG:=Zh (hd.1 rfl) hg;rn_fld_62_1 (ev rfl) (Zs hG),Zn (hd.1 rfl)⟩
 ·intro u w hR hd;exact⟨fun hg=>have hG:=Zh (hd.2.1 rfl) hg;rn_ld_3 (ev ((hd.1 rfl).1 hG)) (e1.kept hR) (Zs hG),Zn (hd.2.1 rfl)⟩
 ·intro u w hR hd;exact⟨fun hg=>have hG:=Zh (hd.2.2.1 rfl) hg;rn_eql_3 (ev ((hd.1 rfl).1 hG)) (ev ((hd.2.1 rfl).1 hG)) (Zs hG),Zn (hd.2.2.1 rfl)⟩
 ·intro u w hR hd;exact runs_an (ev (hd.1 rfl)) (fun hb=>ev ((hd.2.1 rfl).1 hb)) Zr
 ·intro u w hR hd;exact runs_mv (ev (hd.1 rfl)) Zr
 ·intro u w hR hd;exact⟨fun hg=>have hG:=Zh (hd.1 rfl) hg;rn_fld_62_2 (ev rfl) (Zs hG),Zn (hd.1 rfl)⟩
 ·intro u w hR hd;exact⟨fun hg=>have hG:=Zh (hd.2.1 rfl) hg;rn_ld_32 (ev ((hd.1 rfl).1 hG)) (d2.kept hR) (Zs hG),Zn (hd.2.1 rfl)⟩
 ·intro u w hR hd;exact⟨fun hg=>have hG:=Zh (hd.1 rfl) hg;rn_fld_62_2 (ev rfl) (Zs hG),Zn (hd.1 rfl)⟩
 ·intro u w hR hd;exact⟨fun hg=>have hG:=Zh (hd.2.1 rfl) hg;rn_ld_32 (ev ((hd.1 rfl).1 hG)) (e2.kept hR) (Zs hG),Zn (hd.2.1 rfl)⟩
 ·intro u w hR hd;exact⟨fun hg=>have hG:=Zh (hd.2.2.1 rfl) hg;rn_eql_32 (ev ((hd.1 rfl).1 hG)) (ev ((hd.2.1 rfl).1 hG)) (Zs hG),Zn (hd.2.2.1 rfl)⟩
 ·intro u w hR hd;exact runs_an (ev (hd.1 rfl)) (fun hb=>ev ((hd.2.1 rfl).1 hb)) Zr
 ·intro u w hR hd;exact runs_mva (ev (hd.1 rfl)) Zr
 ·intro u w4 hR hh
  have he:u 4=.bool (((decide ((sa)=(sb)))&&((la)==(lb)))&&((ia)==(ib))):=hh 19 (by decide)
  rw [HEQ.out] at he
  simp only [mixA,mixL,zz9,zz0,he]
  have HG4:Hid (Grew w w4):=zh (HGV.out.trans hR)
  clear hh he hR d0 d1 d2 d3 e0 e1 e2 e3 HGV
  go_wp2
  go_ret
  exact⟨rfl,HG4.out⟩
theorem eqX_eq (ka:Int) (sa:ByteArray) (va oa:Int) (ra:List Xp) (qa kb:Int) (sb:ByteArray) (vb ob:Int) (rb:List Xp) (qb:Int):((((((ka)==(kb))&&(decide ((sa)=(sb))))&&((va)==(vb)))&&((oa)==(ob)))&&(eqL eqX ra rb))=eqX ⟨ka,sa,va,oa,ra,qa⟩ ⟨kb,sb,vb,ob,rb,qb⟩:=by
 rw [eqX,eqH,eqXs_all2,eqL]
 simp only [beq_dec,bne_dec]
 have hl:decide ((ra.length:Int)=(rb.length:Int))=decide (ra.length=rb.length):=by rw [decide_eq_decide];omega
 rw [hl]
 cases decide (ka=kb) <;> cases decide (sa=sb) <;> cases decide (va=vb) <;> cases decide (oa=ob) <;> cases decide (ra.length=rb.length) <;> rfl
set_option maxHeartbeats 8000000 in
theorem eqXP_any:∀(x y:Xp) (A B:Nat→Prop) (w:World) (p p':Option Addr) (c c':Nat),XL A w p c x.ar→XL B w p' c' y.ar →
 Calls Tryz.prog 23 #[xv x.k x.s x.v x.o p x.ar.length c x.q,xv y.k y.s y.v y.o p' y.ar.length c' y.q] w fun e w'=>e=.returned (.bool (eqX x y))∧Grew w w':=by
 intro x
 induction x using Xp.ind with
 | h ka sa va oa ra qa ih =>
 intro y A B w pa pb ca cb hx hy
 obtain ⟨kb,sb,vb,ob,rb,qb⟩:=y
 replace hx:XL A w pa ca ra:=hx
 replace hy:XL B w pb cb rb:=hy
 show Calls Tryz.prog 23 #[xv ka sa va oa pa ra.length ca qa,xv kb sb vb ob pb rb.length cb qb] w fun e w'=>e=.returned (.bool (eqX ⟨ka,sa,va,oa,ra,qa⟩ ⟨kb,sb,vb,ob,rb,qb⟩))∧Grew w w'
 have hcap:ra.length≤ca∧rb.length≤cb:=⟨hx.cap.1,hy.cap.1⟩
 have hmax:=And.intro hx.cap.2.1 hy.cap.2.1
 have HEQ:=zh (eqX_eq ka sa va oa ra qa kb sb vb ob rb qb)
 have HEX:Hid (∀W,Grew w W→Calls Tryz.prog 75 #[.slice pa ra.length ca,.slice pb rb.length cb,.func (.func 23) #[] #[]] W fun e w'=>e=.returned (.bool (eqL eqX ra rb))∧Grew W w') :=
  zh (fun W hW=>eqfX_any 23 #[] en_eX ra rb eqX A B W pa pb ca cb (hx.kept hW) (hy.kept hW) (fun x hx' y hy' a1 a2 b1 b2 W2 h1 _ h2 _ hW2=>ih x hx' y A B W2 a1 b1 a2 b2 h1 h2))
 clear ih hx hy
 go_enter Tryz.func23,Tryz.ntmps23
 go_upto_region 1 with fail
 have hb1:Blk w.heap.size [.int .i64 ka,.string sa,.int .i16 va,.int .i64 oa,.slice pa ra.length ca,.int .i64 qa] 35 (w.alloc (Obj.cells #[.int .i64 ka,.string sa,.int .i16 va,.int .i64 oa,.slice pa ra.length ca,.int .i64 qa] 35)):=Blk.new w _ _
 have hb2:Blk (w.alloc (Obj.cells #[.int .i64 ka,.string sa,.int .i16 va,.int .i64 oa,.slice pa ra.length ca,.int .i64 qa] 35)).heap.size [.int .i64 kb,.string sb,.int .i16 vb,.int .i64 ob,.slice pb rb.length cb,.int .i64 qb] 35 ((w.alloc (Obj.cells #[.int .i64 ka,.string sa,.int .i16 va,.int .i64 oa,.slice pa ra.length ca,.int .i64 qa] 35)).alloc (Obj.cells #[.int .i64 kb,.string sb,.int .i16 vb,.int .i64 ob,.slice pb rb.length cb,.int .i64 qb] 35)):=Blk.new _ _ _
 have hb3:=hb1.grew ((Grew.refl _).alloc (Obj.cells #[.int .i64 kb,.string sb,.int .i16 vb,.int .i64 ob,.slice pb rb.length cb,.int .i64 qb] 35))
 have hgV:Grew w ((w.alloc (Obj.cells #[.int .i64 ka,.string sa,.int .i16 va,.int .i64 oa,.slice pa ra.length ca,.int .i64 qa] 35)).alloc (Obj.cells #[.int .i64 kb,.string sb,.int .i16 vb,.int .i64 ob,.slice pb rb.length cb,.int .i64 qb] 35)):=((Grew.refl w).alloc _).alloc _
 rw [alloc_sz] at hb2
 try rw [alloc_sz]
 generalize ((w.alloc (Obj.cells #[.int .i64 ka,.string sa,.int .i16 va,.int .i64 oa,.slice pa ra.length ca,.int .i64 qa] 35)).alloc (Obj.cells #[.int .i64 kb,.string sb,.int .i16 vb,.int .i64 ob,.slice pb rb.length cb,.int .i64 qb] 35))=V at hb2 hb3 hgV ⊢
 generalize w.heap.size+1=U at hb2 ⊢
 generalize w.heap.size=T at hb3 ⊢
 have HGV:=zh hgV
 have d0:Atv ⟨T,0,none⟩ (.int .i64 ka) V:=hb3.atv 0 rfl
 have d1:Atv ⟨T,1,none⟩ (.string sa) V:=hb3.atv 1 rfl
 have d2:Atv ⟨T,2,none⟩ (.int .i16 va) V:=hb3.atv 2 rfl
 have d3:Atv ⟨T,3,none⟩ (.int .i64 oa) V:=hb3.atv 3 rfl
 have d4:Atv ⟨T,4,none⟩ (.slice pa ra.length ca) V:=hb3.atv 4 rfl
 have d5:Atv ⟨T,5,none⟩ (.int .i64 qa) V:=hb3.atv 5 rfl
 have e0:Atv ⟨U,0,none⟩ (.int .i64 kb) V:=hb2.atv 0 rfl
 have e1:Atv ⟨U,1,none⟩ (.string sb) V:=hb2.atv 1 rfl
 have e2:Atv ⟨U,2,none⟩ (.int .i16 vb) V:=hb2.atv 2 rfl
 have e3:Atv ⟨U,3,none⟩ (.int .i64 ob) V:=hb2.atv 3 rfl
 have e4:Atv ⟨U,4,none⟩ (.slice pb rb.length cb) V:=hb2.atv 4 rfl
 have e5:Atv ⟨U,5,none⟩ (.int .i64 qb) V:=hb2.atv 5 rfl
 clear hb1 hb2 hb3 hgV
 refine wp_postsL [some 5,some 6,some 7,some 8,some 9,some 10,some 11,some 12,some 13,some 14,some 15,some 16,some 17,some 18,some 19,some 20,some 21,some 22,some 23,some 24,some 25,some 26,some 27,some 28,some 29,some 30,some 31,some 32,some 33,some 34,some 35,some 36,some 37,some 4] (Zfc (Ztg (Ztb []))) [fun v _=>v=.pointer (some ⟨T,0,none⟩),fun v _=>v=.int .i64 (ka),fun v _=>v=.pointer (some ⟨U,0,none⟩),fun v _=>v=.int .i64 (kb),fun v _=>v=.bool ((ka)==(kb)),fun v _=>v=.bool ((ka)==(kb)),fun v _=>Zg (((ka)==(kb))=true) (.pointer (some ⟨T,1,none⟩)) v,fun v _=>Zg (((ka)==(kb))=true) (.string sa) v,fun v _=>Zg (((ka)==(kb))=true) (.pointer (some ⟨U,1,none⟩)) v,fun v _=>Zg (((ka)==(kb))=true) (.string sb) v,fun v _=>Zg (((ka)==(kb))=true) (.bool (decide ((sa)=(sb)))) v,fun v _=>v=.bool (((ka)==(kb))&&(decide ((sa)=(sb)))),fun v _=>v=.bool (((ka)==(kb))&&(decide ((sa)=(sb)))),fun v _=>Zg ((((ka)==(kb))&&(decide ((sa)=(sb))))=true) (.pointer (some ⟨T,2,none⟩)) v,fun v _=>Zg ((((ka)==(kb))&&(decide ((sa)=(sb))))=true) (.int .i16 (va)) v,fun v _=>Zg ((((ka)==(kb))&&(decide ((sa)=(sb))))=true) (.pointer (some ⟨U,2,none⟩)) v,fun v _=>Zg ((((ka)==(kb))&&(decide ((sa)=(sb))))=true) (.int .i16 (vb)) v,fun v _=>Zg ((((ka)==(kb))&&(decide ((sa)=(sb))))=true) (.bool ((va)==(vb))) v,fun v _=>v=.bool ((((ka)==(kb))&&(decide ((sa)=(sb))))&&((va)==(vb))),fun v _=>v=.bool ((((ka)==(kb))&&(decide ((sa)=(sb))))&&((va)==(vb))),fun v _=>Zg (((((ka)==(kb))&&(decide ((sa)=(sb))))&&((va)==(vb)))=true) (.pointer (some ⟨T,3,none⟩)) v,fun v _=>Zg (((((ka)==(kb))&&(decide ((sa)=(sb))))&&((va)==(vb)))=true) (.int .i64 (oa)) v,fun v _=>Zg (((((ka)==(kb))&&(decide ((sa)=(sb))))&&((va)==(vb)))=true) (.pointer (some ⟨U,3,none⟩)) v,fun v _=>Zg (((((ka)==(kb))&&(decide ((sa)=(sb))))&&((va)==(vb)))=true) (.int .i64 (ob)) v,fun v _=>Zg (((((ka)==(kb))&&(decide ((sa)=(sb))))&&((va)==(vb)))=true) (.bool ((oa)==(ob))) v,fun v _=>v=.bool (((((ka)==(kb))&&(decide ((sa)=(sb))))&&((va)==(vb)))&&((oa)==(ob))),fun v _=>v=.bool (((((ka)==(kb))&&(decide ((sa)=(sb))))&&((va)==(vb)))&&((oa)==(ob))),fun v _=>Zg ((((((ka)==(kb))&&(decide ((sa)=(sb))))&&((va)==(vb)))&&((oa)==(ob)))=true) (.pointer (some ⟨T,4,none⟩)) v,fun v _=>Zg ((((((ka)==(kb))&&(decide ((sa)=(sb))))&&((va)==(vb)))&&((oa)==(ob)))=true) (.slice pa (ra.length) (ca)) v,fun v _=>Zg ((((((ka)==(kb))&&(decide ((sa)=(sb))))&&((va)==(vb)))&&((oa)==(ob)))=true) (.pointer (some ⟨U,4,none⟩)) v,fun v _=>Zg ((((((ka)==(kb))&&(decide ((sa)=(sb))))&&((va)==(vb)))&&((oa)==(ob)))=true) (.slice pb (rb.length) (cb)) v,fun v _=>Zg ((((((ka)==(kb))&&(decide ((sa)=(sb))))&&((va)==(vb)))&&((oa)==(ob)))=true) (.bool (eqL eqX ra rb)) v,fun v _=>v=.bool ((((((ka)==(kb))&&(decide ((sa)=(sb))))&&((va)==(vb)))&&((oa)==(ob)))&&(eqL eqX ra rb)),fun v _=>v=.bool ((((((ka)==(kb))&&(decide ((sa)=(sb))))&&((va)==(vb)))&&((oa)==(ob)))&&(eqL eqX ra rb))] (by kernel_rfl) rfl ?_ ⟨?_,?_,?_,?_,?_,?_,?_,?_,?_,?_,?_,?_,?_,?_,?_,?_,?_,?_,?_,?_,?_,?_,?_,?_,?_,?_,?_,?_,?_,?_,?_,?_,?_,?_,trivial⟩ ?_
 ·exact⟨Zi,Zi,Zi,Zi,Zi,Zi,Zi,Zi,Zi,Zi,Zi,Zi,Zi,Zi,Zi,Zi,Zi,Zi,Zi,Zi,Zi,Zi,Zi,Zi,Zi,Zi,Zi,Zi,Zi,Zi,Zi,Zi,Zi,Zi,trivial⟩
 ·intro u w hR hd;exact rn_fld_35_0 (ev rfl) Zr
 ·intro u w hR hd;exact rn_ld_3 (ev (hd.1 rfl)) (d0.kept hR) Zr
 ·intro u w hR hd;exact rn_fld_35_0 (ev rfl) Zr
 ·intro u w hR hd;exact rn_ld_3 (ev (hd.1 rfl)) (e0.kept hR) Zr
 ·intro u w hR hd;exact rn_eql_3 (ev (hd.1 rfl)) (ev (hd.2.1 rfl)) Zr
 ·intro u w hR hd;exact runs_mv (ev (hd.1 rfl)) Zr
 ·intro u w hR hd;exact⟨fun hg=>have hG:=Zh (hd.1 rfl) hg;rn_fld_35_1 (ev rfl) (Zs hG),Zn (hd.1 rfl)⟩
 ·intro u w hR hd;exact⟨fun hg=>have hG:=Zh (hd.2.1 rfl) hg;rn_ld_9 (ev ((hd.1 rfl).1 hG)) (d1.kept hR) (Zs hG),Zn (hd.2.1 rfl)⟩
 ·intro u w hR hd;exact⟨fun hg=>have hG:=Zh (hd.1 rfl) hg;rn_fld_35_1 (ev rfl) (Zs hG),Zn (hd.1 rfl)⟩
 ·intro u w hR hd;exact⟨fun hg=>have hG:=Zh (hd.2.1 rfl) hg;rn_ld_9 (ev ((hd.1 rfl).1 hG)) (e1.kept hR) (Zs hG),Zn (hd.2.1 rfl)⟩
 ·intro u w hR hd;exact⟨fun hg=>have hG:=Zh (hd.2.2.1 rfl) hg;rn_eqs_9 (ev ((hd.1 rfl).1 hG)) (ev ((hd.2.1 rfl).1 hG)) (Zs hG),Zn (hd.2.2.1 rfl)⟩
 ·intro u w hR hd;exact runs_an (ev (hd.1 rfl)) (fun hb=>ev ((hd.2.1 rfl).1 hb)) Zr
 ·intro u w hR hd;exact runs_mv (ev (hd.1 rfl)) Zr
 ·intro u w hR hd;exact⟨fun hg=>have hG:=Zh (hd.1 rfl) hg;rn_fld_35_2 (ev rfl) (Zs hG),Zn (hd.1 rfl)⟩
 ·intro u w hR hd;exact⟨fun hg=>have hG:=Zh (hd.2.1 rfl) hg;rn_ld_32 (ev ((hd.1 rfl).1 hG)) (d2.kept hR) (Zs hG),Zn (hd.2.1 rfl)⟩
 ·intro u w hR hd;exact⟨fun hg=>have hG:=Zh (hd.1 rfl) hg;rn_fld_35_2 (ev rfl) (Zs hG),Zn (hd.1 rfl)⟩
 ·intro u w hR hd;exact⟨fun hg=>have hG:=Zh (hd.2.1 rfl) hg;rn_ld_32 (ev ((hd.1 rfl).1 hG)) (e2.kept hR) (Zs hG),Zn (hd.2.1 rfl)⟩
 ·intro u w hR hd;exact⟨fun hg=>have hG:=Zh (hd.2.2.1 rfl) hg;rn_eql_32 (ev ((hd.1 rfl).1 hG)) (ev ((hd.2.1 rfl).1 hG)) (Zs hG),Zn (hd.2.2.1 rfl)⟩
 ·intro u w hR hd;exact runs_an (ev (hd.1 rfl)) (fun hb=>ev ((hd.2.1 rfl).1 hb)) Zr
 ·intro u w hR hd;exact runs_mv (ev (hd.1 rfl)) Zr
 ·intro u w hR hd;exact⟨fun hg=>have hG:=Zh (hd.1 rfl) hg;rn_fld_35_3 (ev rfl) (Zs hG),Zn (hd.1 rfl)⟩
 ·intro u w hR hd;exact⟨fun hg=>have hG:=Zh (hd.2.1 rfl) hg;rn_ld_3 (ev ((hd.1 rfl).1 hG)) (d3.kept hR) (Zs hG),Zn (hd.2.1 rfl)⟩
 ·intro u w hR hd;exact⟨fun hg=>have hG:=Zh (hd.1 rfl) hg;rn_fld_35_3 (ev rfl) (Zs hG),Zn (hd.1 rfl)⟩
 ·intro u w hR hd;exact⟨fun hg=>have hG:=Zh (hd.2.1 rfl) hg;rn_ld_3 (ev ((hd.1 rfl).1 hG)) (e3.kept hR) (Zs hG),Zn (hd.2.1 rfl)⟩
 ·intro u w hR hd;exact⟨fun hg=>have hG:=Zh (hd.2.2.1 rfl) hg;rn_eql_3 (ev ((hd.1 rfl).1 hG)) (ev ((hd.2.1 rfl).1 hG)) (Zs hG),Zn (hd.2.2.1 rfl)⟩
 ·intro u w hR hd;exact runs_an (ev (hd.1 rfl)) (fun hb=>ev ((hd.2.1 rfl).1 hb)) Zr
 ·intro u w hR hd;exact runs_mv (ev (hd.1 rfl)) Zr
 ·intro u w hR hd;exact⟨fun hg=>have hG:=Zh (hd.1 rfl) hg;rn_fld_35_4 (ev rfl) (Zs hG),Zn (hd.1 rfl)⟩
 ·intro u w hR hd;exact⟨fun hg=>have hG:=Zh (hd.2.1 rfl) hg;rn_ld_33 (ev ((hd.1 rfl).1 hG)) (d4.kept hR) (Zs hG),Zn (hd.2.1 rfl)⟩
 ·intro u w hR hd;exact⟨fun hg=>have hG:=Zh (hd.1 rfl) hg;rn_fld_35_4 (ev rfl) (Zs hG),Zn (hd.1 rfl)⟩
 ·intro u w hR hd;exact⟨fun hg=>have hG:=Zh (hd.2.1 rfl) hg;rn_ld_33 (ev ((hd.1 rfl).1 hG)) (e4.kept hR) (Zs hG),Zn (hd.2.1 rfl)⟩
 ·intro u w hR hd;exact⟨fun hg=>have hG:=Zh (hd.2.2.1 rfl) hg;runs_c3 en_efX (ev ((hd.1 rfl).1 hG)) (ev ((hd.2.1 rfl).1 hG)) rfl (callp (fun _ e=>⟨fun _=>e,fun hn=>absurd hG hn⟩) (HEX.out _ (HGV.out.trans hR))),Zn (hd.2.2.1 rfl)⟩
 ·intro u w hR hd;exact runs_an (ev (hd.1 rfl)) (fun hb=>ev ((hd.2.1 rfl).1 hb)) Zr
 ·intro u w hR hd;exact runs_mva (ev (hd.1 rfl)) Zr
 ·intro u w4 hR hh
  have he:u 4=.bool ((((((ka)==(kb))&&(decide ((sa)=(sb))))&&((va)==(vb)))&&((oa)==(ob)))&&(eqL eqX ra rb)):=hh 33 (by decide)
  rw [HEQ.out] at he
  simp only [mixA,mixL,zz9,zz0,he]
  have HG4:Hid (Grew w w4):=zh (HGV.out.trans hR)
  clear hh he hR d0 d1 d2 d3 d4 d5 e0 e1 e2 e3 e4 e5 HGV
  go_wp2
  go_ret
  exact⟨rfl,HG4.out⟩
set_option maxHeartbeats 8000000 in
theorem eqfS_any (g:FuncId) (cb:Array Value) (eg:∀args w,(callFunc g args).run Tryz.prog w=.ok (.enter g args) w) (l m:List Sm) (R:Sm→Sm→Bool) (A B2:Nat→Prop) (w:World) (p p2:Option Addr) (c c2:Nat) (hx:SL A w p c l) (hy:SL B2 w p2 c2 m)
 (hf:∀x ∈ l,∀y ∈ m,∀(pa_:Option Addr) (ca_:Nat) (pb_:Option Addr) (cb_:Nat) (pe_:Option Addr) (ce_:Nat) (pa2_:Option Addr) (ca2_:Nat) (pb2_:Option Addr) (cb2_:Nat) (pe2_:Option Addr) (ce2_:Nat) (W:World),XL A W pa_ ca_ x.ar→SL A W pb_ cb_ x.b→SL A W pe_ ce_ x.e→x.s.size≤1048576→XL B2 W pa2_ ca2_ y.ar→SL B2 W pb2_ cb2_ y.b→SL B2 W pe2_ ce2_ y.e→y.s.size≤1048576→Grew w W→Calls Tryz.prog g (#[sv x.k x.s x.n pa_ x.ar.length ca_ pb_ x.b.length cb_ pe_ x.e.length ce_ x.q,sv y.k y.s y.n pa2_ y.ar.length ca2_ pb2_ y.b.length cb2_ pe2_ y.e.length ce2_ y.q]++cb) W fun e w'=>e=.returned (.bool (R x y))∧Grew W w') :
 Calls Tryz.prog 117 #[.slice p l.length c,.slice p2 m.length c2,.func (.func g) #[] cb] w fun e w'=>e=.returned (.bool (eqL R l m))∧Grew w w':=by
 have hcap:l.length≤c∧m.length≤c2:=⟨hx.cap.1,hy.cap.1⟩
 have hmax:=And.intro hx.cap.2.1 hy.cap.2.1
 by_cases hlen:l.length=m.length
 ·have HX:=zh hx
  have HY:=zh hy
  have HF:=zh hf
  rw [eqL,decide_eq_true hlen,Bool.true_and]
  obtain ⟨b,hb⟩:∃b,all2 R l m=b:=⟨_,rfl⟩
  have HOK:=zh hb
  have HLE:=zh hlen
  have HFALSE:=zh (fun(j:Nat) (hj:j < l.length) (hj':j < m.length) (h:R l[j] m[j]=false)=>(show b=false from hb ▸ all2_no l m j hj hj' h))
  rw [hb]
  have hle2:(((l.length:Nat):Int) != ((m.length:Nat):Int))=false:=by rw [hlen];simp
  clear hx hy hf hb hlen
  go_enter Tryz.func117,Tryz.ntmps117
  go_wp2
  go_loopg [7,8,9,17] l.length (fun gg iv7 xv_ yv_ iv wr=>∃(j:Nat),iv=.int .i64 (j:Int)∧j≤l.length∧gg=l.length - j∧Hid (all2 R (l.take j) (m.take j)=true)∧Hid (Grew w wr))
  case atStart=>exact⟨0,rfl,Nat.zero_le _,rfl,zh rfl,zh (Grew.refl _)⟩
  case round =>
   obtain ⟨j,rfl,hj,rfl,HI,HG⟩:=hrel
   by_cases hlt:j < l.length
   ·have hlt2:j < m.length:=by rw [← HLE.out];exact hlt
    have HFJ:=zh (HFALSE.out j hlt hlt2)
    have HTL:Hid ((l.take j).length=(m.take j).length):=zh (by rw [List.length_take,List.length_take,HLE.out])
    obtain ⟨bz,oz,paz,caz,pbz,cbz,pez,cez,rfl,hbz,haz,hboz,helz,hcz⟩:=HX.out.get j hlt
    have hmz:=List.getElem_mem hlt
    have hnz:=nSs_mem hmz
    have htz:=List.take_succ_eq_append_getElem hlt
    have HLz:=zh (Nat.succ_le_of_lt hlt)
    generalize l[j]=xz at *
    obtain ⟨kz,sz,nz,rz,yz,ez,qz⟩:=xz
    replace hbz:sz.size≤1048576:=hbz.2
    have HTz:=zh htz
    have HAz:Hid (XL A w paz caz rz):=zh haz
    have HYz:Hid (SL A w pbz cbz yz):=zh hboz
    have HEz:Hid (SL A w pez cez ez):=zh helz
    have hcapz:rz.length≤caz∧yz.length≤cbz∧ez.length≤cez:=⟨haz.cap.1,hboz.cap.1,helz.cap.1⟩
    have hmaxz:=And.intro haz.cap.2.1 (And.intro hboz.cap.2.1 helz.cap.2.1)
    replace hcz:∀i_ u_,(sdc ⟨kz,sz,nz,paz,rz.length,caz,pbz,yz.length,cbz,pez,ez.length,cez,qz⟩)[i_]?=some u_→wr.cell? ⟨bz,oz+j * 7+i_,none⟩=some u_:=fun i_ u_ h_=>Atv.kept (hcz i_ u_ h_) HG.out
    have cz0:wr.cell? ⟨bz,oz+j * 7,none⟩=some (.int .i64 kz):=by simpa using hcz 0 _ rfl
    have cz1:wr.cell? ⟨bz,oz+j * 7+1,none⟩=some (.string sz):=hcz 1 _ rfl
    have cz2:wr.cell? ⟨bz,oz+j * 7+2,none⟩=some (.int .i64 nz):=hcz 2 _ rfl
    have cz3:wr.cell? ⟨bz,oz+j * 7+3,none⟩=some (.slice paz rz.length caz):=hcz 3 _ rfl
    have cz4:wr.cell? ⟨bz,oz+j * 7+4,none⟩=some (.slice pbz yz.length cbz):=hcz 4 _ rfl
    have cz5:wr.cell? ⟨bz,oz+j * 7+5,none⟩=some (.slice pez ez.length cez):=hcz 5 _ rfl
    have cz6:wr.cell? ⟨bz,oz+j * 7+6,none⟩=some (.int .i64 qz):=hcz 6 _ rfl
    clear hcz haz hboz helz htz
    obtain ⟨bu,ou,pau,cau,pbu,cbu,peu,ceu,rfl,hbu,hau,hbou,helu,hcu⟩:=HY.out.get j hlt2
    have hmu:=List.getElem_mem hlt2
    have hnu:=nSs_mem hmu
    have htu:=List.take_succ_eq_append_getElem hlt2
    have HLu:=zh (Nat.succ_le_of_lt hlt2)
    generalize m[j]=xu at *
    obtain ⟨ku,su,nu,ru,yu,eu,qu⟩:=xu
    replace hbu:su.size≤1048576:=hbu.2
    have HTu:=zh htu
    have HAu:Hid (XL B2 w pau cau ru):=zh hau
    have HYu:Hid (SL B2 w pbu cbu yu):=zh hbou
    have HEu:Hid (SL B2 w peu ceu eu):=zh helu
    have hcapu:ru.length≤cau∧yu.length≤cbu∧eu.length≤ceu:=⟨hau.cap.1,hbou.cap.1,helu.cap.1⟩
    have hmaxu:=And.intro hau.cap.2.1 (And.intro hbou.cap.2.1 helu.cap.2.1)
    replace hcu:∀i_ u_,(sdc ⟨ku,su,nu,pau,ru.length,cau,pbu,yu.length,cbu,peu,eu.length,ceu,qu⟩)[i_]?=some u_→wr.cell? ⟨bu,ou+j * 7+i_,none⟩=some u_:=fun i_ u_ h_=>Atv.kept (hcu i_ u_ h_) HG.out
    have cu0:wr.cell? ⟨bu,ou+j * 7,none⟩=some (.int .i64 ku):=by simpa using hcu 0 _ rfl
    have cu1:wr.cell? ⟨bu,ou+j * 7+1,none⟩=some (.string su):=hcu 1 _ rfl
    have cu2:wr.cell? ⟨bu,ou+j * 7+2,none⟩=some (.int .i64 nu):=hcu 2 _ rfl
    have cu3:wr.cell? ⟨bu,ou+j * 7+3,none⟩=some (.slice pau ru.length cau):=hcu 3 _ rfl
    have cu4:wr.cell? ⟨bu,ou+j * 7+4,none⟩=some (.slice pbu yu.length cbu):=hcu 4 _ rfl
    have cu5:wr.cell? ⟨bu,ou+j * 7+5,none⟩=some (.slice peu eu.length ceu):=hcu 5 _ rfl
    have cu6:wr.cell? ⟨bu,ou+j * 7+6,none⟩=some (.int .i64 qu):=hcu 6 _ rfl
    clear hcu hau hbou helu htu
    have hblu:bu < wr.heap.size:=World.block_lt_of_cell? _ _ cu0
    obtain ⟨d,hd⟩:∃d,R ⟨kz,sz,nz,rz,yz,ez,qz⟩ ⟨ku,su,nu,ru,yu,eu,qu⟩=d:=⟨_,rfl⟩
    have HD:=zh hd
    have HC:=zh (fun W (hW:Grew w W)=>(show Calls Tryz.prog g (#[sv kz sz nz paz rz.length caz pbz yz.length cbz pez ez.length cez qz,sv ku su nu pau ru.length cau pbu yu.length cbu peu eu.length ceu qu]++cb) W fun e w'=>e=.returned (.bool d)∧Grew W w' from hd ▸ HF.out ⟨kz,sz,nz,rz,yz,ez,qz⟩ hmz ⟨ku,su,nu,ru,yu,eu,qu⟩ hmu paz caz pbz cbz pez cez pau cau pbu cbu peu ceu _ (HAz.out.kept hW) (HYz.out.kept hW) (HEz.out.kept hW) hbz (HAu.out.kept hW) (HYu.out.kept hW) (HEu.out.kept hW) hbu hW))
    have HNO:=zh (fun(h:d=false)=>HFJ.out (hd.trans h))
    have hltu:(j:Int) < (m.length:Int):=by omega
    clear hmz hmu hd HF HFALSE HFJ
    cases d with
    | false =>
      have HN2:Hid (b=false):=zh (HNO.out rfl)
      clear HNO
      go_wp2_with (go_at_fn g;refine(HC.out _ ((HG.out.alloc _).alloc _)).mono ?_;rintro e w1 ⟨rfl,g1⟩;have HG1:=zh (((HG.out.alloc _).alloc _).trans g1);clear g1)
      go_ret
      exact⟨ret_bool HN2.out.symm,HG1.out⟩
    | true =>
      go_wp2_with (go_at_fn g;refine(HC.out _ ((HG.out.alloc _).alloc _)).mono ?_;rintro e w1 ⟨rfl,g1⟩;have HG1:=zh (((HG.out.alloc _).alloc _).trans g1);clear g1)
      go_roundg (l.length - (j+1))
      case measure=>have:=HLz.out;omega
      case rel=>exact⟨j+1,by go_num,HLz.out,rfl,zh (by rw [HTz.out,HTu.out,all2_snoc _ _ _ _ HTL.out,HI.out,Bool.true_and];exact HD.out),HG1⟩
   ·obtain rfl:j=l.length:=by omega
    rw [List.take_length,HLE.out,List.take_length] at HI
    go_wp2
    go_ret
    exact⟨ret_bool (HI.out.symm.trans HOK.out),HG.out⟩
 ·have he:eqL R l m=false:=by rw [eqL,decide_eq_false hlen,Bool.false_and]
  rw [he]
  have hle2:(((l.length:Nat):Int) != ((m.length:Nat):Int))=true:=by rw [bne_iff_ne];omega
  clear he hx hy hf hlen
  go_enter Tryz.func117,Tryz.ntmps117
  go_wp2
  go_ret
  exact⟨rfl,Grew.refl _⟩
set_option maxHeartbeats 8000000 in
theorem eqfT_any (g:FuncId) (cb:Array Value) (eg:∀args w,(callFunc g args).run Tryz.prog w=.ok (.enter g args) w) (l m:List Ta) (R:Ta→Ta→Bool) (A B2:Nat→Prop) (w:World) (p p2:Option Addr) (c c2:Nat) (hx:TL A w p c l) (hy:TL B2 w p2 c2 m)
 (hf:∀x ∈ l,∀y ∈ m,∀(pb_:Option Addr) (cb_:Nat) (pb2_:Option Addr) (cb2_:Nat) (W:World),SL A W pb_ cb_ x.b→x.s.size≤1048576∧x.c.size≤1048576∧x.m.size≤1048576→SL B2 W pb2_ cb2_ y.b→y.s.size≤1048576∧y.c.size≤1048576∧y.m.size≤1048576→Grew w W→Calls Tryz.prog g (#[tv x.s x.p x.d x.c x.m x.w pb_ x.b.length cb_ x.q,tv y.s y.p y.d y.c y.m y.w pb2_ y.b.length cb2_ y.q]++cb) W fun e w'=>e=.returned (.bool (R x y))∧Grew W w') :
 Calls Tryz.prog 72 #[.slice p l.length c,.slice p2 m.length c2,.func (.func g) #[] cb] w fun e w'=>e=.returned (.bool (eqL R l m))∧Grew w w':=by
 have hcap:l.length≤c∧m.length≤c2:=⟨hx.cap.1,hy.cap.1⟩
 have hmax:=And.intro hx.cap.2.1 hy.cap.2.1
 by_cases hlen:l.length=m.length
 ·have HX:=zh hx
  have HY:=zh hy
  have HF:=zh hf
  rw [eqL,decide_eq_true hlen,Bool.true_and]
  obtain ⟨b,hb⟩:∃b,all2 R l m=b:=⟨_,rfl⟩
  have HOK:=zh hb
  have HLE:=zh hlen
  have HFALSE:=zh (fun(j:Nat) (hj:j < l.length) (hj':j < m.length) (h:R l[j] m[j]=false)=>(show b=false from hb ▸ all2_no l m j hj hj' h))
  rw [hb]
  have hle2:(((l.length:Nat):Int) != ((m.length:Nat):Int))=false:=by rw [hlen];simp
  clear hx hy hf hb hlen
  go_enter Tryz.func72,Tryz.ntmps72
  go_wp2
  go_loopg [7,8,9,17] l.length (fun gg iv7 xv_ yv_ iv wr=>∃(j:Nat),iv=.int .i64 (j:Int)∧j≤l.length∧gg=l.length - j∧Hid (all2 R (l.take j) (m.take j)=true)∧Hid (Grew w wr))
  case atStart=>exact⟨0,rfl,Nat.zero_le _,rfl,zh rfl,zh (Grew.refl _)⟩
  case round =>
   obtain ⟨j,rfl,hj,rfl,HI,HG⟩:=hrel
   by_cases hlt:j < l.length
   ·have hlt2:j < m.length:=by rw [← HLE.out];exact hlt
    have HFJ:=zh (HFALSE.out j hlt hlt2)
    have HTL:Hid ((l.take j).length=(m.take j).length):=zh (by rw [List.length_take,List.length_take,HLE.out])
    obtain ⟨bz,oz,pbz,cbz,rfl,hbz,hboz,hcz⟩:=HX.out.get j hlt
    have hmz:=List.getElem_mem hlt
    have htz:=List.take_succ_eq_append_getElem hlt
    have HLz:=zh (Nat.succ_le_of_lt hlt)
    generalize l[j]=xz at *
    obtain ⟨sz,iz,dz,hz,mz,nz,yz,qz⟩:=xz
    replace hbz:sz.size≤1048576∧hz.size≤1048576∧mz.size≤1048576:=hbz.2
    have HTz:=zh htz
    have HYz:Hid (SL A w pbz cbz yz):=zh hboz
    have hcapz:yz.length≤cbz:=hboz.cap.1
    have hmaxz:=hboz.cap.2.1
    replace hcz:∀i_ u_,(tdc ⟨sz,iz,dz,hz,mz,nz,pbz,yz.length,cbz,qz⟩)[i_]?=some u_→wr.cell? ⟨bz,oz+j * 8+i_,none⟩=some u_:=fun i_ u_ h_=>Atv.kept (hcz i_ u_ h_) HG.out
    have cz0:wr.cell? ⟨bz,oz+j * 8,none⟩=some (.string sz):=by simpa using hcz 0 _ rfl
    have cz1:wr.cell? ⟨bz,oz+j * 8+1,none⟩=some (.int .i64 iz):=hcz 1 _ rfl
    have cz2:wr.cell? ⟨bz,oz+j * 8+2,none⟩=some (.int .i64 dz):=hcz 2 _ rfl
    have cz3:wr.cell? ⟨bz,oz+j * 8+3,none⟩=some (.string hz):=hcz 3 _ rfl
    have cz4:wr.cell? ⟨bz,oz+j * 8+4,none⟩=some (.string mz):=hcz 4 _ rfl
    have cz5:wr.cell? ⟨bz,oz+j * 8+5,none⟩=some (.int .i64 nz):=hcz 5 _ rfl
    have cz6:wr.cell? ⟨bz,oz+j * 8+6,none⟩=some (.slice pbz yz.length cbz):=hcz 6 _ rfl
    have cz7:wr.cell? ⟨bz,oz+j * 8+7,none⟩=some (.int .i64 qz):=hcz 7 _ rfl
    clear hcz hboz htz
    obtain ⟨bu,ou,pbu,cbu,rfl,hbu,hbou,hcu⟩:=HY.out.get j hlt2
    have hmu:=List.getElem_mem hlt2
    have htu:=List.take_succ_eq_append_getElem hlt2
    have HLu:=zh (Nat.succ_le_of_lt hlt2)
    generalize m[j]=xu at *
    obtain ⟨su,iu,du,hu,mu,nu,yu,qu⟩:=xu
    replace hbu:su.size≤1048576∧hu.size≤1048576∧mu.size≤1048576:=hbu.2
    have HTu:=zh htu
    have HYu:Hid (SL B2 w pbu cbu yu):=zh hbou
    have hcapu:yu.length≤cbu:=hbou.cap.1
    have hmaxu:=hbou.cap.2.1
    replace hcu:∀i_ u_,(tdc ⟨su,iu,du,hu,mu,nu,pbu,yu.length,cbu,qu⟩)[i_]?=some u_→wr.cell? ⟨bu,ou+j * 8+i_,none⟩=some u_:=fun i_ u_ h_=>Atv.kept (hcu i_ u_ h_) HG.out
    have cu0:wr.cell? ⟨bu,ou+j * 8,none⟩=some (.string su):=by simpa using hcu 0 _ rfl
    have cu1:wr.cell? ⟨bu,ou+j * 8+1,none⟩=some (.int .i64 iu):=hcu 1 _ rfl
    have cu2:wr.cell? ⟨bu,ou+j * 8+2,none⟩=some (.int .i64 du):=hcu 2 _ rfl
    have cu3:wr.cell? ⟨bu,ou+j * 8+3,none⟩=some (.string hu):=hcu 3 _ rfl
    have cu4:wr.cell? ⟨bu,ou+j * 8+4,none⟩=some (.string mu):=hcu 4 _ rfl
    have cu5:wr.cell? ⟨bu,ou+j * 8+5,none⟩=some (.int .i64 nu):=hcu 5 _ rfl
    have cu6:wr.cell? ⟨bu,ou+j * 8+6,none⟩=some (.slice pbu yu.length cbu):=hcu 6 _ rfl
    have cu7:wr.cell? ⟨bu,ou+j * 8+7,none⟩=some (.int .i64 qu):=hcu 7 _ rfl
    clear hcu hbou htu
    have hblu:bu < wr.heap.size:=World.block_lt_of_cell? _ _ cu0
    obtain ⟨d,hd⟩:∃d,R ⟨sz,iz,dz,hz,mz,nz,yz,qz⟩ ⟨su,iu,du,hu,mu,nu,yu,qu⟩=d:=⟨_,rfl⟩
    have HD:=zh hd
    have HC:=zh (fun W (hW:Grew w W)=>(show Calls Tryz.prog g (#[tv sz iz dz hz mz nz pbz yz.length cbz qz,tv su iu du hu mu nu pbu yu.length cbu qu]++cb) W fun e w'=>e=.returned (.bool d)∧Grew W w' from hd ▸ HF.out ⟨sz,iz,dz,hz,mz,nz,yz,qz⟩ hmz ⟨su,iu,du,hu,mu,nu,yu,qu⟩ hmu pbz cbz pbu cbu _ (HYz.out.kept hW) hbz (HYu.out.kept hW) hbu hW))
    have HNO:=zh (fun(h:d=false)=>HFJ.out (hd.trans h))
    have hltu:(j:Int) < (m.length:Int):=by omega
    clear hmz hmu hd HF HFALSE HFJ
    cases d with
    | false =>
      have HN2:Hid (b=false):=zh (HNO.out rfl)
      clear HNO
      go_wp2_with (go_at_fn g;refine(HC.out _ ((HG.out.alloc _).alloc _)).mono ?_;rintro e w1 ⟨rfl,g1⟩;have HG1:=zh (((HG.out.alloc _).alloc _).trans g1);clear g1)
      go_ret
      exact⟨ret_bool HN2.out.symm,HG1.out⟩
    | true =>
      go_wp2_with (go_at_fn g;refine(HC.out _ ((HG.out.alloc _).alloc _)).mono ?_;rintro e w1 ⟨rfl,g1⟩;have HG1:=zh (((HG.out.alloc _).alloc _).trans g1);clear g1)
      go_roundg (l.length - (j+1))
      case measure=>have:=HLz.out;omega
      case rel=>exact⟨j+1,by go_num,HLz.out,rfl,zh (by rw [HTz.out,HTu.out,all2_snoc _ _ _ _ HTL.out,HI.out,Bool.true_and];exact HD.out),HG1⟩
   ·obtain rfl:j=l.length:=by omega
    rw [List.take_length,HLE.out,List.take_length] at HI
    go_wp2
    go_ret
    exact⟨ret_bool (HI.out.symm.trans HOK.out),HG.out⟩
 ·have he:eqL R l m=false:=by rw [eqL,decide_eq_false hlen,Bool.false_and]
  rw [he]
  have hle2:(((l.length:Nat):Int) != ((m.length:Nat):Int))=true:=by rw [bne_iff_ne];omega
  clear he hx hy hf hlen
  go_enter Tryz.func72,Tryz.ntmps72
  go_wp2
  go_ret
  exact⟨rfl,Grew.refl _⟩
set_option maxHeartbeats 8000000 in
theorem eqfG_any (g:FuncId) (cb:Array Value) (eg:∀args w,(callFunc g args).run Tryz.prog w=.ok (.enter g args) w) (l m:List Gl) (R:Gl→Gl→Bool) (A B2:Nat→Prop) (w:World) (p p2:Option Addr) (c c2:Nat) (hx:InN FlatAt 4 glc A w p l.length c l) (hy:InN FlatAt 4 glc B2 w p2 m.length c2 m)
 (hf:∀x ∈ l,∀y ∈ m,∀(W:World),Grew w W→Calls Tryz.prog g (#[.agg #[.string x.s,.int .i64 x.l,.int .i16 x.i,.int .i64 x.q],.agg #[.string y.s,.int .i64 y.l,.int .i16 y.i,.int .i64 y.q]]++cb) W fun e w'=>e=.returned (.bool (R x y))∧Grew W w') :
 Calls Tryz.prog 67 #[.slice p l.length c,.slice p2 m.length c2,.func (.func g) #[] cb] w fun e w'=>e=.returned (.bool (eqL R l m))∧Grew w w':=by
 have hcap:=And.intro (hx.cap (hangsF encGl)) (hy.cap (hangsF encGl))
 by_cases hlen:l.length=m.length
 ·have HX:=zh hx
  have HY:=zh hy
  have HF:=zh hf
  rw [eqL,decide_eq_true hlen,Bool.true_and]
  obtain ⟨b,hb⟩:∃b,all2 R l m=b:=⟨_,rfl⟩
  have HOK:=zh hb
  have HLE:=zh hlen
  have HFALSE:=zh (fun(j:Nat) (hj:j < l.length) (hj':j < m.length) (h:R l[j] m[j]=false)=>(show b=false from hb ▸ all2_no l m j hj hj' h))
  rw [hb]
  have hle2:(((l.length:Nat):Int) != ((m.length:Nat):Int))=false:=by rw [hlen];simp
  clear hx hy hf hb hlen
  go_enter Tryz.func67,Tryz.ntmps67
  go_wp2
  go_loopg [7,8,9,17] l.length (fun gg iv7 xv_ yv_ iv wr=>∃(j:Nat),iv=.int .i64 (j:Int)∧j≤l.length∧gg=l.length - j∧Hid (all2 R (l.take j) (m.take j)=true)∧Hid (Grew w wr))
  case atStart=>exact⟨0,rfl,Nat.zero_le _,rfl,zh rfl,zh (Grew.refl _)⟩
  case round =>
   obtain ⟨j,rfl,hj,rfl,HI,HG⟩:=hrel
   by_cases hlt:j < l.length
   ·have hlt2:j < m.length:=by rw [← HLE.out];exact hlt
    have HFJ:=zh (HFALSE.out j hlt hlt2)
    have HTL:Hid ((l.take j).length=(m.take j).length):=zh (by rw [List.length_take,List.length_take,HLE.out])
    obtain ⟨bz,oz,rfl,hcz⟩:=HX.out.getF j hlt
    have hmz:=List.getElem_mem hlt
    have htz:=List.take_succ_eq_append_getElem hlt
    have HLz:=zh (Nat.succ_le_of_lt hlt)
    generalize l[j]=xz at *
    obtain ⟨sz,lz,iz,qz⟩:=xz
    have HTz:=zh htz
    replace hcz:∀i_ u_,([.string sz,.int .i64 lz,.int .i16 iz,.int .i64 qz]:List Value)[i_]?=some u_→wr.cell? ⟨bz,oz+j * 4+i_,none⟩=some u_:=fun i_ u_ h_=>Atv.kept (hcz i_ u_ h_) HG.out
    have cz0:wr.cell? ⟨bz,oz+j * 4,none⟩=some (.string sz):=by simpa using hcz 0 _ rfl
    have cz1:wr.cell? ⟨bz,oz+j * 4+1,none⟩=some (.int .i64 lz):=hcz 1 _ rfl
    have cz2:wr.cell? ⟨bz,oz+j * 4+2,none⟩=some (.int .i16 iz):=hcz 2 _ rfl
    have cz3:wr.cell? ⟨bz,oz+j * 4+3,none⟩=some (.int .i64 qz):=hcz 3 _ rfl
    clear hcz htz
    obtain ⟨bu,ou,rfl,hcu⟩:=HY.out.getF j hlt2
    have hmu:=List.getElem_mem hlt2
    have htu:=List.take_succ_eq_append_getElem hlt2
    have HLu:=zh (Nat.succ_le_of_lt hlt2)
    generalize m[j]=xu at *
    obtain ⟨su,lu,iu,qu⟩:=xu
    have HTu:=zh htu
    replace hcu:∀i_ u_,([.string su,.int .i64 lu,.int .i16 iu,.int .i64 qu]:List Value)[i_]?=some u_→wr.cell? ⟨bu,ou+j * 4+i_,none⟩=some u_:=fun i_ u_ h_=>Atv.kept (hcu i_ u_ h_) HG.out
    have cu0:wr.cell? ⟨bu,ou+j * 4,none⟩=some (.string su):=by simpa using hcu 0 _ rfl
    have cu1:wr.cell? ⟨bu,ou+j * 4+1,none⟩=some (.int .i64 lu):=hcu 1 _ rfl
    have cu2:wr.cell? ⟨bu,ou+j * 4+2,none⟩=some (.int .i16 iu):=hcu 2 _ rfl
    have cu3:wr.cell? ⟨bu,ou+j * 4+3,none⟩=some (.int .i64 qu):=hcu 3 _ rfl
    clear hcu htu
    have hblu:bu < wr.heap.size:=World.block_lt_of_cell? _ _ cu0
    obtain ⟨d,hd⟩:∃d,R ⟨sz,lz,iz,qz⟩ ⟨su,lu,iu,qu⟩=d:=⟨_,rfl⟩
    have HD:=zh hd
    have HC:=zh (fun W (hW:Grew w W)=>(show Calls Tryz.prog g (#[.agg #[.string sz,.int .i64 lz,.int .i16 iz,.int .i64 qz],.agg #[.string su,.int .i64 lu,.int .i16 iu,.int .i64 qu]]++cb) W fun e w'=>e=.returned (.bool d)∧Grew W w' from hd ▸ HF.out ⟨sz,lz,iz,qz⟩ hmz ⟨su,lu,iu,qu⟩ hmu _ hW))
    have HNO:=zh (fun(h:d=false)=>HFJ.out (hd.trans h))
    have hltu:(j:Int) < (m.length:Int):=by omega
    clear hmz hmu hd HF HFALSE HFJ
    cases d with
    | false =>
      have HN2:Hid (b=false):=zh (HNO.out rfl)
      clear HNO
      go_wp2_with (go_at_fn g;refine(HC.out _ ((HG.out.alloc _).alloc _)).mono ?_;rintro e w1 ⟨rfl,g1⟩;have HG1:=zh (((HG.out.alloc _).alloc _).trans g1);clear g1)
      go_ret
      exact⟨ret_bool HN2.out.symm,HG1.out⟩
    | true =>
      go_wp2_with (go_at_fn g;refine(HC.out _ ((HG.out.alloc _).alloc _)).mono ?_;rintro e w1 ⟨rfl,g1⟩;have HG1:=zh (((HG.out.alloc _).alloc _).trans g1);clear g1)
      go_roundg (l.length - (j+1))
      case measure=>have:=HLz.out;omega
      case rel=>exact⟨j+1,by go_num,HLz.out,rfl,zh (by rw [HTz.out,HTu.out,all2_snoc _ _ _ _ HTL.out,HI.out,Bool.true_and];exact HD.out),HG1⟩
   ·obtain rfl:j=l.length:=by omega
    rw [List.take_length,HLE.out,List.take_length] at HI
    go_wp2
    go_ret
    exact⟨ret_bool (HI.out.symm.trans HOK.out),HG.out⟩
 ·have he:eqL R l m=false:=by rw [eqL,decide_eq_false hlen,Bool.false_and]
  rw [he]
  have hle2:(((l.length:Nat):Int) != ((m.length:Nat):Int))=true:=by rw [bne_iff_ne];omega
  clear he hx hy hf hlen
  go_enter Tryz.func67,Tryz.ntmps67
  go_wp2
  go_ret
  exact⟨rfl,Grew.refl _⟩
set_option maxHeartbeats 8000000 in
theorem eqfH_any (g:FuncId) (cb:Array Value) (eg:∀args w,(callFunc g args).run Tryz.prog w=.ok (.enter g args) w) (l m:List Cn) (R:Cn→Cn→Bool) (A B2:Nat→Prop) (w:World) (p p2:Option Addr) (c c2:Nat) (hx:InN FlatAt 3 chc A w p l.length c l) (hy:InN FlatAt 3 chc B2 w p2 m.length c2 m)
 (hf:∀x ∈ l,∀y ∈ m,∀(W:World),Grew w W→Calls Tryz.prog g (#[.agg #[.string x.s,.int .i64 x.v,.int .i64 x.q],.agg #[.string y.s,.int .i64 y.v,.int .i64 y.q]]++cb) W fun e w'=>e=.returned (.bool (R x y))∧Grew W w') :
 Calls Tryz.prog 70 #[.slice p l.length c,.slice p2 m.length c2,.func (.func g) #[] cb] w fun e w'=>e=.returned (.bool (eqL R l m))∧Grew w w':=by
 have hcap:=And.intro (hx.cap (hangsF encCh)) (hy.cap (hangsF encCh))
 by_cases hlen:l.length=m.length
 ·have HX:=zh hx
  have HY:=zh hy
  have HF:=zh hf
  rw [eqL,decide_eq_true hlen,Bool.true_and]
  obtain ⟨b,hb⟩:∃b,all2 R l m=b:=⟨_,rfl⟩
  have HOK:=zh hb
  have HLE:=zh hlen
  have HFALSE:=zh (fun(j:Nat) (hj:j < l.length) (hj':j < m.length) (h:R l[j] m[j]=false)=>(show b=false from hb ▸ all2_no l m j hj hj' h))
  rw [hb]
  have hle2:(((l.length:Nat):Int) != ((m.length:Nat):Int))=false:=by rw [hlen];simp
  clear hx hy hf hb hlen
  go_enter Tryz.func70,Tryz.ntmps70
  go_wp2
  go_loopg [7,8,9,17] l.length (fun gg iv7 xv_ yv_ iv wr=>∃(j:Nat),iv=.int .i64 (j:Int)∧j≤l.length∧gg=l.length - j∧Hid (all2 R (l.take j) (m.take j)=true)∧Hid (Grew w wr))
  case atStart=>exact⟨0,rfl,Nat.zero_le _,rfl,zh rfl,zh (Grew.refl _)⟩
  case round =>
   obtain ⟨j,rfl,hj,rfl,HI,HG⟩:=hrel
   by_cases hlt:j < l.length
   ·have hlt2:j < m.length:=by rw [← HLE.out];exact hlt
    have HFJ:=zh (HFALSE.out j hlt hlt2)
    have HTL:Hid ((l.take j).length=(m.take j).length):=zh (by rw [List.length_take,List.length_take,HLE.out])
    obtain ⟨bz,oz,rfl,hcz⟩:=HX.out.getF j hlt
    have hmz:=List.getElem_mem hlt
    have htz:=List.take_succ_eq_append_getElem hlt
    have HLz:=zh (Nat.succ_le_of_lt hlt)
    generalize l[j]=xz at *
    obtain ⟨sz,vz,qz⟩:=xz
    have HTz:=zh htz
    replace hcz:∀i_ u_,([.string sz,.int .i64 vz,.int .i64 qz]:List Value)[i_]?=some u_→wr.cell? ⟨bz,oz+j * 3+i_,none⟩=some u_:=fun i_ u_ h_=>Atv.kept (hcz i_ u_ h_) HG.out
    have cz0:wr.cell? ⟨bz,oz+j * 3,none⟩=some (.string sz):=by simpa using hcz 0 _ rfl
    have cz1:wr.cell? ⟨bz,oz+j * 3+1,none⟩=some (.int .i64 vz):=hcz 1 _ rfl
    have cz2:wr.cell? ⟨bz,oz+j * 3+2,none⟩=some (.int .i64 qz):=hcz 2 _ rfl
    clear hcz htz
    obtain ⟨bu,ou,rfl,hcu⟩:=HY.out.getF j hlt2
    have hmu:=List.getElem_mem hlt2
    have htu:=List.take_succ_eq_append_getElem hlt2
    have HLu:=zh (Nat.succ_le_of_lt hlt2)
    generalize m[j]=xu at *
    obtain ⟨su,vu,qu⟩:=xu
    have HTu:=zh htu
    replace hcu:∀i_ u_,([.string su,.int .i64 vu,.int .i64 qu]:List Value)[i_]?=some u_→wr.cell? ⟨bu,ou+j * 3+i_,none⟩=some u_:=fun i_ u_ h_=>Atv.kept (hcu i_ u_ h_) HG.out
    have cu0:wr.cell? ⟨bu,ou+j * 3,none⟩=some (.string su):=by simpa using hcu 0 _ rfl
    have cu1:wr.cell? ⟨bu,ou+j * 3+1,none⟩=some (.int .i64 vu):=hcu 1 _ rfl
    have cu2:wr.cell? ⟨bu,ou+j * 3+2,none⟩=some (.int .i64 qu):=hcu 2 _ rfl
    clear hcu htu
    have hblu:bu < wr.heap.size:=World.block_lt_of_cell? _ _ cu0
    obtain ⟨d,hd⟩:∃d,R ⟨sz,vz,qz⟩ ⟨su,vu,qu⟩=d:=⟨_,rfl⟩
    have HD:=zh hd
    have HC:=zh (fun W (hW:Grew w W)=>(show Calls Tryz.prog g (#[.agg #[.string sz,.int .i64 vz,.int .i64 qz],.agg #[.string su,.int .i64 vu,.int .i64 qu]]++cb) W fun e w'=>e=.returned (.bool d)∧Grew W w' from hd ▸ HF.out ⟨sz,vz,qz⟩ hmz ⟨su,vu,qu⟩ hmu _ hW))
    have HNO:=zh (fun(h:d=false)=>HFJ.out (hd.trans h))
    have hltu:(j:Int) < (m.length:Int):=by omega
    clear hmz hmu hd HF HFALSE HFJ
    cases d with
    | false =>
      have HN2:Hid (b=false):=zh (HNO.out rfl)
      clear HNO
      go_wp2_with (go_at_fn g;refine(HC.out _ ((HG.out.alloc _).alloc _)).mono ?_;rintro e w1 ⟨rfl,g1⟩;have HG1:=zh (((HG.out.alloc _).alloc _).trans g1);clear g1)
      go_ret
      exact⟨ret_bool HN2.out.symm,HG1.out⟩
    | true =>
      go_wp2_with (go_at_fn g;refine(HC.out _ ((HG.out.alloc _).alloc _)).mono ?_;rintro e w1 ⟨rfl,g1⟩;have HG1:=zh (((HG.out.alloc _).alloc _).trans g1);clear g1)
      go_roundg (l.length - (j+1))
      case measure=>have:=HLz.out;omega
      case rel=>exact⟨j+1,by go_num,HLz.out,rfl,zh (by rw [HTz.out,HTu.out,all2_snoc _ _ _ _ HTL.out,HI.out,Bool.true_and];exact HD.out),HG1⟩
   ·obtain rfl:j=l.length:=by omega
    rw [List.take_length,HLE.out,List.take_length] at HI
    go_wp2
    go_ret
    exact⟨ret_bool (HI.out.symm.trans HOK.out),HG.out⟩
 ·have he:eqL R l m=false:=by rw [eqL,decide_eq_false hlen,Bool.false_and]
  rw [he]
  have hle2:(((l.length:Nat):Int) != ((m.length:Nat):Int))=true:=by rw [bne_iff_ne];omega
  clear he hx hy hf hlen
  go_enter Tryz.func70,Tryz.ntmps70
  go_wp2
  go_ret
  exact⟨rfl,Grew.refl _⟩
theorem eqS_eq2 (ka:Int) (sa:ByteArray) (na:Int) (ra:List Xp) (ya ea:List Sm) (qa kb:Int) (sb:ByteArray) (nb:Int) (rb:List Xp) (yb eb:List Sm) (qb:Int):(((((((ka)==(kb))&&(decide ((sa)=(sb))))&&((na)==(nb)))&&(eqL eqX ra rb))&&(eqL eqS ya yb))&&(eqL eqS ea eb))=eqS ⟨ka,sa,na,ra,ya,ea,qa⟩ ⟨kb,sb,nb,rb,yb,eb,qb⟩:=by
 rw [eqS_eq,eqHS,eqSs_eqL,eqSs_eqL,eqXs_all2,show eqL eqX ra rb=(decide (ra.length=rb.length)&&all2 eqX ra rb) from rfl]
 simp only [beq_dec,bne_dec]
 have hl:decide ((ra.length:Int)=(rb.length:Int))=decide (ra.length=rb.length):=by rw [decide_eq_decide];omega
 rw [hl]
 cases decide (ka=kb) <;> cases decide (sa=sb) <;> cases decide (na=nb) <;> cases decide (ra.length=rb.length) <;> cases all2 eqX ra rb <;> cases eqL eqS ya yb <;> cases eqL eqS ea eb <;> rfl
set_option maxHeartbeats 8000000 in
theorem eqSP_any:∀(x y:Sm) (A B:Nat→Prop) (w:World) (pa:Option Addr) (ca:Nat) (pb:Option Addr) (cb:Nat) (pe:Option Addr) (ce:Nat) (pa':Option Addr) (ca':Nat) (pb':Option Addr) (cb':Nat) (pe':Option Addr) (ce':Nat),XL A w pa ca x.ar→SL A w pb cb x.b→SL A w pe ce x.e→XL B w pa' ca' y.ar→SL B w pb' cb' y.b→SL B w pe' ce' y.e →
 Calls Tryz.prog 118 #[sv x.k x.s x.n pa x.ar.length ca pb x.b.length cb pe x.e.length ce x.q,sv y.k y.s y.n pa' y.ar.length ca' pb' y.b.length cb' pe' y.e.length ce' y.q] w fun e w'=>e=.returned (.bool (eqS x y))∧Grew w w':=by
 intro x
 induction x using Sm.ind with
 | h ka sa na ra ya ea qa ihb ihe =>
 intro y A B w pAa cAa pBa cBa pEa cEa pAb cAb pBb cBb pEb cEb hx hy he hx' hy' he'
 obtain ⟨kb,sb,nb,rb,yb,eb,qb⟩:=y
 replace hx:XL A w pAa cAa ra:=hx
 replace hy:SL A w pBa cBa ya:=hy
 replace he:SL A w pEa cEa ea:=he
 replace hx':XL B w pAb cAb rb:=hx'
 replace hy':SL B w pBb cBb yb:=hy'
 replace he':SL B w pEb cEb eb:=he'
 show Calls Tryz.prog 118 #[sv ka sa na pAa ra.length cAa pBa ya.length cBa pEa ea.length cEa qa,sv kb sb nb pAb rb.length cAb pBb yb.length cBb pEb eb.length cEb qb] w fun e w'=>e=.returned (.bool (eqS ⟨ka,sa,na,ra,ya,ea,qa⟩ ⟨kb,sb,nb,rb,yb,eb,qb⟩))∧Grew w w'
 have hcap:=And.intro (And.intro hx.cap.1 (And.intro hy.cap.1 he.cap.1)) (And.intro hx'.cap.1 (And.intro hy'.cap.1 he'.cap.1))
 have hmax:=And.intro (And.intro hx.cap.2.1 (And.intro hy.cap.2.1 he.cap.2.1)) (And.intro hx'.cap.2.1 (And.intro hy'.cap.2.1 he'.cap.2.1))
 have HEQ:=zh (eqS_eq2 ka sa na ra ya ea qa kb sb nb rb yb eb qb)
 have HEX:Hid (∀W,Grew w W→Calls Tryz.prog 75 #[.slice pAa ra.length cAa,.slice pAb rb.length cAb,.func (.func 23) #[] #[]] W fun e w'=>e=.returned (.bool (eqL eqX ra rb))∧Grew W w') :=
  zh (fun W hW=>eqfX_any 23 #[] en_eX ra rb eqX A B W pAa pAb cAa cAb (hx.kept hW) (hx'.kept hW) (fun x _ y _ a1 a2 b1 b2 W2 h1 _ h2 _ hW2=>eqXP_any x y A B W2 a1 b1 a2 b2 h1 h2))
 have HEY:Hid (∀W,Grew w W→Calls Tryz.prog 117 #[.slice pBa ya.length cBa,.slice pBb yb.length cBb,.func (.func 118) #[] #[]] W fun e w'=>e=.returned (.bool (eqL eqS ya yb))∧Grew W w') :=
  zh (fun W hW=>eqfS_any 118 #[] en_eS ya yb eqS A B W pBa pBb cBa cBb (hy.kept hW) (hy'.kept hW) (fun x hm y _ a1 a2 a3 a4 a5 a6 b1 b2 b3 b4 b5 b6 W2 h1 h2 h3 _ g1 g2 g3 _ hW2=>ihb x hm y A B W2 a1 a2 a3 a4 a5 a6 b1 b2 b3 b4 b5 b6 h1 h2 h3 g1 g2 g3))
 have HEE:Hid (∀W,Grew w W→Calls Tryz.prog 117 #[.slice pEa ea.length cEa,.slice pEb eb.length cEb,.func (.func 118) #[] #[]] W fun e w'=>e=.returned (.bool (eqL eqS ea eb))∧Grew W w') :=
  zh (fun W hW=>eqfS_any 118 #[] en_eS ea eb eqS A B W pEa pEb cEa cEb (he.kept hW) (he'.kept hW) (fun x hm y _ a1 a2 a3 a4 a5 a6 b1 b2 b3 b4 b5 b6 W2 h1 h2 h3 _ g1 g2 g3 _ hW2=>ihe x hm y A B W2 a1 a2 a3 a4 a5 a6 b1 b2 b3 b4 b5 b6 h1 h2 h3 g1 g2 g3))
 clear ihb ihe hx hy he hx' hy' he'
 go_enter Tryz.func118,Tryz.ntmps118
 go_upto_region 1 with fail
 have hb1:Blk w.heap.size [.int .i64 ka,.string sa,.int .i64 na,.slice pAa ra.length cAa,.slice pBa ya.length cBa,.slice pEa ea.length cEa,.int .i64 qa] 49 (w.alloc (Obj.cells #[.int .i64 ka,.string sa,.int .i64 na,.slice pAa ra.length cAa,.slice pBa ya.length cBa,.slice pEa ea.length cEa,.int .i64 qa] 49)):=Blk.new w _ _
 have hb2:Blk (w.alloc (Obj.cells #[.int .i64 ka,.string sa,.int .i64 na,.slice pAa ra.length cAa,.slice pBa ya.length cBa,.slice pEa ea.length cEa,.int .i64 qa] 49)).heap.size [.int .i64 kb,.string sb,.int .i64 nb,.slice pAb rb.length cAb,.slice pBb yb.length cBb,.slice pEb eb.length cEb,.int .i64 qb] 49 ((w.alloc (Obj.cells #[.int .i64 ka,.string sa,.int .i64 na,.slice pAa ra.length cAa,.slice pBa ya.length cBa,.slice pEa ea.length cEa,.int .i64 qa] 49)).alloc (Obj.cells #[.int .i64 kb,.string sb,.int .i64 nb,.slice pAb rb.length cAb,.slice pBb yb.length cBb,.slice pEb eb.length cEb,.int .i64 qb] 49)):=Blk.new _ _ _
 have hb3:=hb1.grew ((Grew.refl _).alloc (Obj.cells #[.int .i64 kb,.string sb,.int .i64 nb,.slice pAb rb.length cAb,.slice pBb yb.length cBb,.slice pEb eb.length cEb,.int .i64 qb] 49))
 have hgV:Grew w ((w.alloc (Obj.cells #[.int .i64 ka,.string sa,.int .i64 na,.slice pAa ra.length cAa,.slice pBa ya.length cBa,.slice pEa ea.length cEa,.int .i64 qa] 49)).alloc (Obj.cells #[.int .i64 kb,.string sb,.int .i64 nb,.slice pAb rb.length cAb,.slice pBb yb.length cBb,.slice pEb eb.length cEb,.int .i64 qb] 49)):=((Grew.refl w).alloc _).alloc _
 rw [alloc_sz] at hb2
 try rw [alloc_sz]
 generalize ((w.alloc (Obj.cells #[.int .i64 ka,.string sa,.int .i64 na,.slice pAa ra.length cAa,.slice pBa ya.length cBa,.slice pEa ea.length cEa,.int .i64 qa] 49)).alloc (Obj.cells #[.int .i64 kb,.string sb,.int .i64 nb,.slice pAb rb.length cAb,.slice pBb yb.length cBb,.slice pEb eb.length cEb,.int .i64 qb] 49))=V at hb2 hb3 hgV ⊢
 generalize w.heap.size+1=U at hb2 ⊢
 generalize w.heap.size=T at hb3 ⊢
 have HGV:=zh hgV
 have d0:Atv ⟨T,0,none⟩ (.int .i64 ka) V:=hb3.atv 0 rfl
 have d1:Atv ⟨T,1,none⟩ (.string sa) V:=hb3.atv 1 rfl
 have d2:Atv ⟨T,2,none⟩ (.int .i64 na) V:=hb3.atv 2 rfl
 have d3:Atv ⟨T,3,none⟩ (.slice pAa ra.length cAa) V:=hb3.atv 3 rfl
 have d4:Atv ⟨T,4,none⟩ (.slice pBa ya.length cBa) V:=hb3.atv 4 rfl
 have d5:Atv ⟨T,5,none⟩ (.slice pEa ea.length cEa) V:=hb3.atv 5 rfl
 have d6:Atv ⟨T,6,none⟩ (.int .i64 qa) V:=hb3.atv 6 rfl
 have e0:Atv ⟨U,0,none⟩ (.int .i64 kb) V:=hb2.atv 0 rfl
 have e1:Atv ⟨U,1,none⟩ (.string sb) V:=hb2.atv 1 rfl
 have e2:Atv ⟨U,2,none⟩ (.int .i64 nb) V:=hb2.atv 2 rfl
 have e3:Atv ⟨U,3,none⟩ (.slice pAb rb.length cAb) V:=hb2.atv 3 rfl
 have e4:Atv ⟨U,4,none⟩ (.slice pBb yb.length cBb) V:=hb2.atv 4 rfl
 have e5:Atv ⟨U,5,none⟩ (.slice pEb eb.length cEb) V:=hb2.atv 5 rfl
 have e6:Atv ⟨U,6,none⟩ (.int .i64 qb) V:=hb2.atv 6 rfl
 clear hb1 hb2 hb3 hgV
 refine wp_postsL [some 5,some 6,some 7,some 8,some 9,some 10,some 11,some 12,some 13,some 14,some 15,some 16,some 17,some 18,some 19,some 20,some 21,some 22,some 23,some 24,some 25,some 26,some 27,some 28,some 29,some 30,some 31,some 32,some 33,some 34,some 35,some 36,some 37,some 38,some 39,some 40,some 41,some 42,some 43,some 44,some 4] zD0 [fun v _=>v=.pointer (some ⟨T,0,none⟩),fun v _=>v=.int .i64 (ka),fun v _=>v=.pointer (some ⟨U,0,none⟩),fun v _=>v=.int .i64 (kb),fun v _=>v=.bool ((ka)==(kb)),fun v _=>v=.bool ((ka)==(kb)),fun v _=>Zg (((ka)==(kb))=true) (.pointer (some ⟨T,1,none⟩)) v,fun v _=>Zg (((ka)==(kb))=true) (.string sa) v,fun v _=>Zg (((ka)==(kb))=true) (.pointer (some ⟨U,1,none⟩)) v,fun v _=>Zg (((ka)==(kb))=true) (.string sb) v,fun v _=>Zg (((ka)==(kb))=true) (.bool (decide ((sa)=(sb)))) v,fun v _=>v=.bool (((ka)==(kb))&&(decide ((sa)=(sb)))),fun v _=>v=.bool (((ka)==(kb))&&(decide ((sa)=(sb)))),fun v _=>Zg ((((ka)==(kb))&&(decide ((sa)=(sb))))=true) (.pointer (some ⟨T,2,none⟩)) v,fun v _=>Zg ((((ka)==(kb))&&(decide ((sa)=(sb))))=true) (.int .i64 (na)) v,fun v _=>Zg ((((ka)==(kb))&&(decide ((sa)=(sb))))=true) (.pointer (some ⟨U,2,none⟩)) v,fun v _=>Zg ((((ka)==(kb))&&(decide ((sa)=(sb))))=true) (.int .i64 (nb)) v,fun v _=>Zg ((((ka)==(kb))&&(decide ((sa)=(sb))))=true) (.bool ((na)==(nb))) v,fun v _=>v=.bool ((((ka)==(kb))&&(decide ((sa)=(sb))))&&((na)==(nb))),fun v _=>v=.bool ((((ka)==(kb))&&(decide ((sa)=(sb))))&&((na)==(nb))),fun v _=>Zg (((((ka)==(kb))&&(decide ((sa)=(sb))))&&((na)==(nb)))=true) (.pointer (some ⟨T,3,none⟩)) v,fun v _=>Zg (((((ka)==(kb))&&(decide ((sa)=(sb))))&&((na)==(nb)))=true) (.slice pAa (ra.length) (cAa)) v,fun v _=>Zg (((((ka)==(kb))&&(decide ((sa)=(sb))))&&((na)==(nb)))=true) (.pointer (some ⟨U,3,none⟩)) v,fun v _=>Zg (((((ka)==(kb))&&(decide ((sa)=(sb))))&&((na)==(nb)))=true) (.slice pAb (rb.length) (cAb)) v,fun v _=>Zg (((((ka)==(kb))&&(decide ((sa)=(sb))))&&((na)==(nb)))=true) (.bool (eqL eqX ra rb)) v,fun v _=>v=.bool (((((ka)==(kb))&&(decide ((sa)=(sb))))&&((na)==(nb)))&&(eqL eqX ra rb)),fun v _=>v=.bool (((((ka)==(kb))&&(decide ((sa)=(sb))))&&((na)==(nb)))&&(eqL eqX ra rb)),fun v _=>Zg ((((((ka)==(kb))&&(decide ((sa)=(sb))))&&((na)==(nb)))&&(eqL eqX ra rb))=true) (.pointer (some ⟨T,4,none⟩)) v,fun v _=>Zg ((((((ka)==(kb))&&(decide ((sa)=(sb))))&&((na)==(nb)))&&(eqL eqX ra rb))=true) (.slice pBa (ya.length) (cBa)) v,fun v _=>Zg ((((((ka)==(kb))&&(decide ((sa)=(sb))))&&((na)==(nb)))&&(eqL eqX ra rb))=true) (.pointer (some ⟨U,4,none⟩)) v,fun v _=>Zg ((((((ka)==(kb))&&(decide ((sa)=(sb))))&&((na)==(nb)))&&(eqL eqX ra rb))=true) (.slice pBb (yb.length) (cBb)) v,fun v _=>Zg ((((((ka)==(kb))&&(decide ((sa)=(sb))))&&((na)==(nb)))&&(eqL eqX ra rb))=true) (.bool (eqL eqS ya yb)) v,fun v _=>v=.bool ((((((ka)==(kb))&&(decide ((sa)=(sb))))&&((na)==(nb)))&&(eqL eqX ra rb))&&(eqL eqS ya yb)),fun v _=>v=.bool ((((((ka)==(kb))&&(decide ((sa)=(sb))))&&((na)==(nb)))&&(eqL eqX ra rb))&&(eqL eqS ya yb)),fun v _=>Zg (((((((ka)==(kb))&&(decide ((sa)=(sb))))&&((na)==(nb)))&&(eqL eqX ra rb))&&(eqL eqS ya yb))=true) (.pointer (some ⟨T,5,none⟩)) v,fun v _=>Zg (((((((ka)==(kb))&&(decide ((sa)=(sb))))&&((na)==(nb)))&&(eqL eqX ra rb))&&(eqL eqS ya yb))=true) (.slice pEa (ea.length) (cEa)) v,fun v _=>Zg (((((((ka)==(kb))&&(decide ((sa)=(sb))))&&((na)==(nb)))&&(eqL eqX ra rb))&&(eqL eqS ya yb))=true) (.pointer (some ⟨U,5,none⟩)) v,fun v _=>Zg (((((((ka)==(kb))&&(decide ((sa)=(sb))))&&((na)==(nb)))&&(eqL eqX ra rb))&&(eqL eqS ya yb))=true) (.slice pEb (eb.length) (cEb)) v,fun v _=>Zg (((((((ka)==(kb))&&(decide ((sa)=(sb))))&&((na)==(nb)))&&(eqL eqX ra rb))&&(eqL eqS ya yb))=true) (.bool (eqL eqS ea eb)) v,fun v _=>v=.bool (((((((ka)==(kb))&&(decide ((sa)=(sb))))&&((na)==(nb)))&&(eqL eqX ra rb))&&(eqL eqS ya yb))&&(eqL eqS ea eb)),fun v _=>v=.bool (((((((ka)==(kb))&&(decide ((sa)=(sb))))&&((na)==(nb)))&&(eqL eqX ra rb))&&(eqL eqS ya yb))&&(eqL eqS ea eb))] (by kernel_rfl) rfl ?_ ⟨?_,?_,?_,?_,?_,?_,?_,?_,?_,?_,?_,?_,?_,?_,?_,?_,?_,?_,?_,?_,?_,?_,?_,?_,?_,?_,?_,?_,?_,?_,?_,?_,?_,?_,?_,?_,?_,?_,?_,?_,?_,trivial⟩ ?_
 ·exact⟨Zi,Zi,Zi,Zi,Zi,Zi,Zi,Zi,Zi,Zi,Zi,Zi,Zi,Zi,Zi,Zi,Zi,Zi,Zi,Zi,Zi,Zi,Zi,Zi,Zi,Zi,Zi,Zi,Zi,Zi,Zi,Zi,Zi,Zi,Zi,Zi,Zi,Zi,Zi,Zi,Zi,trivial⟩
 ·intro u w hR hd;exact rn_fld_49_0 (ev rfl) Zr
 ·intro u w hR hd;exact rn_ld_3 (ev (hd.1 rfl)) (d0.kept hR) Zr
 ·intro u w hR hd;exact rn_fld_49_0 (ev rfl) Zr
 ·intro u w hR hd;exact rn_ld_3 (ev (hd.1 rfl)) (e0.kept hR) Zr
 ·intro u w hR hd;exact rn_eql_3 (ev (hd.1 rfl)) (ev (hd.2.1 rfl)) Zr
 ·intro u w hR hd;exact runs_mv (ev (hd.1 rfl)) Zr
 ·intro u w hR hd;exact⟨fun hg=>have hG:=Zh (hd.1 rfl) hg;rn_fld_49_1 (ev rfl) (Zs hG),Zn (hd.1 rfl)⟩
 ·intro u w hR hd;exact⟨fun hg=>have hG:=Zh (hd.2.1 rfl) hg;rn_ld_9 (ev ((hd.1 rfl).1 hG)) (d1.kept hR) (Zs hG),Zn (hd.2.1 rfl)⟩
 ·intro u w hR hd;exact⟨fun hg=>have hG:=Zh (hd.1 rfl) hg;rn_fld_49_1 (ev rfl) (Zs hG),Zn (hd.1 rfl)⟩
 ·intro u w hR hd;exact⟨fun hg=>have hG:=Zh (hd.2.1 rfl) hg;rn_ld_9 (ev ((hd.1 rfl).1 hG)) (e1.kept hR) (Zs hG),Zn (hd.2.1 rfl)⟩
 ·intro u w hR hd;exact⟨fun hg=>have hG:=Zh (hd.2.2.1 rfl) hg;rn_eqs_9 (ev ((hd.1 rfl).1 hG)) (ev ((hd.2.1 rfl).1 hG)) (Zs hG),Zn (hd.2.2.1 rfl)⟩
 ·intro u w hR hd;exact runs_an (ev (hd.1 rfl)) (fun hb=>ev ((hd.2.1 rfl).1 hb)) Zr
 ·intro u w hR hd;exact runs_mv (ev (hd.1 rfl)) Zr
 ·intro u w hR hd;exact⟨fun hg=>have hG:=Zh (hd.1 rfl) hg;rn_fld_49_2 (ev rfl) (Zs hG),Zn (hd.1 rfl)⟩
 ·intro u w hR hd;exact⟨fun hg=>have hG:=Zh (hd.2.1 rfl) hg;rn_ld_3 (ev ((hd.1 rfl).1 hG)) (d2.kept hR) (Zs hG),Zn (hd.2.1 rfl)⟩
 ·intro u w hR hd;exact⟨fun hg=>have hG:=Zh (hd.1 rfl) hg;rn_fld_49_2 (ev rfl) (Zs hG),Zn (hd.1 rfl)⟩
 ·intro u w hR hd;exact⟨fun hg=>have hG:=Zh (hd.2.1 rfl) hg;rn_ld_3 (ev ((hd.1 rfl).1 hG)) (e2.kept hR) (Zs hG),Zn (hd.2.1 rfl)⟩
 ·intro u w hR hd;exact⟨fun hg=>have hG:=Zh (hd.2.2.1 rfl) hg;rn_eql_3 (ev ((hd.1 rfl).1 hG)) (ev ((hd.2.1 rfl).1 hG)) (Zs hG),Zn (hd.2.2.1 rfl)⟩
 ·intro u w hR hd;exact runs_an (ev (hd.1 rfl)) (fun hb=>ev ((hd.2.1 rfl).1 hb)) Zr
 ·intro u w hR hd;exact runs_mv (ev (hd.1 rfl)) Zr
 ·intro u w hR hd;exact⟨fun hg=>have hG:=Zh (hd.1 rfl) hg;rn_fld_49_3 (ev rfl) (Zs hG),Zn (hd.1 rfl)⟩
 ·intro u w hR hd;exact⟨fun hg=>have hG:=Zh (hd.2.1 rfl) hg;rn_ld_33 (ev ((hd.1 rfl).1 hG)) (d3.kept hR) (Zs hG),Zn (hd.2.1 rfl)⟩
 ·intro u w hR hd;exact⟨fun hg=>have hG:=Zh (hd.1 rfl) hg;rn_fld_49_3 (ev rfl) (Zs hG),Zn (hd.1 rfl)⟩
 ·intro u w hR hd;exact⟨fun hg=>have hG:=Zh (hd.2.1 rfl) hg;rn_ld_33 (ev ((hd.1 rfl).1 hG)) (e3.kept hR) (Zs hG),Zn (hd.2.1 rfl)⟩
 ·intro u w hR hd;exact⟨fun hg=>have hG:=Zh (hd.2.2.1 rfl) hg;runs_c3 en_efX (ev ((hd.1 rfl).1 hG)) (ev ((hd.2.1 rfl).1 hG)) rfl (callp (fun _ e=>⟨fun _=>e,fun hn=>absurd hG hn⟩) (HEX.out _ (HGV.out.trans hR))),Zn (hd.2.2.1 rfl)⟩
 ·intro u w hR hd;exact runs_an (ev (hd.1 rfl)) (fun hb=>ev ((hd.2.1 rfl).1 hb)) Zr
 ·intro u w hR hd;exact runs_mv (ev (hd.1 rfl)) Zr
 ·intro u w hR hd;exact⟨fun hg=>have hG:=Zh (hd.1 rfl) hg;rn_fld_49_4 (ev rfl) (Zs hG),Zn (hd.1 rfl)⟩
 ·intro u w hR hd;exact⟨fun hg=>have hG:=Zh (hd.2.1 rfl) hg;rn_ld_40 (ev ((hd.1 rfl).1 hG)) (d4.kept hR) (Zs hG),Zn (hd.2.1 rfl)⟩
 ·intro u w hR hd;exact⟨fun hg=>have hG:=Zh (hd.1 rfl) hg;rn_fld_49_4 (ev rfl) (Zs hG),Zn (hd.1 rfl)⟩
 ·intro u w hR hd;exact⟨fun hg=>have hG:=Zh (hd.2.1 rfl) hg;rn_ld_40 (ev ((hd.1 rfl).1 hG)) (e4.kept hR) (Zs hG),Zn (hd.2.1 rfl)⟩
 ·intro u w hR hd;exact⟨fun hg=>have hG:=Zh (hd.2.2.1 rfl) hg;runs_c3 en_efS (ev ((hd.1 rfl).1 hG)) (ev ((hd.2.1 rfl).1 hG)) rfl (callp (fun _ e=>⟨fun _=>e,fun hn=>absurd hG hn⟩) (HEY.out _ (HGV.out.trans hR))),Zn (hd.2.2.1 rfl)⟩
 ·intro u w hR hd;exact runs_an (ev (hd.1 rfl)) (fun hb=>ev ((hd.2.1 rfl).1 hb)) Zr
 ·intro u w hR hd;exact runs_mv (ev (hd.1 rfl)) Zr
 ·intro u w hR hd;exact⟨fun hg=>have hG:=Zh (hd.1 rfl) hg;rn_fld_49_5 (ev rfl) (Zs hG),Zn (hd.1 rfl)⟩
 ·intro u w hR hd;exact⟨fun hg=>have hG:=Zh (hd.2.1 rfl) hg;rn_ld_40 (ev ((hd.1 rfl).1 hG)) (d5.kept hR) (Zs hG),Zn (hd.2.1 rfl)⟩
 ·intro u w hR hd;exact⟨fun hg=>have hG:=Zh (hd.1 rfl) hg;rn_fld_49_5 (ev rfl) (Zs hG),Zn (hd.1 rfl)⟩
 ·intro u w hR hd;exact⟨fun hg=>have hG:=Zh (hd.2.1 rfl) hg;rn_ld_40 (ev ((hd.1 rfl).1 hG)) (e5.kept hR) (Zs hG),Zn (hd.2.1 rfl)⟩
 ·intro u w hR hd;exact⟨fun hg=>have hG:=Zh (hd.2.2.1 rfl) hg;runs_c3 en_efS (ev ((hd.1 rfl).1 hG)) (ev ((hd.2.1 rfl).1 hG)) rfl (callp (fun _ e=>⟨fun _=>e,fun hn=>absurd hG hn⟩) (HEE.out _ (HGV.out.trans hR))),Zn (hd.2.2.1 rfl)⟩
 ·intro u w hR hd;exact runs_an (ev (hd.1 rfl)) (fun hb=>ev ((hd.2.1 rfl).1 hb)) Zr
 ·intro u w hR hd;exact runs_mva (ev (hd.1 rfl)) Zr
 ·intro u w4 hR hh
  have he:u 4=.bool (((((((ka)==(kb))&&(decide ((sa)=(sb))))&&((na)==(nb)))&&(eqL eqX ra rb))&&(eqL eqS ya yb))&&(eqL eqS ea eb)):=hh 40 (by decide)
  rw [HEQ.out] at he
  simp only [mixA,mixL,zz9,zz0,he]
  have HG4:Hid (Grew w w4):=zh (HGV.out.trans hR)
  clear hh he hR d0 d1 d2 d3 d4 d5 d6 e0 e1 e2 e3 e4 e5 e6 HGV
  go_wp2
  go_ret
  exact⟨rfl,HG4.out⟩
section
variable {dst:Option Tmp}{ty:TypeId}{pos:String}{after:Array Edge}{g:Option (Nat × Bool)}{a:Act}{w:World}{T:Value→World→Prop}
end
set_option maxHeartbeats 8000000 in
theorem eqN_any (l m:List ByteArray) (A B2:Nat→Prop) (w:World) (p p2:Option Addr) (c c2:Nat) (hx:InN FlatAt 1 strc A w p l.length c l) (hy:InN FlatAt 1 strc B2 w p2 m.length c2 m) :
 Calls Tryz.prog 69 #[.slice p l.length c,.slice p2 m.length c2] w fun e w'=>e=.returned (.bool (decide (l=m)))∧Grew w w':=by
 have hcap:=And.intro (hx.cap (hangsF encStr)) (hy.cap (hangsF encStr))
 by_cases hlen:l.length=m.length
 ·have HX:=zh hx
  have HY:=zh hy
  have HLE:=zh hlen
  obtain ⟨b,hb⟩:∃b,decide (l=m)=b:=⟨_,rfl⟩
  have HOK:=zh hb
  have HNO:=zh (fun(j:Nat) (hj:j < l.length) (hj':j < m.length) (h:l[j]≠m[j])=>(show b=false from hb ▸ decide_eq_false (fun e=>h (by subst e;rfl))))
  have HYES:=zh (fun(h:∀(j:Nat) (hj:j < l.length) (hj':j < m.length),l[j]=m[j])=>(show b=true from hb ▸ decide_eq_true (List.ext_getElem hlen h)))
  rw [hb]
  have hle2:(((l.length:Nat):Int) != ((m.length:Nat):Int))=false:=by rw [hlen];simp
  clear hx hy hb hlen
  go_enter Tryz.func69,Tryz.ntmps69
  go_wp2
  go_loopg [5,13] l.length (fun gg iv5 iv wr=>∃(j:Nat),iv=.int .i64 (j:Int)∧j≤l.length∧gg=l.length - j∧Hid (∀(i:Nat) (hi:i < l.length) (hi':i < m.length),i < j→l[i]=m[i])∧Hid (Grew w wr))
  case atStart=>exact⟨0,rfl,Nat.zero_le _,rfl,zh (fun i _ _ h=>absurd h (Nat.not_lt_zero _)),zh (Grew.refl _)⟩
  case round =>
   obtain ⟨j,rfl,hj,rfl,HI,HG⟩:=hrel
   by_cases hlt:j < l.length
   ·have hlt2:j < m.length:=by rw [← HLE.out];exact hlt
    have HFJ:=zh (HNO.out j hlt hlt2)
    have HLz:=zh (Nat.succ_le_of_lt hlt)
    obtain ⟨bz,oz,rfl,hcz⟩:=HX.out.getF j hlt
    obtain ⟨bu,ou,rfl,hcu⟩:=HY.out.getF j hlt2
    have HEJ:Hid (l[j]=m[j]→∀(i:Nat) (hi:i < l.length) (hi':i < m.length),i < j+1→l[i]=m[i]):=zh (fun h i hi hi' hij=>by
     rcases Nat.lt_or_ge i j with h1 | h1
     ·exact HI.out i hi hi' h1
     ·obtain rfl:i=j:=by omega
      exact h)
    have cz0:w.cell? ⟨bz,oz+j,none⟩=some (.string l[j]):=by have h_:=hcz 0 _ rfl;rw [Nat.mul_one] at h_;exact h_
    have cu0:w.cell? ⟨bu,ou+j,none⟩=some (.string m[j]):=by have h_:=hcu 0 _ rfl;rw [Nat.mul_one] at h_;exact h_
    generalize l[j]=xz at cz0 HFJ HEJ
    generalize m[j]=xu at cu0 HFJ HEJ
    have f0:Atv ⟨bz,oz+j,none⟩ (.string xz) wr.drew:=Atv.kept cz0 (HG.out.trans (Grew.refl _).drw)
    have g0:Atv ⟨bu,ou+j,none⟩ (.string xu) wr.drew:=Atv.kept cu0 (HG.out.trans (Grew.refl _).drw)
    have hltu:(j:Int) < (m.length:Int):=by omega
    clear hcz hcu cz0 cu0
    go_upto_region 6 with fail
    refine wp_still [some 16,some 17,some 18,some 19,some 20,some 21,some 22,some 23,some 24] (Zfe (Ztd (Zta (Zfa [])))) [fun v _=>v=.slice (some ⟨bz,oz,none⟩) (l.length) (c),fun v _=>v=.int .i64 (((j:Nat):Int)),fun v _=>v=.pointer (some ⟨bz,oz+j,none⟩),fun v _=>v=.string xz,fun v _=>v=.slice (some ⟨bu,ou,none⟩) (m.length) (c2),fun v _=>v=.int .i64 (((j:Nat):Int)),fun v _=>v=.pointer (some ⟨bu,ou+j,none⟩),fun v _=>v=.string xu,fun v _=>v=.bool (!decide ((xz)=(xu)))] (by kernel_rfl) (by kernel_rfl) rfl ⟨?_,?_,?_,?_,?_,?_,?_,?_,?_,trivial⟩ ?_
    ·intro u w hR hd;exact runs_mv (ev rfl) ⟨rfl,rfl⟩
    ·intro u w hR hd;exact runs_mv (ev rfl) ⟨rfl,rfl⟩
    ·intro u w hR hd;exact rn_idx_24 (j) (ev (hd.1 rfl)) (ev (hd.2.1 rfl)) (by omega) ⟨rfl,rfl⟩
    ·intro u w hR hd;exact rn_ld_9 (ev (hd.1 rfl)) (f0.kept hR) ⟨rfl,rfl⟩
    ·intro u w hR hd;exact runs_mv (ev rfl) ⟨rfl,rfl⟩
    ·intro u w hR hd;exact runs_mv (ev rfl) ⟨rfl,rfl⟩
    ·intro u w hR hd;exact rn_idx_24 (j) (ev (hd.1 rfl)) (ev (hd.2.1 rfl)) (by omega) ⟨rfl,rfl⟩
    ·intro u w hR hd;exact rn_ld_9 (ev (hd.1 rfl)) (g0.kept hR) ⟨rfl,rfl⟩
    ·intro u w hR hd;exact rn_nes_9 (ev (hd.1 rfl)) (ev (hd.2.1 rfl)) ⟨rfl,rfl⟩
    ·intro u h
     have he:u 24=.bool (!decide ((xz)=(xu))):=h 8 (by decide)
     have HG4:=zh (HG.out.trans (Grew.refl wr).drw)
     by_cases hxe:xz=xu
     ·have hx2:(!decide ((xz)=(xu)))=false:=by rw [decide_eq_true hxe];rfl
      rw [hx2] at he
      have HEN:=zh (HEJ.out hxe)
      simp only [mixA,mixL,zz9,zz0,he]
      clear h he hx2 hxe f0 g0 HEJ HFJ
      go_wp2
      go_roundg (l.length - (j+1))
      case measure=>have:=HLz.out;omega
      case rel=>exact⟨j+1,by go_num,HLz.out,rfl,HEN,HG4⟩
     ·have hx2:(!decide ((xz)=(xu)))=true:=by rw [decide_eq_false hxe];rfl
      rw [hx2] at he
      have HN2:=zh (HFJ.out hxe)
      simp only [mixA,mixL,zz9,zz0,he]
      clear h he hx2 hxe f0 g0 HEJ HFJ
      go_wp2
      go_ret
      exact⟨ret_bool HN2.out.symm,HG4.out⟩
   ·obtain rfl:j=l.length:=by omega
    have HZ:=zh (HYES.out (fun i hi hi'=>HI.out i hi hi' hi))
    go_wp2
    go_ret
    exact⟨ret_bool HZ.out.symm,HG.out⟩
 ·have he:decide (l=m)=false:=decide_eq_false (fun e=>hlen (by rw [e]))
  rw [he]
  have hle2:(((l.length:Nat):Int) != ((m.length:Nat):Int))=true:=by rw [bne_iff_ne];omega
  clear he hx hy hlen
  go_enter Tryz.func69,Tryz.ntmps69
  go_wp2
  go_ret
  exact⟨rfl,Grew.refl _⟩
end Go.Proofs.YtcknpcbkofgdoaaGreatDoor
