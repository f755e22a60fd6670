/-
  LAYER 16 (ast), THE PROGRAM: every, at its seven types.
  LAYER 16 (ast), THE PROGRAM: what its tests of parts of a program say.
  LAYER 16 (ast), THE PROGRAM: formedConst, formedGlobal, formedChannel.
  LAYER 16 (ast), THE PROGRAM: what formedExpr says.
  LAYER 16 (ast), THE PROGRAM: formedExpr.
  LAYER 16 (ast), THE PROGRAM: what formedStmt says.
-/
import Derived.Test.YtcknpcbkofgdoaaGreatDoorZeShort
import Derived.Test.YtcknpcbkofgdoaaGreatDoorZe02
import Derived.Test.YtcknpcbkofgdoaaGreatDoorZe01
import Derived.Test.YtcknpcbkofgdoaaGreatDoorZe00
import Derived.Deep.LoopGhost
import Derived.Deep.Cut
import Derived.Shelf.Abstract
import Derived.Test.YtcknpcbkofgdoaaGreatDoorZe03
namespace Go.Proofs.YtcknpcbkofgdoaaGreatDoor
open Go Go.RowKit Go.IntWalk
set_option linter.unusedSimpArgs false
set_option linter.unusedVariables false
set_option maxRecDepth 8000
set_option maxHeartbeats 4000000 in
theorem everyX_any (g:FuncId) (cb:Array Value) (eg:∀args w,(callFunc g args).run Tryz.prog w=.ok (.enter g args) w) (l:List Xp) (P:Xp→Bool) (B:Nat→Prop) (w:World) (p:Option Addr) (c:Nat) (hx:XL B w p c l)
 (hf:∀x ∈ l,∀(p_:Option Addr) (c_:Nat) (W:World),XL B W p_ c_ x.ar→x.s.size≤1048576∧x.v≤32767→Grew w W→Calls Tryz.prog g (#[xv x.k x.s x.v x.o p_ x.ar.length c_ x.q]++cb) W fun e w'=>e=.returned (.bool (P x))∧Grew W w') :
 Calls Tryz.prog 100 #[.slice p l.length c,.func (.func g) #[] cb] w fun e w'=>e=.returned (.bool (l.all P))∧Grew w w':=by
 have HX:=zh hx
 have HF:=zh hf
 have hcap:l.length≤c:=hx.cap.1
 have hmax:=hx.cap.2.1
 obtain ⟨b,hb⟩:∃b,l.all P=b:=⟨_,rfl⟩
 have HOK:=zh hb
 have HFALSE:=zh (fun(x:Xp) (hm:x ∈ l) (h:P x=false)=>(show b=false from hb ▸ all_no hm h))
 rw [hb]
 clear hx hf hb
 go_enter Tryz.func100,Tryz.ntmps100
 go_wp2
 go_loopg [6,9] l.length (fun gg xv_ iv wr=>∃(j:Nat),iv=.int .i64 (j:Int)∧j≤l.length∧gg=l.length - j∧Hid ((l.take j).all P=true)∧Hid (Grew w wr))
 case atStart=>exact⟨0,rfl,Nat.zero_le _,rfl,zh rfl,zh (Grew.refl _)⟩
 case round =>
  obtain ⟨j,rfl,hj,rfl,HI,HG⟩:=hrel
  by_cases hlt:j < l.length
  ·
   obtain ⟨bz,oz,pz,cz,rfl,hbz,haz,hcz⟩:=HX.out.get j hlt
   have hmz:=List.getElem_mem hlt
   have hnz:=nXs_mem hmz
   have htz:=List.take_succ_eq_append_getElem hlt
   have HLz:=zh (Nat.succ_le_of_lt hlt)
   generalize l[j]=xz at *
   obtain ⟨kz,sz,vz,o_z,rz,qz⟩:=xz
   replace hbz:sz.size≤1048576∧vz≤32767:=hbz.2
   have HTz:=zh htz
   have HAz:Hid (XL B w pz cz rz):=zh haz
   have hcapz:rz.length≤cz:=haz.cap.1
   have hmaxz:=haz.cap.2.1
   replace hcz:∀i_ u_,(xdc ⟨kz,sz,vz,o_z,pz,rz.length,cz,qz⟩)[i_]?=some u_→wr.cell? ⟨bz,oz+j * 6+i_,none⟩=some u_:=fun i_ u_ h_=>Atv.kept (hcz i_ u_ h_) HG.out
   have cz0:wr.cell? ⟨bz,oz+j * 6,none⟩=some (.int .i64 kz):=by simpa using hcz 0 _ rfl
   have cz1:wr.cell? ⟨bz,oz+j * 6+1,none⟩=some (.string sz):=hcz 1 _ rfl
   have cz2:wr.cell? ⟨bz,oz+j * 6+2,none⟩=some (.int .i16 vz):=hcz 2 _ rfl
   have cz3:wr.cell? ⟨bz,oz+j * 6+3,none⟩=some (.int .i64 o_z):=hcz 3 _ rfl
   have cz4:wr.cell? ⟨bz,oz+j * 6+4,none⟩=some (.slice pz rz.length cz):=hcz 4 _ rfl
   have cz5:wr.cell? ⟨bz,oz+j * 6+5,none⟩=some (.int .i64 qz):=hcz 5 _ rfl
   clear hcz haz htz
   obtain ⟨d,hd⟩:∃d,P ⟨kz,sz,vz,o_z,rz,qz⟩=d:=⟨_,rfl⟩
   have HD:=zh hd
   have HC:=zh (fun W (hW:Grew w W)=>(show Calls Tryz.prog g (#[xv kz sz vz o_z pz rz.length cz qz]++cb) W fun e w'=>e=.returned (.bool d)∧Grew W w' from hd ▸ HF.out ⟨kz,sz,vz,o_z,rz,qz⟩ hmz pz cz _ (HAz.out.kept hW) hbz hW))
   have HNO:=zh (fun(h:d=false)=>HFALSE.out _ hmz (hd.trans h))
   clear hmz hd HF HFALSE
   cases d with
   | false =>
     have HN2:Hid (b=false):=zh (HNO.out rfl)
     clear HNO
     go_wp2_with (go_at_fn g;refine(HC.out _ (HG.out.alloc _)).mono ?_;rintro e w1 ⟨rfl,g1⟩;have HG1:=zh ((HG.out.alloc _).trans g1);clear g1)
     go_ret
     exact⟨ret_bool HN2.out.symm,HG1.out⟩
   | true =>
     go_wp2_with (go_at_fn g;refine(HC.out _ (HG.out.alloc _)).mono ?_;rintro e w1 ⟨rfl,g1⟩;have HG1:=zh ((HG.out.alloc _).trans g1);clear g1)
     go_roundg (l.length - (j+1))
     case measure=>have:=HLz.out;omega
     case rel=>exact⟨j+1,by go_num,HLz.out,rfl,zh (by rw [all_snoc HTz.out,HI.out,Bool.true_and];exact HD.out),HG1⟩
  ·obtain rfl:j=l.length:=by omega
   rw [List.take_length] at HI
   go_wp2
   go_ret
   exact⟨ret_bool (HI.out.symm.trans HOK.out),HG.out⟩
set_option maxHeartbeats 4000000 in
theorem everyS_any (g:FuncId) (cb:Array Value) (eg:∀args w,(callFunc g args).run Tryz.prog w=.ok (.enter g args) w) (l:List Sm) (P:Sm→Bool) (B:Nat→Prop) (w:World) (p:Option Addr) (c:Nat) (hx:SL B w p c l)
 (hf:∀x ∈ l,∀(pa_:Option Addr) (ca_:Nat) (pb_:Option Addr) (cb_:Nat) (pe_:Option Addr) (ce_:Nat) (W:World),XL B W pa_ ca_ x.ar→SL B W pb_ cb_ x.b→SL B W pe_ ce_ x.e→x.s.size≤1048576→Grew w W→Calls Tryz.prog g (#[sv x.k x.s x.n pa_ x.ar.length ca_ pb_ x.b.length cb_ pe_ x.e.length ce_ x.q]++cb) W fun e w'=>e=.returned (.bool (P x))∧Grew W w') :
 Calls Tryz.prog 113 #[.slice p l.length c,.func (.func g) #[] cb] w fun e w'=>e=.returned (.bool (l.all P))∧Grew w w':=by
 have HX:=zh hx
 have HF:=zh hf
 have hcap:l.length≤c:=hx.cap.1
 have hmax:=hx.cap.2.1
 obtain ⟨b,hb⟩:∃b,l.all P=b:=⟨_,rfl⟩
 have HOK:=zh hb
 have HFALSE:=zh (fun(x:Sm) (hm:x ∈ l) (h:P x=false)=>(show b=false from hb ▸ all_no hm h))
 rw [hb]
 clear hx hf hb
 go_enter Tryz.func113,Tryz.ntmps113
 go_wp2
 go_loopg [6,9] l.length (fun gg xv_ iv wr=>∃(j:Nat),iv=.int .i64 (j:Int)∧j≤l.length∧gg=l.length - j∧Hid ((l.take j).all P=true)∧Hid (Grew w wr))
 case atStart=>exact⟨0,rfl,Nat.zero_le _,rfl,zh rfl,zh (Grew.refl _)⟩
 case round =>
  obtain ⟨j,rfl,hj,rfl,HI,HG⟩:=hrel
  by_cases hlt:j < l.length
  ·
   obtain ⟨bz,oz,paz,caz,pbz,cbz,pez,cez,rfl,hbz,haz,hboz,helz,hcz⟩:=HX.out.get j hlt
   have hmz:=List.getElem_mem hlt
   have hnz:=nSs_mem hmz
   have htz:=List.take_succ_eq_append_getElem hlt
   have HLz:=zh (Nat.succ_le_of_lt hlt)
   generalize l[j]=xz at *
   obtain ⟨kz,sz,nz,rz,yz,ez,qz⟩:=xz
   replace hbz:sz.size≤1048576:=hbz.2
   have HTz:=zh htz
   have HAz:Hid (XL B w paz caz rz):=zh haz
   have HYz:Hid (SL B w pbz cbz yz):=zh hboz
   have HEz:Hid (SL B w pez cez ez):=zh helz
   have hcapz:rz.length≤caz∧yz.length≤cbz∧ez.length≤cez:=⟨haz.cap.1,hboz.cap.1,helz.cap.1⟩
   have hmaxz:=And.intro haz.cap.2.1 (And.intro hboz.cap.2.1 helz.cap.2.1)
   replace hcz:∀i_ u_,(sdc ⟨kz,sz,nz,paz,rz.length,caz,pbz,yz.length,cbz,pez,ez.length,cez,qz⟩)[i_]?=some u_→wr.cell? ⟨bz,oz+j * 7+i_,none⟩=some u_:=fun i_ u_ h_=>Atv.kept (hcz i_ u_ h_) HG.out
   have cz0:wr.cell? ⟨bz,oz+j * 7,none⟩=some (.int .i64 kz):=by simpa using hcz 0 _ rfl
   have cz1:wr.cell? ⟨bz,oz+j * 7+1,none⟩=some (.string sz):=hcz 1 _ rfl
   have cz2:wr.cell? ⟨bz,oz+j * 7+2,none⟩=some (.int .i64 nz):=hcz 2 _ rfl
   have cz3:wr.cell? ⟨bz,oz+j * 7+3,none⟩=some (.slice paz rz.length caz):=hcz 3 _ rfl
   have cz4:wr.cell? ⟨bz,oz+j * 7+4,none⟩=some (.slice pbz yz.length cbz):=hcz 4 _ rfl
   have cz5:wr.cell? ⟨bz,oz+j * 7+5,none⟩=some (.slice pez ez.length cez):=hcz 5 _ rfl
   have cz6:wr.cell? ⟨bz,oz+j * 7+6,none⟩=some (.int .i64 qz):=hcz 6 _ rfl
   clear hcz haz hboz helz htz
   obtain ⟨d,hd⟩:∃d,P ⟨kz,sz,nz,rz,yz,ez,qz⟩=d:=⟨_,rfl⟩
   have HD:=zh hd
   have HC:=zh (fun W (hW:Grew w W)=>(show Calls Tryz.prog g (#[sv kz sz nz paz rz.length caz pbz yz.length cbz pez ez.length cez qz]++cb) W fun e w'=>e=.returned (.bool d)∧Grew W w' from hd ▸ HF.out ⟨kz,sz,nz,rz,yz,ez,qz⟩ hmz paz caz pbz cbz pez cez _ (HAz.out.kept hW) (HYz.out.kept hW) (HEz.out.kept hW) hbz hW))
   have HNO:=zh (fun(h:d=false)=>HFALSE.out _ hmz (hd.trans h))
   clear hmz hd HF HFALSE
   cases d with
   | false =>
     have HN2:Hid (b=false):=zh (HNO.out rfl)
     clear HNO
     go_wp2_with (go_at_fn g;refine(HC.out _ (HG.out.alloc _)).mono ?_;rintro e w1 ⟨rfl,g1⟩;have HG1:=zh ((HG.out.alloc _).trans g1);clear g1)
     go_ret
     exact⟨ret_bool HN2.out.symm,HG1.out⟩
   | true =>
     go_wp2_with (go_at_fn g;refine(HC.out _ (HG.out.alloc _)).mono ?_;rintro e w1 ⟨rfl,g1⟩;have HG1:=zh ((HG.out.alloc _).trans g1);clear g1)
     go_roundg (l.length - (j+1))
     case measure=>have:=HLz.out;omega
     case rel=>exact⟨j+1,by go_num,HLz.out,rfl,zh (by rw [all_snoc HTz.out,HI.out,Bool.true_and];exact HD.out),HG1⟩
  ·obtain rfl:j=l.length:=by omega
   rw [List.take_length] at HI
   go_wp2
   go_ret
   exact⟨ret_bool (HI.out.symm.trans HOK.out),HG.out⟩
set_option maxHeartbeats 4000000 in
theorem everyT_any (g:FuncId) (cb:Array Value) (eg:∀args w,(callFunc g args).run Tryz.prog w=.ok (.enter g args) w) (l:List Ta) (P:Ta→Bool) (B:Nat→Prop) (w:World) (p:Option Addr) (c:Nat) (hx:TL B w p c l)
 (hf:∀x ∈ l,∀(pb_:Option Addr) (cb_:Nat) (W:World),SL B W pb_ cb_ x.b→x.s.size≤1048576∧x.c.size≤1048576∧x.m.size≤1048576→Grew w W→Calls Tryz.prog g (#[tv x.s x.p x.d x.c x.m x.w pb_ x.b.length cb_ x.q]++cb) W fun e w'=>e=.returned (.bool (P x))∧Grew W w') :
 Calls Tryz.prog 60 #[.slice p l.length c,.func (.func g) #[] cb] w fun e w'=>e=.returned (.bool (l.all P))∧Grew w w':=by
 have HX:=zh hx
 have HF:=zh hf
 have hcap:l.length≤c:=hx.cap.1
 have hmax:=hx.cap.2.1
 obtain ⟨b,hb⟩:∃b,l.all P=b:=⟨_,rfl⟩
 have HOK:=zh hb
 have HFALSE:=zh (fun(x:Ta) (hm:x ∈ l) (h:P x=false)=>(show b=false from hb ▸ all_no hm h))
 rw [hb]
 clear hx hf hb
 go_enter Tryz.func60,Tryz.ntmps60
 go_wp2
 go_loopg [6,9] l.length (fun gg xv_ iv wr=>∃(j:Nat),iv=.int .i64 (j:Int)∧j≤l.length∧gg=l.length - j∧Hid ((l.take j).all P=true)∧Hid (Grew w wr))
 case atStart=>exact⟨0,rfl,Nat.zero_le _,rfl,zh rfl,zh (Grew.refl _)⟩
 case round =>
  obtain ⟨j,rfl,hj,rfl,HI,HG⟩:=hrel
  by_cases hlt:j < l.length
  ·
   obtain ⟨bz,oz,pbz,cbz,rfl,hbz,hboz,hcz⟩:=HX.out.get j hlt
   have hmz:=List.getElem_mem hlt
   have htz:=List.take_succ_eq_append_getElem hlt
   have HLz:=zh (Nat.succ_le_of_lt hlt)
   generalize l[j]=xz at *
   obtain ⟨sz,iz,dz,hz,mz,nz,yz,qz⟩:=xz
   replace hbz:sz.size≤1048576∧hz.size≤1048576∧mz.size≤1048576:=hbz.2
   have HTz:=zh htz
   have HYz:Hid (SL B w pbz cbz yz):=zh hboz
   have hcapz:yz.length≤cbz:=hboz.cap.1
   have hmaxz:=hboz.cap.2.1
   replace hcz:∀i_ u_,(tdc ⟨sz,iz,dz,hz,mz,nz,pbz,yz.length,cbz,qz⟩)[i_]?=some u_→wr.cell? ⟨bz,oz+j * 8+i_,none⟩=some u_:=fun i_ u_ h_=>Atv.kept (hcz i_ u_ h_) HG.out
   have cz0:wr.cell? ⟨bz,oz+j * 8,none⟩=some (.string sz):=by simpa using hcz 0 _ rfl
   have cz1:wr.cell? ⟨bz,oz+j * 8+1,none⟩=some (.int .i64 iz):=hcz 1 _ rfl
   have cz2:wr.cell? ⟨bz,oz+j * 8+2,none⟩=some (.int .i64 dz):=hcz 2 _ rfl
   have cz3:wr.cell? ⟨bz,oz+j * 8+3,none⟩=some (.string hz):=hcz 3 _ rfl
   have cz4:wr.cell? ⟨bz,oz+j * 8+4,none⟩=some (.string mz):=hcz 4 _ rfl
   have cz5:wr.cell? ⟨bz,oz+j * 8+5,none⟩=some (.int .i64 nz):=hcz 5 _ rfl
   have cz6:wr.cell? ⟨bz,oz+j * 8+6,none⟩=some (.slice pbz yz.length cbz):=hcz 6 _ rfl
   have cz7:wr.cell? ⟨bz,oz+j * 8+7,none⟩=some (.int .i64 qz):=hcz 7 _ rfl
   clear hcz hboz htz
   obtain ⟨d,hd⟩:∃d,P ⟨sz,iz,dz,hz,mz,nz,yz,qz⟩=d:=⟨_,rfl⟩
   have HD:=zh hd
   have HC:=zh (fun W (hW:Grew w W)=>(show Calls Tryz.prog g (#[tv sz iz dz hz mz nz pbz yz.length cbz qz]++cb) W fun e w'=>e=.returned (.bool d)∧Grew W w' from hd ▸ HF.out ⟨sz,iz,dz,hz,mz,nz,yz,qz⟩ hmz pbz cbz _ (HYz.out.kept hW) hbz hW))
   have HNO:=zh (fun(h:d=false)=>HFALSE.out _ hmz (hd.trans h))
   clear hmz hd HF HFALSE
   cases d with
   | false =>
     have HN2:Hid (b=false):=zh (HNO.out rfl)
     clear HNO
     go_wp2_with (go_at_fn g;refine(HC.out _ (HG.out.alloc _)).mono ?_;rintro e w1 ⟨rfl,g1⟩;have HG1:=zh ((HG.out.alloc _).trans g1);clear g1)
     go_ret
     exact⟨ret_bool HN2.out.symm,HG1.out⟩
   | true =>
     go_wp2_with (go_at_fn g;refine(HC.out _ (HG.out.alloc _)).mono ?_;rintro e w1 ⟨rfl,g1⟩;have HG1:=zh ((HG.out.alloc _).trans g1);clear g1)
     go_roundg (l.length - (j+1))
     case measure=>have:=HLz.out;omega
     case rel=>exact⟨j+1,by go_num,HLz.out,rfl,zh (by rw [all_snoc HTz.out,HI.out,Bool.true_and];exact HD.out),HG1⟩
  ·obtain rfl:j=l.length:=by omega
   rw [List.take_length] at HI
   go_wp2
   go_ret
   exact⟨ret_bool (HI.out.symm.trans HOK.out),HG.out⟩
set_option maxHeartbeats 4000000 in
theorem everyC_any (g:FuncId) (cb:Array Value) (eg:∀args w,(callFunc g args).run Tryz.prog w=.ok (.enter g args) w) (l:List Cn) (P:Cn→Bool) (B:Nat→Prop) (w:World) (p:Option Addr) (c:Nat) (hx:InN FlatAt 3 cnc B w p l.length c l)
 (hf:∀x ∈ l,∀(W:World),Grew w W→Calls Tryz.prog g (#[.agg #[.string x.s,.int .i16 x.v,.int .i64 x.q]]++cb) W fun e w'=>e=.returned (.bool (P x))∧Grew W w') :
 Calls Tryz.prog 52 #[.slice p l.length c,.func (.func g) #[] cb] w fun e w'=>e=.returned (.bool (l.all P))∧Grew w w':=by
 have HX:=zh hx
 have HF:=zh hf
 have hcap:=hx.cap (hangsF encCn)
 obtain ⟨b,hb⟩:∃b,l.all P=b:=⟨_,rfl⟩
 have HOK:=zh hb
 have HFALSE:=zh (fun(x:Cn) (hm:x ∈ l) (h:P x=false)=>(show b=false from hb ▸ all_no hm h))
 rw [hb]
 clear hx hf hb
 go_enter Tryz.func52,Tryz.ntmps52
 go_wp2
 go_loopg [6,9] l.length (fun gg xv_ iv wr=>∃(j:Nat),iv=.int .i64 (j:Int)∧j≤l.length∧gg=l.length - j∧Hid ((l.take j).all P=true)∧Hid (Grew w wr))
 case atStart=>exact⟨0,rfl,Nat.zero_le _,rfl,zh rfl,zh (Grew.refl _)⟩
 case round =>
  obtain ⟨j,rfl,hj,rfl,HI,HG⟩:=hrel
  by_cases hlt:j < l.length
  ·
   obtain ⟨bz,oz,rfl,hcz⟩:=HX.out.getF j hlt
   have hmz:=List.getElem_mem hlt
   have htz:=List.take_succ_eq_append_getElem hlt
   have HLz:=zh (Nat.succ_le_of_lt hlt)
   generalize l[j]=xz at *
   obtain ⟨sz,vz,qz⟩:=xz
   have HTz:=zh htz
   replace hcz:∀i_ u_,([.string sz,.int .i16 vz,.int .i64 qz]:List Value)[i_]?=some u_→wr.cell? ⟨bz,oz+j * 3+i_,none⟩=some u_:=fun i_ u_ h_=>Atv.kept (hcz i_ u_ h_) HG.out
   have cz0:wr.cell? ⟨bz,oz+j * 3,none⟩=some (.string sz):=by simpa using hcz 0 _ rfl
   have cz1:wr.cell? ⟨bz,oz+j * 3+1,none⟩=some (.int .i16 vz):=hcz 1 _ rfl
   have cz2:wr.cell? ⟨bz,oz+j * 3+2,none⟩=some (.int .i64 qz):=hcz 2 _ rfl
   clear hcz htz
   obtain ⟨d,hd⟩:∃d,P ⟨sz,vz,qz⟩=d:=⟨_,rfl⟩
   have HD:=zh hd
   have HC:=zh (fun W (hW:Grew w W)=>(show Calls Tryz.prog g (#[.agg #[.string sz,.int .i16 vz,.int .i64 qz]]++cb) W fun e w'=>e=.returned (.bool d)∧Grew W w' from hd ▸ HF.out ⟨sz,vz,qz⟩ hmz _ hW))
   have HNO:=zh (fun(h:d=false)=>HFALSE.out _ hmz (hd.trans h))
   clear hmz hd HF HFALSE
   cases d with
   | false =>
     have HN2:Hid (b=false):=zh (HNO.out rfl)
     clear HNO
     go_wp2_with (go_at_fn g;refine(HC.out _ (HG.out.alloc _)).mono ?_;rintro e w1 ⟨rfl,g1⟩;have HG1:=zh ((HG.out.alloc _).trans g1);clear g1)
     go_ret
     exact⟨ret_bool HN2.out.symm,HG1.out⟩
   | true =>
     go_wp2_with (go_at_fn g;refine(HC.out _ (HG.out.alloc _)).mono ?_;rintro e w1 ⟨rfl,g1⟩;have HG1:=zh ((HG.out.alloc _).trans g1);clear g1)
     go_roundg (l.length - (j+1))
     case measure=>have:=HLz.out;omega
     case rel=>exact⟨j+1,by go_num,HLz.out,rfl,zh (by rw [all_snoc HTz.out,HI.out,Bool.true_and];exact HD.out),HG1⟩
  ·obtain rfl:j=l.length:=by omega
   rw [List.take_length] at HI
   go_wp2
   go_ret
   exact⟨ret_bool (HI.out.symm.trans HOK.out),HG.out⟩
set_option maxHeartbeats 4000000 in
theorem everyG_any (g:FuncId) (cb:Array Value) (eg:∀args w,(callFunc g args).run Tryz.prog w=.ok (.enter g args) w) (l:List Gl) (P:Gl→Bool) (B:Nat→Prop) (w:World) (p:Option Addr) (c:Nat) (hx:InN FlatAt 4 glc B w p l.length c l)
 (hf:∀x ∈ l,∀(W:World),Grew w W→Calls Tryz.prog g (#[.agg #[.string x.s,.int .i64 x.l,.int .i16 x.i,.int .i64 x.q]]++cb) W fun e w'=>e=.returned (.bool (P x))∧Grew W w') :
 Calls Tryz.prog 54 #[.slice p l.length c,.func (.func g) #[] cb] w fun e w'=>e=.returned (.bool (l.all P))∧Grew w w':=by
 have HX:=zh hx
 have HF:=zh hf
 have hcap:=hx.cap (hangsF encGl)
 obtain ⟨b,hb⟩:∃b,l.all P=b:=⟨_,rfl⟩
 have HOK:=zh hb
 have HFALSE:=zh (fun(x:Gl) (hm:x ∈ l) (h:P x=false)=>(show b=false from hb ▸ all_no hm h))
 rw [hb]
 clear hx hf hb
 go_enter Tryz.func54,Tryz.ntmps54
 go_wp2
 go_loopg [6,9] l.length (fun gg xv_ iv wr=>∃(j:Nat),iv=.int .i64 (j:Int)∧j≤l.length∧gg=l.length - j∧Hid ((l.take j).all P=true)∧Hid (Grew w wr))
 case atStart=>exact⟨0,rfl,Nat.zero_le _,rfl,zh rfl,zh (Grew.refl _)⟩
 case round =>
  obtain ⟨j,rfl,hj,rfl,HI,HG⟩:=hrel
  by_cases hlt:j < l.length
  ·
   obtain ⟨bz,oz,rfl,hcz⟩:=HX.out.getF j hlt
   have hmz:=List.getElem_mem hlt
   have htz:=List.take_succ_eq_append_getElem hlt
   have HLz:=zh (Nat.succ_le_of_lt hlt)
   generalize l[j]=xz at *
   obtain ⟨sz,lz,iz,qz⟩:=xz
   have HTz:=zh htz
   replace hcz:∀i_ u_,([.string sz,.int .i64 lz,.int .i16 iz,.int .i64 qz]:List Value)[i_]?=some u_→wr.cell? ⟨bz,oz+j * 4+i_,none⟩=some u_:=fun i_ u_ h_=>Atv.kept (hcz i_ u_ h_) HG.out
   have cz0:wr.cell? ⟨bz,oz+j * 4,none⟩=some (.string sz):=by simpa using hcz 0 _ rfl
   have cz1:wr.cell? ⟨bz,oz+j * 4+1,none⟩=some (.int .i64 lz):=hcz 1 _ rfl
   have cz2:wr.cell? ⟨bz,oz+j * 4+2,none⟩=some (.int .i16 iz):=hcz 2 _ rfl
   have cz3:wr.cell? ⟨bz,oz+j * 4+3,none⟩=some (.int .i64 qz):=hcz 3 _ rfl
   clear hcz htz
   obtain ⟨d,hd⟩:∃d,P ⟨sz,lz,iz,qz⟩=d:=⟨_,rfl⟩
   have HD:=zh hd
   have HC:=zh (fun W (hW:Grew w W)=>(show Calls Tryz.prog g (#[.agg #[.string sz,.int .i64 lz,.int .i16 iz,.int .i64 qz]]++cb) W fun e w'=>e=.returned (.bool d)∧Grew W w' from hd ▸ HF.out ⟨sz,lz,iz,qz⟩ hmz _ hW))
   have HNO:=zh (fun(h:d=false)=>HFALSE.out _ hmz (hd.trans h))
   clear hmz hd HF HFALSE
   cases d with
   | false =>
     have HN2:Hid (b=false):=zh (HNO.out rfl)
     clear HNO
     go_wp2_with (go_at_fn g;refine(HC.out _ (HG.out.alloc _)).mono ?_;rintro e w1 ⟨rfl,g1⟩;have HG1:=zh ((HG.out.alloc _).trans g1);clear g1)
     go_ret
     exact⟨ret_bool HN2.out.symm,HG1.out⟩
   | true =>
     go_wp2_with (go_at_fn g;refine(HC.out _ (HG.out.alloc _)).mono ?_;rintro e w1 ⟨rfl,g1⟩;have HG1:=zh ((HG.out.alloc _).trans g1);clear g1)
     go_roundg (l.length - (j+1))
     case measure=>have:=HLz.out;omega
     case rel=>exact⟨j+1,by go_num,HLz.out,rfl,zh (by rw [all_snoc HTz.out,HI.out,Bool.true_and];exact HD.out),HG1⟩
  ·obtain rfl:j=l.length:=by omega
   rw [List.take_length] at HI
   go_wp2
   go_ret
   exact⟨ret_bool (HI.out.symm.trans HOK.out),HG.out⟩
set_option maxHeartbeats 4000000 in
theorem everyH_any (g:FuncId) (cb:Array Value) (eg:∀args w,(callFunc g args).run Tryz.prog w=.ok (.enter g args) w) (l:List Cn) (P:Cn→Bool) (B:Nat→Prop) (w:World) (p:Option Addr) (c:Nat) (hx:InN FlatAt 3 chc B w p l.length c l)
 (hf:∀x ∈ l,∀(W:World),Grew w W→Calls Tryz.prog g (#[.agg #[.string x.s,.int .i64 x.v,.int .i64 x.q]]++cb) W fun e w'=>e=.returned (.bool (P x))∧Grew W w') :
 Calls Tryz.prog 58 #[.slice p l.length c,.func (.func g) #[] cb] w fun e w'=>e=.returned (.bool (l.all P))∧Grew w w':=by
 have HX:=zh hx
 have HF:=zh hf
 have hcap:=hx.cap (hangsF encCh)
 obtain ⟨b,hb⟩:∃b,l.all P=b:=⟨_,rfl⟩
 have HOK:=zh hb
 have HFALSE:=zh (fun(x:Cn) (hm:x ∈ l) (h:P x=false)=>(show b=false from hb ▸ all_no hm h))
 rw [hb]
 clear hx hf hb
 go_enter Tryz.func58,Tryz.ntmps58
 go_wp2
 go_loopg [6,9] l.length (fun gg xv_ iv wr=>∃(j:Nat),iv=.int .i64 (j:Int)∧j≤l.length∧gg=l.length - j∧Hid ((l.take j).all P=true)∧Hid (Grew w wr))
 case atStart=>exact⟨0,rfl,Nat.zero_le _,rfl,zh rfl,zh (Grew.refl _)⟩
 case round =>
  obtain ⟨j,rfl,hj,rfl,HI,HG⟩:=hrel
  by_cases hlt:j < l.length
  ·
   obtain ⟨bz,oz,rfl,hcz⟩:=HX.out.getF j hlt
   have hmz:=List.getElem_mem hlt
   have htz:=List.take_succ_eq_append_getElem hlt
   have HLz:=zh (Nat.succ_le_of_lt hlt)
   generalize l[j]=xz at *
   obtain ⟨sz,vz,qz⟩:=xz
   have HTz:=zh htz
   replace hcz:∀i_ u_,([.string sz,.int .i64 vz,.int .i64 qz]:List Value)[i_]?=some u_→wr.cell? ⟨bz,oz+j * 3+i_,none⟩=some u_:=fun i_ u_ h_=>Atv.kept (hcz i_ u_ h_) HG.out
   have cz0:wr.cell? ⟨bz,oz+j * 3,none⟩=some (.string sz):=by simpa using hcz 0 _ rfl
   have cz1:wr.cell? ⟨bz,oz+j * 3+1,none⟩=some (.int .i64 vz):=hcz 1 _ rfl
   have cz2:wr.cell? ⟨bz,oz+j * 3+2,none⟩=some (.int .i64 qz):=hcz 2 _ rfl
   clear hcz htz
   obtain ⟨d,hd⟩:∃d,P ⟨sz,vz,qz⟩=d:=⟨_,rfl⟩
   have HD:=zh hd
   have HC:=zh (fun W (hW:Grew w W)=>(show Calls Tryz.prog g (#[.agg #[.string sz,.int .i64 vz,.int .i64 qz]]++cb) W fun e w'=>e=.returned (.bool d)∧Grew W w' from hd ▸ HF.out ⟨sz,vz,qz⟩ hmz _ hW))
   have HNO:=zh (fun(h:d=false)=>HFALSE.out _ hmz (hd.trans h))
   clear hmz hd HF HFALSE
   cases d with
   | false =>
     have HN2:Hid (b=false):=zh (HNO.out rfl)
     clear HNO
     go_wp2_with (go_at_fn g;refine(HC.out _ (HG.out.alloc _)).mono ?_;rintro e w1 ⟨rfl,g1⟩;have HG1:=zh ((HG.out.alloc _).trans g1);clear g1)
     go_ret
     exact⟨ret_bool HN2.out.symm,HG1.out⟩
   | true =>
     go_wp2_with (go_at_fn g;refine(HC.out _ (HG.out.alloc _)).mono ?_;rintro e w1 ⟨rfl,g1⟩;have HG1:=zh ((HG.out.alloc _).trans g1);clear g1)
     go_roundg (l.length - (j+1))
     case measure=>have:=HLz.out;omega
     case rel=>exact⟨j+1,by go_num,HLz.out,rfl,zh (by rw [all_snoc HTz.out,HI.out,Bool.true_and];exact HD.out),HG1⟩
  ·obtain rfl:j=l.length:=by omega
   rw [List.take_length] at HI
   go_wp2
   go_ret
   exact⟨ret_bool (HI.out.symm.trans HOK.out),HG.out⟩
set_option maxHeartbeats 4000000 in
theorem everyN_any (g:FuncId) (cb:Array Value) (eg:∀args w,(callFunc g args).run Tryz.prog w=.ok (.enter g args) w) (l:List ByteArray) (P:ByteArray→Bool) (B:Nat→Prop) (w:World) (p:Option Addr) (c:Nat) (hx:InN FlatAt 1 strc B w p l.length c l)
 (hf:∀x ∈ l,∀(W:World),Grew w W→Calls Tryz.prog g (#[.string x]++cb) W fun e w'=>e=.returned (.bool (P x))∧Grew W w') :
 Calls Tryz.prog 56 #[.slice p l.length c,.func (.func g) #[] cb] w fun e w'=>e=.returned (.bool (l.all P))∧Grew w w':=by
 have HX:=zh hx
 have HF:=zh hf
 have hcap:=hx.cap (hangsF encStr)
 obtain ⟨b,hb⟩:∃b,l.all P=b:=⟨_,rfl⟩
 have HOK:=zh hb
 have HFALSE:=zh (fun(x:ByteArray) (hm:x ∈ l) (h:P x=false)=>(show b=false from hb ▸ all_no hm h))
 rw [hb]
 clear hx hf hb
 go_enter Tryz.func56,Tryz.ntmps56
 go_wp2
 go_loopg [6,9] l.length (fun gg xv_ iv wr=>∃(j:Nat),iv=.int .i64 (j:Int)∧j≤l.length∧gg=l.length - j∧Hid ((l.take j).all P=true)∧Hid (Grew w wr))
 case atStart=>exact⟨0,rfl,Nat.zero_le _,rfl,zh rfl,zh (Grew.refl _)⟩
 case round =>
  obtain ⟨j,rfl,hj,rfl,HI,HG⟩:=hrel
  by_cases hlt:j < l.length
  ·
   obtain ⟨bz,oz,rfl,hcz⟩:=HX.out.getF j hlt
   have hmz:=List.getElem_mem hlt
   have htz:=List.take_succ_eq_append_getElem hlt
   have HLz:=zh (Nat.succ_le_of_lt hlt)
   generalize l[j]=xz at *
   have HTz:=zh htz
   replace hcz:∀i_ u_,([.string xz]:List Value)[i_]?=some u_→wr.cell? ⟨bz,oz+j * 1+i_,none⟩=some u_:=fun i_ u_ h_=>Atv.kept (hcz i_ u_ h_) HG.out
   have cz0:wr.cell? ⟨bz,oz+j,none⟩=some (.string xz):=by simpa using hcz 0 _ rfl
   clear hcz htz
   obtain ⟨d,hd⟩:∃d,P xz=d:=⟨_,rfl⟩
   have HD:=zh hd
   have HC:=zh (fun W (hW:Grew w W)=>(show Calls Tryz.prog g (#[.string xz]++cb) W fun e w'=>e=.returned (.bool d)∧Grew W w' from hd ▸ HF.out xz hmz _ hW))
   have HNO:=zh (fun(h:d=false)=>HFALSE.out _ hmz (hd.trans h))
   clear hmz hd HF HFALSE
   cases d with
   | false =>
     have HN2:Hid (b=false):=zh (HNO.out rfl)
     clear HNO
     go_wp2_with (go_at_fn g;refine(HC.out _ HG.out).mono ?_;rintro e w1 ⟨rfl,g1⟩;have HG1:=zh (HG.out.trans g1);clear g1)
     go_ret
     exact⟨ret_bool HN2.out.symm,HG1.out⟩
   | true =>
     go_wp2_with (go_at_fn g;refine(HC.out _ HG.out).mono ?_;rintro e w1 ⟨rfl,g1⟩;have HG1:=zh (HG.out.trans g1);clear g1)
     go_roundg (l.length - (j+1))
     case measure=>have:=HLz.out;omega
     case rel=>exact⟨j+1,by go_num,HLz.out,rfl,zh (by rw [all_snoc HTz.out,HI.out,Bool.true_and];exact HD.out),HG1⟩
  ·obtain rfl:j=l.length:=by omega
   rw [List.take_length] at HI
   go_wp2
   go_ret
   exact⟨ret_bool (HI.out.symm.trans HOK.out),HG.out⟩
theorem okXs_lall:∀l:List Xp,okXs l=l.all okX
 | []=>rfl
 | x :: l=>by rw [okXs,List.all_cons,okXs_lall l]
theorem okSs_lall:∀l:List Sm,okSs l=l.all okS
 | []=>rfl
 | x :: l=>by rw [okSs,List.all_cons,okSs_lall l]
theorem formC_eq (s:ByteArray) (z:Int):(idn s&&decide (-32767≤z))=okC s z:=by
 rw [okC]
 by_cases h:z < -32767
 ·rw [decide_eq_true h,decide_eq_false (by omega)];cases idn s <;> rfl
 ·rw [decide_eq_false h,decide_eq_true (by omega)];cases idn s <;> rfl
theorem formH_eq (s:ByteArray) (z:Int):(idn s&&num1 z 0)=okH s z:=by
 rw [okH];cases idn s <;> cases num1 z 0 <;> rfl
theorem formG_eq (s:ByteArray) (l i:Int):(((idn s&&num1 l 0)&&decide (-32767≤i))&&((l==0)||(i==0)))=okG s l i:=by
 rw [okG]
 have h1:decide (-32767≤i)=!decide (i < -32767):=by
  by_cases h:i < -32767
  ·rw [decide_eq_true h,decide_eq_false (by omega)];rfl
  ·rw [decide_eq_false h,decide_eq_true (by omega)];rfl
 rw [h1]
 cases hn:num1 l 0 with
 | false=>cases idn s <;> cases decide (i < -32767) <;> cases (l==0) <;> cases (i==0) <;> simp
 | true =>
   have hl:0≤l:=by
    rw [num1,Bool.and_eq_true,decide_eq_true_eq] at hn
    exact hn.1
   have h2:(l==0)=!decide (0 < l):=by
    by_cases h:0 < l
    ·rw [decide_eq_true h]
     have:(l==0)=false:=beq_eq_false_iff_ne.2 (by omega)
     rw [this];rfl
    ·rw [decide_eq_false h]
     have:(l==0)=true:=beq_iff_eq.2 (by omega)
     rw [this];rfl
   have h3:(i != 0)=!(i==0):=rfl
   rw [h2,h3]
   cases idn s <;> cases decide (i < -32767) <;> cases decide (0 < l) <;> cases (i==0) <;> rfl
theorem en_id:Enters Tryz.prog 57:=fun args w=>by go_simp
theorem en_sg:Enters Tryz.prog 107:=fun args w=>by go_simp
theorem en_nu:Enters Tryz.prog 108:=fun args w=>by go_simp
theorem en_nm:Enters Tryz.prog 99:=fun args w=>by go_simp
theorem en_tg:Enters Tryz.prog 112:=fun args w=>by go_simp
theorem en_fx:Enters Tryz.prog 48:=fun args w=>by go_simp
theorem en_fs:Enters Tryz.prog 114:=fun args w=>by go_simp
theorem en_ft:Enters Tryz.prog 61:=fun args w=>by go_simp
theorem en_fc:Enters Tryz.prog 53:=fun args w=>by go_simp
theorem en_fg:Enters Tryz.prog 55:=fun args w=>by go_simp
theorem en_fh:Enters Tryz.prog 59:=fun args w=>by go_simp
theorem en_evX:Enters Tryz.prog 100:=fun args w=>by go_simp
theorem en_evS:Enters Tryz.prog 113:=fun args w=>by go_simp
theorem en_evT:Enters Tryz.prog 60:=fun args w=>by go_simp
theorem en_evC:Enters Tryz.prog 52:=fun args w=>by go_simp
theorem en_evG:Enters Tryz.prog 54:=fun args w=>by go_simp
theorem en_evH:Enters Tryz.prog 58:=fun args w=>by go_simp
theorem en_evN:Enters Tryz.prog 56:=fun args w=>by go_simp
section
variable {dst:Option Tmp}{ty:TypeId}{pos:String}{after:Array Edge}{g:Option (Nat × Bool)}{a:Act}{w:World}{T:Value→World→Prop}
theorem rn_eql_32 {o1 o2:Operand}{b c:Int}(hx:a.eval o1=.int .i16 b) (hy:a.eval o2=.int .i16 c) (h:T (.bool (b==c)) w):Runs Tryz.prog ⟨dst,.binOp .eql 32 o1 o2 32,ty,pos,after,g⟩ a w T:=by
 refine Runs.value (v:=.bool (b==c)) (w':=w) ?_ h
 simp only [execOp,hx,hy]
 go_simp
end
set_option maxHeartbeats 4000000 in
theorem formC_any (s:ByteArray) (z q:Int) (w:World) (hs:s.size≤1048576) (hE:Env w) :
 Calls Tryz.prog 53 #[.agg #[.string s,.int .i16 z,.int .i64 q]] w fun e w'=>e=.returned (.bool (okC s z))∧Grew w w':=by
 have HE:=zh hE
 have HIs:=zh (fun W (hW:Grew w W)=>isid_any s hs W (HE.out.grew hW))
 have hE:((idn s)&&(decide (-32767≤z)))=okC s z:=formC_eq s z
 have HEQ:=zh hE
 clear hE
 go_enter Tryz.func53,Tryz.ntmps53
 go_upto_region 1 with fail
 have hb1:Blk w.heap.size [.string s,.int .i16 z,.int .i64 q] 60 (w.alloc (Obj.cells #[.string s,.int .i16 z,.int .i64 q] 60)):=Blk.new w _ _
 have hgV:Grew w (w.alloc (Obj.cells #[.string s,.int .i16 z,.int .i64 q] 60)):=(Grew.refl w).alloc _
 generalize (w.alloc (Obj.cells #[.string s,.int .i16 z,.int .i64 q] 60))=V at hb1 hgV ⊢
 generalize w.heap.size=T at hb1 ⊢
 have HB:=zh hb1
 have HGV:=zh hgV
 have d0:Atv ⟨T,0,none⟩ (.string s) V:=hb1.atv 0 rfl
 have d1:Atv ⟨T,1,none⟩ (.int .i16 z) V:=hb1.atv 1 rfl
 have d2:Atv ⟨T,2,none⟩ (.int .i64 q) V:=hb1.atv 2 rfl
 clear hb1 hgV
 refine wp_postsL [some 3,some 4,some 5,some 6,some 7,some 8,some 9,some 10,some 2] [false,false,true,true,true,true,true,true,true,true,true] [fun v _=>v=.pointer (some ⟨T,0,none⟩),fun v _=>v=.string s,fun v _=>v=.bool (idn s),fun v _=>v=.bool (idn s),fun v _=>Zg ((idn s)=true) (.pointer (some ⟨T,1,none⟩)) v,fun v _=>Zg ((idn s)=true) (.int .i16 (z)) v,fun v _=>Zg ((idn s)=true) (.bool (decide (-32767≤z))) v,fun v _=>v=.bool ((idn s)&&(decide (-32767≤z))),fun v _=>v=.bool ((idn s)&&(decide (-32767≤z)))] (by kernel_rfl) rfl ?_ ⟨?_,?_,?_,?_,?_,?_,?_,?_,?_,trivial⟩ ?_
 ·exact⟨Zi,Zi,Zi,Zi,Zi,Zi,Zi,Zi,Zi,trivial⟩
 ·intro u w hR hd;exact rn_fld_60_0 (ev rfl) Zr
 ·intro u w hR hd;exact rn_ld_9 (ev (hd.1 rfl)) (d0.kept hR) Zr
 ·intro u w hR hd;exact runs_c1 en_id (ev (hd.1 rfl)) (callp (fun _ e=>e) (HIs.out _ (HGV.out.trans hR)))
 ·intro u w hR hd;exact runs_mv (ev (hd.1 rfl)) Zr
 ·intro u w hR hd;exact⟨fun hg=>have hG:=Zh (hd.1 rfl) hg;rn_fld_60_1 (ev rfl) (Zs hG),Zn (hd.1 rfl)⟩
 ·intro u w hR hd;exact⟨fun hg=>have hG:=Zh (hd.2.1 rfl) hg;rn_ld_32 (ev ((hd.1 rfl).1 hG)) (d1.kept hR) (Zs hG),Zn (hd.2.1 rfl)⟩
 ·intro u w hR hd;exact⟨fun hg=>have hG:=Zh (hd.2.1 rfl) hg;runs_c1 en_sg (ev ((hd.1 rfl).1 hG)) (callp (fun _ e=>⟨fun _=>e,fun hn=>absurd hG hn⟩) ((signed_any _ _).mono fun e w9 h=>⟨h.1,h.2 ▸ Grew.refl _⟩)),Zn (hd.2.1 rfl)⟩
 ·intro u w hR hd;exact runs_an (ev (hd.1 rfl)) (fun hb=>ev ((hd.2.1 rfl).1 hb)) Zr
 ·intro u w hR hd;exact runs_mva (ev (hd.1 rfl)) Zr
 ·intro u w4 hR hh
  have he:u 2=.bool ((idn s)&&(decide (-32767≤z))):=hh 8 (by decide)
  rw [HEQ.out] at he
  simp only [mixA,mixL,zz9,zz0,he]
  have HG4:Hid (Grew w w4):=zh (HGV.out.trans hR)
  clear hh he hR d0 d1 d2 HB HGV
  go_wp2
  go_ret
  exact⟨rfl,HG4.out⟩
set_option maxHeartbeats 4000000 in
theorem formG_any (s:ByteArray) (l i q:Int) (w:World) (hs:s.size≤1048576) (hE:Env w) :
 Calls Tryz.prog 55 #[.agg #[.string s,.int .i64 l,.int .i16 i,.int .i64 q]] w fun e w'=>e=.returned (.bool (okG s l i))∧Grew w w':=by
 have HE:=zh hE
 have HIs:=zh (fun W (hW:Grew w W)=>isid_any s hs W (HE.out.grew hW))
 have hE:((((idn s)&&(num1 l 0))&&(decide (-32767≤i)))&&(((l)==(0))||((i)==(0))))=okG s l i:=formG_eq s l i
 have HEQ:=zh hE
 clear hE
 go_enter Tryz.func55,Tryz.ntmps55
 go_upto_region 1 with fail
 have hb1:Blk w.heap.size [.string s,.int .i64 l,.int .i16 i,.int .i64 q] 62 (w.alloc (Obj.cells #[.string s,.int .i64 l,.int .i16 i,.int .i64 q] 62)):=Blk.new w _ _
 have hgV:Grew w (w.alloc (Obj.cells #[.string s,.int .i64 l,.int .i16 i,.int .i64 q] 62)):=(Grew.refl w).alloc _
 generalize (w.alloc (Obj.cells #[.string s,.int .i64 l,.int .i16 i,.int .i64 q] 62))=V at hb1 hgV ⊢
 generalize w.heap.size=T at hb1 ⊢
 have HB:=zh hb1
 have HGV:=zh hgV
 have d0:Atv ⟨T,0,none⟩ (.string s) V:=hb1.atv 0 rfl
 have d1:Atv ⟨T,1,none⟩ (.int .i64 l) V:=hb1.atv 1 rfl
 have d2:Atv ⟨T,2,none⟩ (.int .i16 i) V:=hb1.atv 2 rfl
 have d3:Atv ⟨T,3,none⟩ (.int .i64 q) V:=hb1.atv 3 rfl
 clear hb1 hgV
 refine wp_postsL [some 3,some 4,some 5,some 6,some 7,some 8,some 9,some 10,some 11,some 12,some 13,some 14,some 15,some 16,some 17,some 18,some 19,some 20,some 21,some 22,some 23,some 24,some 25,some 2] (Zfb (Zte (Ztd []))) [fun v _=>v=.pointer (some ⟨T,0,none⟩),fun v _=>v=.string s,fun v _=>v=.bool (idn s),fun v _=>v=.bool (idn s),fun v _=>Zg ((idn s)=true) (.pointer (some ⟨T,1,none⟩)) v,fun v _=>Zg ((idn s)=true) (.int .i64 (l)) v,fun v _=>Zg ((idn s)=true) (.bool (num1 l 0)) v,fun v _=>v=.bool ((idn s)&&(num1 l 0)),fun v _=>v=.bool ((idn s)&&(num1 l 0)),fun v _=>Zg (((idn s)&&(num1 l 0))=true) (.pointer (some ⟨T,2,none⟩)) v,fun v _=>Zg (((idn s)&&(num1 l 0))=true) (.int .i16 (i)) v,fun v _=>Zg (((idn s)&&(num1 l 0))=true) (.bool (decide (-32767≤i))) v,fun v _=>v=.bool (((idn s)&&(num1 l 0))&&(decide (-32767≤i))),fun v _=>v=.bool (((idn s)&&(num1 l 0))&&(decide (-32767≤i))),fun v _=>Zg ((((idn s)&&(num1 l 0))&&(decide (-32767≤i)))=true) (.pointer (some ⟨T,1,none⟩)) v,fun v _=>Zg ((((idn s)&&(num1 l 0))&&(decide (-32767≤i)))=true) (.int .i64 (l)) v,fun v _=>Zg ((((idn s)&&(num1 l 0))&&(decide (-32767≤i)))=true) (.bool ((l)==(0))) v,fun v _=>Zg ((((idn s)&&(num1 l 0))&&(decide (-32767≤i)))=true) (.bool ((l)==(0))) v,fun v _=>Zg (((((idn s)&&(num1 l 0))&&(decide (-32767≤i)))=true)∧(((l)==(0))=false)) (.pointer (some ⟨T,2,none⟩)) v,fun v _=>Zg (((((idn s)&&(num1 l 0))&&(decide (-32767≤i)))=true)∧(((l)==(0))=false)) (.int .i16 (i)) v,fun v _=>Zg (((((idn s)&&(num1 l 0))&&(decide (-32767≤i)))=true)∧(((l)==(0))=false)) (.bool ((i)==(0))) v,fun v _=>Zg ((((idn s)&&(num1 l 0))&&(decide (-32767≤i)))=true) (.bool (((l)==(0))||((i)==(0)))) v,fun v _=>v=.bool ((((idn s)&&(num1 l 0))&&(decide (-32767≤i)))&&(((l)==(0))||((i)==(0)))),fun v _=>v=.bool ((((idn s)&&(num1 l 0))&&(decide (-32767≤i)))&&(((l)==(0))||((i)==(0))))] (by kernel_rfl) rfl ?_ ⟨?_,?_,?_,?_,?_,?_,?_,?_,?_,?_,?_,?_,?_,?_,?_,?_,?_,?_,?_,?_,?_,?_,?_,?_,trivial⟩ ?_
 ·exact⟨Zi,Zi,Zi,Zi,Zi,Zi,Zi,Zi,Zi,Zi,Zi,Zi,Zi,Zi,Zi,Zi,Zi,Zi,Zi,Zi,Zi,Zi,Zi,Zi,trivial⟩
 ·intro u w hR hd;exact rn_fld_62_0 (ev rfl) Zr
 ·intro u w hR hd;exact rn_ld_9 (ev (hd.1 rfl)) (d0.kept hR) Zr
 ·intro u w hR hd;exact runs_c1 en_id (ev (hd.1 rfl)) (callp (fun _ e=>e) (HIs.out _ (HGV.out.trans hR)))
 ·intro u w hR hd;exact runs_mv (ev (hd.1 rfl)) Zr
 ·intro u w hR hd;exact⟨fun hg=>have hG:=Zh (hd.1 rfl) hg;rn_fld_62_1 (ev rfl) (Zs hG),Zn (hd.1 rfl)⟩
 ·intro u w hR hd;exact⟨fun hg=>have hG:=Zh (hd.2.1 rfl) hg;rn_ld_3 (ev ((hd.1 rfl).1 hG)) (d1.kept hR) (Zs hG),Zn (hd.2.1 rfl)⟩
 ·intro u w hR hd;exact⟨fun hg=>have hG:=Zh (hd.2.1 rfl) hg;runs_c1 en_nu (ev ((hd.1 rfl).1 hG)) (callp (fun _ e=>⟨fun _=>e,fun hn=>absurd hG hn⟩) ((isnum_any _ _).mono fun e w9 h=>⟨h.1,h.2 ▸ Grew.refl _⟩)),Zn (hd.2.1 rfl)⟩
 ·intro u w hR hd;exact runs_an (ev (hd.1 rfl)) (fun hb=>ev ((hd.2.1 rfl).1 hb)) Zr
 ·intro u w hR hd;exact runs_mv (ev (hd.1 rfl)) Zr
 ·intro u w hR hd;exact⟨fun hg=>have hG:=Zh (hd.1 rfl) hg;rn_fld_62_2 (ev rfl) (Zs hG),Zn (hd.1 rfl)⟩
 ·intro u w hR hd;exact⟨fun hg=>have hG:=Zh (hd.2.1 rfl) hg;rn_ld_32 (ev ((hd.1 rfl).1 hG)) (d2.kept hR) (Zs hG),Zn (hd.2.1 rfl)⟩
 ·intro u w hR hd;exact⟨fun hg=>have hG:=Zh (hd.2.1 rfl) hg;runs_c1 en_sg (ev ((hd.1 rfl).1 hG)) (callp (fun _ e=>⟨fun _=>e,fun hn=>absurd hG hn⟩) ((signed_any _ _).mono fun e w9 h=>⟨h.1,h.2 ▸ Grew.refl _⟩)),Zn (hd.2.1 rfl)⟩
 ·intro u w hR hd;exact runs_an (ev (hd.1 rfl)) (fun hb=>ev ((hd.2.1 rfl).1 hb)) Zr
 ·intro u w hR hd;exact runs_mv (ev (hd.1 rfl)) Zr
 ·intro u w hR hd;exact⟨fun hg=>have hG:=Zh (hd.1 rfl) hg;rn_fld_62_1 (ev rfl) (Zs hG),Zn (hd.1 rfl)⟩
 ·intro u w hR hd;exact⟨fun hg=>have hG:=Zh (hd.2.1 rfl) hg;rn_ld_3 (ev ((hd.1 rfl).1 hG)) (d1.kept hR) (Zs hG),Zn (hd.2.1 rfl)⟩
 ·intro u w hR hd;exact⟨fun hg=>have hG:=Zh (hd.2.1 rfl) hg;rn_eql_3 (ev ((hd.1 rfl).1 hG)) rfl (Zs hG),Zn (hd.2.1 rfl)⟩
 ·intro u w hR hd;exact⟨fun hg=>have hG:=Zh (hd.2.1 rfl) hg;runs_mv (ev ((hd.1 rfl).1 hG)) (Zs hG),Zn (hd.2.1 rfl)⟩
 ·intro u w hR hd;exact⟨fun hg=>have hP:((((idn s)&&(num1 l 0))&&(decide (-32767≤i)))=true):=Classical.byContradiction (fun hnp=>absurd (((hd.1 rfl).2 hnp).symm.trans hg) (fun h=>by first | cases h | (simp [undef] at h)));have hG:(((((idn s)&&(num1 l 0))&&(decide (-32767≤i)))=true)∧(((l)==(0))=false)):=⟨hP,Value.bool.inj (((hd.1 rfl).1 hP).symm.trans hg)⟩;rn_fld_62_2 (ev rfl) (Zs hG),fun hn=>⟨fun hG=>absurd (((hd.1 rfl).1 hG.1).trans (congrArg Value.bool hG.2)) hn,fun _=>rfl⟩⟩
 ·intro u w hR hd;exact⟨fun hg=>have hP:((((idn s)&&(num1 l 0))&&(decide (-32767≤i)))=true):=Classical.byContradiction (fun hnp=>absurd (((hd.2.1 rfl).2 hnp).symm.trans hg) (fun h=>by first | cases h | (simp [undef] at h)));have hG:(((((idn s)&&(num1 l 0))&&(decide (-32767≤i)))=true)∧(((l)==(0))=false)):=⟨hP,Value.bool.inj (((hd.2.1 rfl).1 hP).symm.trans hg)⟩;rn_ld_32 (ev ((hd.1 rfl).1 hG)) (d2.kept hR) (Zs hG),fun hn=>⟨fun hG=>absurd (((hd.2.1 rfl).1 hG.1).trans (congrArg Value.bool hG.2)) hn,fun _=>rfl⟩⟩
 ·intro u w hR hd;exact⟨fun hg=>have hP:((((idn s)&&(num1 l 0))&&(decide (-32767≤i)))=true):=Classical.byContradiction (fun hnp=>absurd (((hd.2.1 rfl).2 hnp).symm.trans hg) (fun h=>by first | cases h | (simp [undef] at h)));have hG:(((((idn s)&&(num1 l 0))&&(decide (-32767≤i)))=true)∧(((l)==(0))=false)):=⟨hP,Value.bool.inj (((hd.2.1 rfl).1 hP).symm.trans hg)⟩;rn_eql_32 (ev ((hd.1 rfl).1 hG)) rfl (Zs hG),fun hn=>⟨fun hG=>absurd (((hd.2.1 rfl).1 hG.1).trans (congrArg Value.bool hG.2)) hn,fun _=>rfl⟩⟩
 ·intro u w hR hd;exact⟨fun hg=>have hG:=Zh (hd.2.2.1 rfl) hg;runs_or2 (ev ((hd.1 rfl).1 hG)) (fun hb=>ev ((hd.2.1 rfl).1 ⟨hG,hb⟩)) (Zs hG),Zn (hd.2.2.1 rfl)⟩
 ·intro u w hR hd;exact runs_an (ev (hd.1 rfl)) (fun hb=>ev ((hd.2.1 rfl).1 hb)) Zr
 ·intro u w hR hd;exact runs_mva (ev (hd.1 rfl)) Zr
 ·intro u w4 hR hh
  have he:u 2=.bool ((((idn s)&&(num1 l 0))&&(decide (-32767≤i)))&&(((l)==(0))||((i)==(0)))):=hh 23 (by decide)
  rw [HEQ.out] at he
  simp only [mixA,mixL,zz9,zz0,he]
  have HG4:Hid (Grew w w4):=zh (HGV.out.trans hR)
  clear hh he hR d0 d1 d2 d3 HB HGV
  go_wp2
  go_ret
  exact⟨rfl,HG4.out⟩
set_option maxHeartbeats 4000000 in
theorem formH_any (s:ByteArray) (z q:Int) (w:World) (hs:s.size≤1048576) (hE:Env w) :
 Calls Tryz.prog 59 #[.agg #[.string s,.int .i64 z,.int .i64 q]] w fun e w'=>e=.returned (.bool (okH s z))∧Grew w w':=by
 have HE:=zh hE
 have HIs:=zh (fun W (hW:Grew w W)=>isid_any s hs W (HE.out.grew hW))
 have hE:((idn s)&&(num1 z 0))=okH s z:=formH_eq s z
 have HEQ:=zh hE
 clear hE
 go_enter Tryz.func59,Tryz.ntmps59
 go_upto_region 1 with fail
 have hb1:Blk w.heap.size [.string s,.int .i64 z,.int .i64 q] 64 (w.alloc (Obj.cells #[.string s,.int .i64 z,.int .i64 q] 64)):=Blk.new w _ _
 have hgV:Grew w (w.alloc (Obj.cells #[.string s,.int .i64 z,.int .i64 q] 64)):=(Grew.refl w).alloc _
 generalize (w.alloc (Obj.cells #[.string s,.int .i64 z,.int .i64 q] 64))=V at hb1 hgV ⊢
 generalize w.heap.size=T at hb1 ⊢
 have HB:=zh hb1
 have HGV:=zh hgV
 have d0:Atv ⟨T,0,none⟩ (.string s) V:=hb1.atv 0 rfl
 have d1:Atv ⟨T,1,none⟩ (.int .i64 z) V:=hb1.atv 1 rfl
 have d2:Atv ⟨T,2,none⟩ (.int .i64 q) V:=hb1.atv 2 rfl
 clear hb1 hgV
 refine wp_postsL [some 3,some 4,some 5,some 6,some 7,some 8,some 9,some 10,some 2] [false,false,true,true,true,true,true,true,true,true,true] [fun v _=>v=.pointer (some ⟨T,0,none⟩),fun v _=>v=.string s,fun v _=>v=.bool (idn s),fun v _=>v=.bool (idn s),fun v _=>Zg ((idn s)=true) (.pointer (some ⟨T,1,none⟩)) v,fun v _=>Zg ((idn s)=true) (.int .i64 (z)) v,fun v _=>Zg ((idn s)=true) (.bool (num1 z 0)) v,fun v _=>v=.bool ((idn s)&&(num1 z 0)),fun v _=>v=.bool ((idn s)&&(num1 z 0))] (by kernel_rfl) rfl ?_ ⟨?_,?_,?_,?_,?_,?_,?_,?_,?_,trivial⟩ ?_
 ·exact⟨Zi,Zi,Zi,Zi,Zi,Zi,Zi,Zi,Zi,trivial⟩
 ·intro u w hR hd;exact rn_fld_64_0 (ev rfl) Zr
 ·intro u w hR hd;exact rn_ld_9 (ev (hd.1 rfl)) (d0.kept hR) Zr
 ·intro u w hR hd;exact runs_c1 en_id (ev (hd.1 rfl)) (callp (fun _ e=>e) (HIs.out _ (HGV.out.trans hR)))
 ·intro u w hR hd;exact runs_mv (ev (hd.1 rfl)) Zr
 ·intro u w hR hd;exact⟨fun hg=>have hG:=Zh (hd.1 rfl) hg;rn_fld_64_1 (ev rfl) (Zs hG),Zn (hd.1 rfl)⟩
 ·intro u w hR hd;exact⟨fun hg=>have hG:=Zh (hd.2.1 rfl) hg;rn_ld_3 (ev ((hd.1 rfl).1 hG)) (d1.kept hR) (Zs hG),Zn (hd.2.1 rfl)⟩
 ·intro u w hR hd;exact⟨fun hg=>have hG:=Zh (hd.2.1 rfl) hg;runs_c1 en_nu (ev ((hd.1 rfl).1 hG)) (callp (fun _ e=>⟨fun _=>e,fun hn=>absurd hG hn⟩) ((isnum_any _ _).mono fun e w9 h=>⟨h.1,h.2 ▸ Grew.refl _⟩)),Zn (hd.2.1 rfl)⟩
 ·intro u w hR hd;exact runs_an (ev (hd.1 rfl)) (fun hb=>ev ((hd.2.1 rfl).1 hb)) Zr
 ·intro u w hR hd;exact runs_mva (ev (hd.1 rfl)) Zr
 ·intro u w4 hR hh
  have he:u 2=.bool ((idn s)&&(num1 z 0)):=hh 8 (by decide)
  rw [HEQ.out] at he
  simp only [mixA,mixL,zz9,zz0,he]
  have HG4:Hid (Grew w w4):=zh (HGV.out.trans hR)
  clear hh he hR d0 d1 d2 HB HGV
  go_wp2
  go_ret
  exact⟨rfl,HG4.out⟩
theorem okX_out {k vx ox qx:Int}{sx:ByteArray}{rx:List Xp}(h:k≤0∨7≤k):okX ⟨k,sx,vx,ox,rx,qx⟩=false:=by
 have h1:arK k=-1:=by
  have a1:k≠1:=by omega
  have a2:k≠2:=by omega
  have a3:k≠3:=by omega
  have a4:k≠4:=by omega
  have a5:k≠5:=by omega
  have a6:k≠6:=by omega
  simp [arK,a1,a2,a3,a4,a5,a6]
 have h2:((rx.length:Int) != -1)=true:=by
  rw [bne_iff_ne];omega
 rw [okX,hdX,h1,h2]
 rfl
theorem beq_dec {a b:Int}:(a==b)=decide (a=b):=by
 rw [Bool.eq_iff_iff,beq_iff_eq,decide_eq_true_eq]
theorem bne_dec {a b:Int}:(a != b)=!decide (a=b):=by
 rw [bne,beq_dec]
theorem formX_eq (kn:Nat) (h1:1≤kn) (h7:kn < 7) (sx:ByteArray) (vx ox qx:Int) (rx:List Xp) (hv:vx≤32767) :
 (((((((if (exR (kn:Int)).b then idn sx else decide (sx=⟨#[]⟩))&&(decide ((0)≤(vx))))&&(decide ((vx)≤((exR (kn:Int)).v))))&&(decide (((exR (kn:Int)).f)≤(ox))))&&(decide ((ox)≤((exR (kn:Int)).l))))&&((((rx.length:Nat):Int))==((exR (kn:Int)).n)))&&(rx.all okX))=okX ⟨(kn:Int),sx,vx,ox,rx,qx⟩:=by
 rw [okX,okXs_lall]
 have hk:kn=1∨kn=2∨kn=3∨kn=4∨kn=5∨kn=6:=by omega
 simp only [beq_dec]
 generalize rx.all okX=R
 generalize hn:rx.length=n
 generalize hs:decide (sx=⟨#[]⟩)=E
 rcases hk with rfl | rfl | rfl | rfl | rfl | rfl
 ·have r:exR ((1:Nat):Int)=⟨false,32767,0,0,0⟩:=rfl
  have a:hdX ((1:Nat):Int) sx vx ox n=!(((((n:Int) != 0)||!decide (sx=⟨#[]⟩))||(vx != vx))||(ox != 0)):=rfl
  have b:kdX ((1:Nat):Int) sx vx ox=decide (0≤vx):=rfl
  rw [r,a,b,hs,bne_dec,bne_dec,bne_dec,decide_eq_true hv]
  rw [Bool.eq_iff_iff]
  cases R <;> cases E <;> simp <;> omega
 ·have r:exR ((2:Nat):Int)=⟨true,0,0,0,0⟩:=rfl
  have a:hdX ((2:Nat):Int) sx vx ox n=!(((((n:Int) != 0)||!decide (sx=sx))||(vx != 0))||(ox != 0)):=rfl
  have b:kdX ((2:Nat):Int) sx vx ox=idn sx:=rfl
  rw [r,a,b,bne_dec,bne_dec,bne_dec]
  rw [Bool.eq_iff_iff]
  cases R <;> cases hD:idn sx <;> simp <;> omega
 ·have r:exR ((3:Nat):Int)=⟨true,0,0,0,1⟩:=rfl
  have a:hdX ((3:Nat):Int) sx vx ox n=!(((((n:Int) != 1)||!decide (sx=sx))||(vx != 0))||(ox != 0)):=rfl
  have b:kdX ((3:Nat):Int) sx vx ox=idn sx:=rfl
  rw [r,a,b,bne_dec,bne_dec,bne_dec]
  rw [Bool.eq_iff_iff]
  cases R <;> cases hD:idn sx <;> simp <;> omega
 ·have r:exR ((4:Nat):Int)=⟨true,0,0,0,0⟩:=rfl
  have a:hdX ((4:Nat):Int) sx vx ox n=!(((((n:Int) != 0)||!decide (sx=sx))||(vx != 0))||(ox != 0)):=rfl
  have b:kdX ((4:Nat):Int) sx vx ox=idn sx:=rfl
  rw [r,a,b,bne_dec,bne_dec,bne_dec]
  rw [Bool.eq_iff_iff]
  cases R <;> cases hD:idn sx <;> simp <;> omega
 ·have r:exR ((5:Nat):Int)=⟨false,0,1,2,1⟩:=rfl
  have a:hdX ((5:Nat):Int) sx vx ox n=!(((((n:Int) != 1)||!decide (sx=⟨#[]⟩))||(vx != 0))||(ox != ox)):=rfl
  have b:kdX ((5:Nat):Int) sx vx ox=(ox==1||ox==2):=rfl
  rw [r,a,b,hs,bne_dec,bne_dec,bne_dec,beq_dec,beq_dec]
  rw [Bool.eq_iff_iff]
  cases R <;> cases E <;> simp <;> omega
 ·have r:exR ((6:Nat):Int)=⟨false,0,3,15,2⟩:=rfl
  have a:hdX ((6:Nat):Int) sx vx ox n=!(((((n:Int) != 2)||!decide (sx=⟨#[]⟩))||(vx != 0))||(ox != ox)):=rfl
  have b:kdX ((6:Nat):Int) sx vx ox=(decide (3≤ox)&&decide (ox≤15)):=rfl
  rw [r,a,b,hs,bne_dec,bne_dec,bne_dec]
  rw [Bool.eq_iff_iff]
  cases R <;> cases E <;> simp <;> omega
section
variable {dst:Option Tmp}{ty:TypeId}{pos:String}{after:Array Edge}{g:Option (Nat × Bool)}{a:Act}{w:World}{T:Value→World→Prop}
theorem rn_fld_117_0 {x:Operand}{S o:Nat}(hx:a.eval x=.pointer (some ⟨S,o,none⟩)) (h:T (.pointer (some ⟨S,o,none⟩)) w):Runs Tryz.prog ⟨dst,.fieldAddr 117 x 0,ty,pos,after,g⟩ a w T:=by
 refine Runs.value (v:=.pointer (some ⟨S,o,none⟩)) (w':=w) ?_ h
 simp only [execOp,hx]
 go_simp
theorem rn_leq_32 {o1 o2:Operand}{b c:Int}(hx:a.eval o1=.int .i16 b) (hy:a.eval o2=.int .i16 c) (h:T (.bool (decide (b≤c))) w):Runs Tryz.prog ⟨dst,.binOp .leq 32 o1 o2 32,ty,pos,after,g⟩ a w T:=by
 refine Runs.value (v:=.bool (decide (b≤c))) (w':=w) ?_ h
 simp only [execOp,hx,hy]
 go_simp
theorem rn_fld_117_1 {x:Operand}{S o:Nat}(hx:a.eval x=.pointer (some ⟨S,o,none⟩)) (h:T (.pointer (some ⟨S,o+1,none⟩)) w):Runs Tryz.prog ⟨dst,.fieldAddr 117 x 1,ty,pos,after,g⟩ a w T:=by
 refine Runs.value (v:=.pointer (some ⟨S,o+1,none⟩)) (w':=w) ?_ h
 simp only [execOp,hx]
 go_simp
theorem rn_fld_117_2 {x:Operand}{S o:Nat}(hx:a.eval x=.pointer (some ⟨S,o,none⟩)) (h:T (.pointer (some ⟨S,o+2,none⟩)) w):Runs Tryz.prog ⟨dst,.fieldAddr 117 x 2,ty,pos,after,g⟩ a w T:=by
 refine Runs.value (v:=.pointer (some ⟨S,o+2,none⟩)) (w':=w) ?_ h
 simp only [execOp,hx]
 go_simp
theorem rn_leq_3 {o1 o2:Operand}{b c:Int}(hx:a.eval o1=.int .i64 b) (hy:a.eval o2=.int .i64 c) (h:T (.bool (decide (b≤c))) w):Runs Tryz.prog ⟨dst,.binOp .leq 3 o1 o2 3,ty,pos,after,g⟩ a w T:=by
 refine Runs.value (v:=.bool (decide (b≤c))) (w':=w) ?_ h
 simp only [execOp,hx,hy]
 go_simp
theorem rn_fld_117_3 {x:Operand}{S o:Nat}(hx:a.eval x=.pointer (some ⟨S,o,none⟩)) (h:T (.pointer (some ⟨S,o+3,none⟩)) w):Runs Tryz.prog ⟨dst,.fieldAddr 117 x 3,ty,pos,after,g⟩ a w T:=by
 refine Runs.value (v:=.pointer (some ⟨S,o+3,none⟩)) (w':=w) ?_ h
 simp only [execOp,hx]
 go_simp
theorem rn_fld_117_4 {x:Operand}{S o:Nat}(hx:a.eval x=.pointer (some ⟨S,o,none⟩)) (h:T (.pointer (some ⟨S,o+4,none⟩)) w):Runs Tryz.prog ⟨dst,.fieldAddr 117 x 4,ty,pos,after,g⟩ a w T:=by
 refine Runs.value (v:=.pointer (some ⟨S,o+4,none⟩)) (w':=w) ?_ h
 simp only [execOp,hx]
 go_simp
theorem rn_fld_164_0 {x:Operand}{S o:Nat}(hx:a.eval x=.pointer (some ⟨S,o,none⟩)) (h:T (.pointer (some ⟨S,o,none⟩)) w):Runs Tryz.prog ⟨dst,.fieldAddr 164 x 0,ty,pos,after,g⟩ a w T:=by
 refine Runs.value (v:=.pointer (some ⟨S,o,none⟩)) (w':=w) ?_ h
 simp only [execOp,hx]
 go_simp
theorem rn_fld_164_1 {x:Operand}{S o:Nat}(hx:a.eval x=.pointer (some ⟨S,o,none⟩)) (h:T (.pointer (some ⟨S,o+1,none⟩)) w):Runs Tryz.prog ⟨dst,.fieldAddr 164 x 1,ty,pos,after,g⟩ a w T:=by
 refine Runs.value (v:=.pointer (some ⟨S,o+1,none⟩)) (w':=w) ?_ h
 simp only [execOp,hx]
 go_simp
theorem rn_fld_164_2 {x:Operand}{S o:Nat}(hx:a.eval x=.pointer (some ⟨S,o,none⟩)) (h:T (.pointer (some ⟨S,o+2,none⟩)) w):Runs Tryz.prog ⟨dst,.fieldAddr 164 x 2,ty,pos,after,g⟩ a w T:=by
 refine Runs.value (v:=.pointer (some ⟨S,o+2,none⟩)) (w':=w) ?_ h
 simp only [execOp,hx]
 go_simp
theorem rn_fld_164_3 {x:Operand}{S o:Nat}(hx:a.eval x=.pointer (some ⟨S,o,none⟩)) (h:T (.pointer (some ⟨S,o+3,none⟩)) w):Runs Tryz.prog ⟨dst,.fieldAddr 164 x 3,ty,pos,after,g⟩ a w T:=by
 refine Runs.value (v:=.pointer (some ⟨S,o+3,none⟩)) (w':=w) ?_ h
 simp only [execOp,hx]
 go_simp
theorem rn_fld_164_4 {x:Operand}{S o:Nat}(hx:a.eval x=.pointer (some ⟨S,o,none⟩)) (h:T (.pointer (some ⟨S,o+4,none⟩)) w):Runs Tryz.prog ⟨dst,.fieldAddr 164 x 4,ty,pos,after,g⟩ a w T:=by
 refine Runs.value (v:=.pointer (some ⟨S,o+4,none⟩)) (w':=w) ?_ h
 simp only [execOp,hx]
 go_simp
end
set_option maxHeartbeats 8000000 in
theorem formX_any:∀(x:Xp) (B:Nat→Prop) (w:World) (p:Option Addr) (c:Nat),(x.s.size≤1048576∧x.v≤32767)→XL B w p c x.ar→Env w →
 Calls Tryz.prog 48 #[xv x.k x.s x.v x.o p x.ar.length c x.q] w fun e w'=>e=.returned (.bool (okX x))∧Grew w w':=by
 intro x
 induction x using Xp.ind with
 | h kx sx vx ox rx qx ih =>
 intro B w px cx hz hx hE
 replace hz:sx.size≤1048576∧vx≤32767:=hz
 replace hx:XL B w px cx rx:=hx
 show Calls Tryz.prog 48 #[xv kx sx vx ox px rx.length cx qx] w fun e w'=>e=.returned (.bool (okX ⟨kx,sx,vx,ox,rx,qx⟩))∧Grew w w'
 have hcap:rx.length≤cx:=hx.cap.1
 have hmax:=hx.cap.2.1
 by_cases h0:kx≤0
 ·rw [okX_out (.inl h0)]
  clear ih hx hE
  go_enter Tryz.func48,Tryz.ntmps48
  go_wp2
  go_ret
  exact⟨rfl,(Grew.refl _).alloc _⟩
 by_cases h7:7≤kx
 ·rw [okX_out (.inr h7)]
  clear ih hx hE
  go_enter Tryz.func48,Tryz.ntmps48
  go_wp2
  go_ret
  exact⟨rfl,(Grew.refl _).alloc _⟩
 ·obtain ⟨kn,rfl⟩:∃k:Nat,kx=(k:Int):=⟨kx.toNat,by omega⟩
  have hk1:1≤kn:=by omega
  have hk7:kn < 7:=by omega
  have HE:=zh hE
  have HNM:=zh (fun W (hW:Grew w W)=>name_any sx (exR (kn:Int)).b hz.1 W (HE.out.grew hW))
  have HEV:Hid (∀W,Grew w W→Calls Tryz.prog 100 #[.slice px rx.length cx,.func (.func 48) #[] #[]] W fun e w'=>e=.returned (.bool (rx.all okX))∧Grew W w') :=
   zh (fun W hW=>everyX_any 48 #[] en_fx rx okX B W px cx (hx.kept hW) (fun y hy p_ c_ W2 hy1 hy2 hW2=>ih y hy B W2 p_ c_ hy2 hy1 (HE.out.grew (hW.trans hW2))))
  have hec:=fun j {v:Value}(hv:(es5 (exR (kn:Int)))[j]?=some v)=>hE.ex kn hk7 j hv
  clear ih hx hE h0 h7
  have h0:w.cell? ⟨0,kn * 5,none⟩=some (.bool (exR (kn:Int)).b):=hec 0 rfl
  have h1:w.cell? ⟨0,kn * 5+1,none⟩=some (.int .i16 (exR (kn:Int)).v):=hec 1 rfl
  have h2:w.cell? ⟨0,kn * 5+2,none⟩=some (.int .i64 (exR (kn:Int)).f):=hec 2 rfl
  have h3:w.cell? ⟨0,kn * 5+3,none⟩=some (.int .i64 (exR (kn:Int)).l):=hec 3 rfl
  have h4:w.cell? ⟨0,kn * 5+4,none⟩=some (.int .i64 (exR (kn:Int)).n):=hec 4 rfl
  have b0:¬ (kn:Int)≤0:=by omega
  have b1:¬ (7:Int)≤(kn:Int):=by omega
  have b2:0 < w.heap.size:=World.block_lt_of_cell? _ _ h0
  have b3:(kn:Int) < (7:Int):=by omega
  have b4:(0:Int)≤(kn:Int):=by omega
  have HEQ:=zh (formX_eq kn hk1 hk7 sx vx ox qx rx hz.2)
  clear hec hk1 hk7 hz
  go_enter Tryz.func48,Tryz.ntmps48
  go_upto_region 4 with fail
  have hb1:Blk w.heap.size [.int .i64 (kn:Int),.string sx,.int .i16 vx,.int .i64 ox,.slice px rx.length cx,.int .i64 qx] 35 (w.alloc (Obj.cells #[.int .i64 (kn:Int),.string sx,.int .i16 vx,.int .i64 ox,.slice px rx.length cx,.int .i64 qx] 35)):=Blk.new w _ _
  have hb2:Blk (w.alloc (Obj.cells #[.int .i64 (kn:Int),.string sx,.int .i16 vx,.int .i64 ox,.slice px rx.length cx,.int .i64 qx] 35)).heap.size [.bool (exR (kn:Int)).b,.int .i16 (exR (kn:Int)).v,.int .i64 (exR (kn:Int)).f,.int .i64 (exR (kn:Int)).l,.int .i64 (exR (kn:Int)).n] 117 ((w.alloc (Obj.cells #[.int .i64 (kn:Int),.string sx,.int .i16 vx,.int .i64 ox,.slice px rx.length cx,.int .i64 qx] 35)).alloc (Obj.cells #[.bool (exR (kn:Int)).b,.int .i16 (exR (kn:Int)).v,.int .i64 (exR (kn:Int)).f,.int .i64 (exR (kn:Int)).l,.int .i64 (exR (kn:Int)).n] 117)):=Blk.new _ _ _
  have hb3:=hb1.grew ((Grew.refl _).alloc (Obj.cells #[.bool (exR (kn:Int)).b,.int .i16 (exR (kn:Int)).v,.int .i64 (exR (kn:Int)).f,.int .i64 (exR (kn:Int)).l,.int .i64 (exR (kn:Int)).n] 117))
  have hgV:Grew w ((w.alloc (Obj.cells #[.int .i64 (kn:Int),.string sx,.int .i16 vx,.int .i64 ox,.slice px rx.length cx,.int .i64 qx] 35)).alloc (Obj.cells #[.bool (exR (kn:Int)).b,.int .i16 (exR (kn:Int)).v,.int .i64 (exR (kn:Int)).f,.int .i64 (exR (kn:Int)).l,.int .i64 (exR (kn:Int)).n] 117)):=((Grew.refl w).alloc _).alloc _
  rw [alloc_sz] at hb2
  try rw [alloc_sz]
  generalize ((w.alloc (Obj.cells #[.int .i64 (kn:Int),.string sx,.int .i16 vx,.int .i64 ox,.slice px rx.length cx,.int .i64 qx] 35)).alloc (Obj.cells #[.bool (exR (kn:Int)).b,.int .i16 (exR (kn:Int)).v,.int .i64 (exR (kn:Int)).f,.int .i64 (exR (kn:Int)).l,.int .i64 (exR (kn:Int)).n] 117))=V at hb2 hb3 hgV ⊢
  generalize w.heap.size+1=S at hb2 ⊢
  generalize w.heap.size=T at hb3 ⊢
  have HGV:=zh hgV
  have d0:Atv ⟨T,0,none⟩ (.int .i64 (kn:Int)) V:=hb3.atv 0 rfl
  have d1:Atv ⟨T,1,none⟩ (.string sx) V:=hb3.atv 1 rfl
  have d2:Atv ⟨T,2,none⟩ (.int .i16 vx) V:=hb3.atv 2 rfl
  have d3:Atv ⟨T,3,none⟩ (.int .i64 ox) V:=hb3.atv 3 rfl
  have d4:Atv ⟨T,4,none⟩ (.slice px rx.length cx) V:=hb3.atv 4 rfl
  have d5:Atv ⟨T,5,none⟩ (.int .i64 qx) V:=hb3.atv 5 rfl
  have e0:Atv ⟨S,0,none⟩ (.bool (exR (kn:Int)).b) V:=hb2.atv 0 rfl
  have e1:Atv ⟨S,1,none⟩ (.int .i16 (exR (kn:Int)).v) V:=hb2.atv 1 rfl
  have e2:Atv ⟨S,2,none⟩ (.int .i64 (exR (kn:Int)).f) V:=hb2.atv 2 rfl
  have e3:Atv ⟨S,3,none⟩ (.int .i64 (exR (kn:Int)).l) V:=hb2.atv 3 rfl
  have e4:Atv ⟨S,4,none⟩ (.int .i64 (exR (kn:Int)).n) V:=hb2.atv 4 rfl
  clear hb1 hb2 hb3 hgV h0 h1 h2 h3 h4 b2
  refine wp_postsL [some 16,some 17,some 18,some 19,some 20,some 21,some 22,some 23,some 24,some 25,some 26,some 27,some 28,some 29,some 30,some 31,some 32,some 33,some 34,some 35,some 36,some 37,some 38,some 39,some 40,some 41,some 42,some 43,some 44,some 45,some 46,some 47,some 48,some 49,some 50,some 51,some 52,some 53,some 54,some 55,some 56,some 57,some 58,some 59,some 2] (Zfb (Zta (Zfd (Zfc (Zfa (Ztg (Ztd (Ztc [])))))))) [fun v _=>v=.pointer (some ⟨T,1,none⟩),fun v _=>v=.string sx,fun v _=>v=.pointer (some ⟨S,0,none⟩),fun v _=>v=.bool ((exR (kn:Int)).b),fun v _=>v=.bool (if (exR (kn:Int)).b then idn sx else decide (sx=⟨#[]⟩)),fun v _=>v=.bool (if (exR (kn:Int)).b then idn sx else decide (sx=⟨#[]⟩)),fun v _=>Zg ((if (exR (kn:Int)).b then idn sx else decide (sx=⟨#[]⟩))=true) (.pointer (some ⟨T,2,none⟩)) v,fun v _=>Zg ((if (exR (kn:Int)).b then idn sx else decide (sx=⟨#[]⟩))=true) (.int .i16 (vx)) v,fun v _=>Zg ((if (exR (kn:Int)).b then idn sx else decide (sx=⟨#[]⟩))=true) (.bool (decide ((0)≤(vx)))) v,fun v _=>v=.bool ((if (exR (kn:Int)).b then idn sx else decide (sx=⟨#[]⟩))&&(decide ((0)≤(vx)))),fun v _=>v=.bool ((if (exR (kn:Int)).b then idn sx else decide (sx=⟨#[]⟩))&&(decide ((0)≤(vx)))),fun v _=>Zg (((if (exR (kn:Int)).b then idn sx else decide (sx=⟨#[]⟩))&&(decide ((0)≤(vx))))=true) (.pointer (some ⟨T,2,none⟩)) v,fun v _=>Zg (((if (exR (kn:Int)).b then idn sx else decide (sx=⟨#[]⟩))&&(decide ((0)≤(vx))))=true) (.int .i16 (vx)) v,fun v _=>Zg (((if (exR (kn:Int)).b then idn sx else decide (sx=⟨#[]⟩))&&(decide ((0)≤(vx))))=true) (.pointer (some ⟨S,1,none⟩)) v,fun v _=>Zg (((if (exR (kn:Int)).b then idn sx else decide (sx=⟨#[]⟩))&&(decide ((0)≤(vx))))=true) (.int .i16 ((exR (kn:Int)).v)) v,fun v _=>Zg (((if (exR (kn:Int)).b then idn sx else decide (sx=⟨#[]⟩))&&(decide ((0)≤(vx))))=true) (.bool (decide ((vx)≤((exR (kn:Int)).v)))) v,fun v _=>v=.bool (((if (exR (kn:Int)).b then idn sx else decide (sx=⟨#[]⟩))&&(decide ((0)≤(vx))))&&(decide ((vx)≤((exR (kn:Int)).v)))),fun v _=>v=.bool (((if (exR (kn:Int)).b then idn sx else decide (sx=⟨#[]⟩))&&(decide ((0)≤(vx))))&&(decide ((vx)≤((exR (kn:Int)).v)))),fun v _=>Zg ((((if (exR (kn:Int)).b then idn sx else decide (sx=⟨#[]⟩))&&(decide ((0)≤(vx))))&&(decide ((vx)≤((exR (kn:Int)).v))))=true) (.pointer (some ⟨S,2,none⟩)) v,fun v _=>Zg ((((if (exR (kn:Int)).b then idn sx else decide (sx=⟨#[]⟩))&&(decide ((0)≤(vx))))&&(decide ((vx)≤((exR (kn:Int)).v))))=true) (.int .i64 ((exR (kn:Int)).f)) v,fun v _=>Zg ((((if (exR (kn:Int)).b then idn sx else decide (sx=⟨#[]⟩))&&(decide ((0)≤(vx))))&&(decide ((vx)≤((exR (kn:Int)).v))))=true) (.pointer (some ⟨T,3,none⟩)) v,fun v _=>Zg ((((if (exR (kn:Int)).b then idn sx else decide (sx=⟨#[]⟩))&&(decide ((0)≤(vx))))&&(decide ((vx)≤((exR (kn:Int)).v))))=true) (.int .i64 (ox)) v,fun v _=>Zg ((((if (exR (kn:Int)).b then idn sx else decide (sx=⟨#[]⟩))&&(decide ((0)≤(vx))))&&(decide ((vx)≤((exR (kn:Int)).v))))=true) (.bool (decide (((exR (kn:Int)).f)≤(ox)))) v,fun v _=>v=.bool ((((if (exR (kn:Int)).b then idn sx else decide (sx=⟨#[]⟩))&&(decide ((0)≤(vx))))&&(decide ((vx)≤((exR (kn:Int)).v))))&&(decide (((exR (kn:Int)).f)≤(ox)))),fun v _=>v=.bool ((((if (exR (kn:Int)).b then idn sx else decide (sx=⟨#[]⟩))&&(decide ((0)≤(vx))))&&(decide ((vx)≤((exR (kn:Int)).v))))&&(decide (((exR (kn:Int)).f)≤(ox)))),fun v _=>Zg (((((if (exR (kn:Int)).b then idn sx else decide (sx=⟨#[]⟩))&&(decide ((0)≤(vx))))&&(decide ((vx)≤((exR (kn:Int)).v))))&&(decide (((exR (kn:Int)).f)≤(ox))))=true) (.pointer (some ⟨T,3,none⟩)) v,fun v _=>Zg (((((if (exR (kn:Int)).b then idn sx else decide (sx=⟨#[]⟩))&&(decide ((0)≤(vx))))&&(decide ((vx)≤((exR (kn:Int)).v))))&&(decide (((exR (kn:Int)).f)≤(ox))))=true) (.int .i64 (ox)) v,fun v _=>Zg (((((if (exR (kn:Int)).b then idn sx else decide (sx=⟨#[]⟩))&&(decide ((0)≤(vx))))&&(decide ((vx)≤((exR (kn:Int)).v))))&&(decide (((exR (kn:Int)).f)≤(ox))))=true) (.pointer (some ⟨S,3,none⟩)) v,fun v _=>Zg (((((if (exR (kn:Int)).b then idn sx else decide (sx=⟨#[]⟩))&&(decide ((0)≤(vx))))&&(decide ((vx)≤((exR (kn:Int)).v))))&&(decide (((exR (kn:Int)).f)≤(ox))))=true) (.int .i64 ((exR (kn:Int)).l)) v,fun v _=>Zg (((((if (exR (kn:Int)).b then idn sx else decide (sx=⟨#[]⟩))&&(decide ((0)≤(vx))))&&(decide ((vx)≤((exR (kn:Int)).v))))&&(decide (((exR (kn:Int)).f)≤(ox))))=true) (.bool (decide ((ox)≤((exR (kn:Int)).l)))) v,fun v _=>v=.bool (((((if (exR (kn:Int)).b then idn sx else decide (sx=⟨#[]⟩))&&(decide ((0)≤(vx))))&&(decide ((vx)≤((exR (kn:Int)).v))))&&(decide (((exR (kn:Int)).f)≤(ox))))&&(decide ((ox)≤((exR (kn:Int)).l)))),fun v _=>v=.bool (((((if (exR (kn:Int)).b then idn sx else decide (sx=⟨#[]⟩))&&(decide ((0)≤(vx))))&&(decide ((vx)≤((exR (kn:Int)).v))))&&(decide (((exR (kn:Int)).f)≤(ox))))&&(decide ((ox)≤((exR (kn:Int)).l)))),fun v _=>Zg ((((((if (exR (kn:Int)).b then idn sx else decide (sx=⟨#[]⟩))&&(decide ((0)≤(vx))))&&(decide ((vx)≤((exR (kn:Int)).v))))&&(decide (((exR (kn:Int)).f)≤(ox))))&&(decide ((ox)≤((exR (kn:Int)).l))))=true) (.pointer (some ⟨T,4,none⟩)) v,fun v _=>Zg ((((((if (exR (kn:Int)).b then idn sx else decide (sx=⟨#[]⟩))&&(decide ((0)≤(vx))))&&(decide ((vx)≤((exR (kn:Int)).v))))&&(decide (((exR (kn:Int)).f)≤(ox))))&&(decide ((ox)≤((exR (kn:Int)).l))))=true) (.slice px (rx.length) (cx)) v,fun v _=>Zg ((((((if (exR (kn:Int)).b then idn sx else decide (sx=⟨#[]⟩))&&(decide ((0)≤(vx))))&&(decide ((vx)≤((exR (kn:Int)).v))))&&(decide (((exR (kn:Int)).f)≤(ox))))&&(decide ((ox)≤((exR (kn:Int)).l))))=true) (.int .i64 (((rx.length:Nat):Int))) v,fun v _=>Zg ((((((if (exR (kn:Int)).b then idn sx else decide (sx=⟨#[]⟩))&&(decide ((0)≤(vx))))&&(decide ((vx)≤((exR (kn:Int)).v))))&&(decide (((exR (kn:Int)).f)≤(ox))))&&(decide ((ox)≤((exR (kn:Int)).l))))=true) (.pointer (some ⟨S,4,none⟩)) v,fun v _=>Zg ((((((if (exR (kn:Int)).b then idn sx else decide (sx=⟨#[]⟩))&&(decide ((0)≤(vx))))&&(decide ((vx)≤((exR (kn:Int)).v))))&&(decide (((exR (kn:Int)).f)≤(ox))))&&(decide ((ox)≤((exR (kn:Int)).l))))=true) (.int .i64 ((exR (kn:Int)).n)) v,fun v _=>Zg ((((((if (exR (kn:Int)).b then idn sx else decide (sx=⟨#[]⟩))&&(decide ((0)≤(vx))))&&(decide ((vx)≤((exR (kn:Int)).v))))&&(decide (((exR (kn:Int)).f)≤(ox))))&&(decide ((ox)≤((exR (kn:Int)).l))))=true) (.bool ((((rx.length:Nat):Int))==((exR (kn:Int)).n))) v,fun v _=>v=.bool ((((((if (exR (kn:Int)).b then idn sx else decide (sx=⟨#[]⟩))&&(decide ((0)≤(vx))))&&(decide ((vx)≤((exR (kn:Int)).v))))&&(decide (((exR (kn:Int)).f)≤(ox))))&&(decide ((ox)≤((exR (kn:Int)).l))))&&((((rx.length:Nat):Int))==((exR (kn:Int)).n))),fun v _=>v=.bool ((((((if (exR (kn:Int)).b then idn sx else decide (sx=⟨#[]⟩))&&(decide ((0)≤(vx))))&&(decide ((vx)≤((exR (kn:Int)).v))))&&(decide (((exR (kn:Int)).f)≤(ox))))&&(decide ((ox)≤((exR (kn:Int)).l))))&&((((rx.length:Nat):Int))==((exR (kn:Int)).n))),fun v _=>Zg (((((((if (exR (kn:Int)).b then idn sx else decide (sx=⟨#[]⟩))&&(decide ((0)≤(vx))))&&(decide ((vx)≤((exR (kn:Int)).v))))&&(decide (((exR (kn:Int)).f)≤(ox))))&&(decide ((ox)≤((exR (kn:Int)).l))))&&((((rx.length:Nat):Int))==((exR (kn:Int)).n)))=true) (.pointer (some ⟨T,4,none⟩)) v,fun v _=>Zg (((((((if (exR (kn:Int)).b then idn sx else decide (sx=⟨#[]⟩))&&(decide ((0)≤(vx))))&&(decide ((vx)≤((exR (kn:Int)).v))))&&(decide (((exR (kn:Int)).f)≤(ox))))&&(decide ((ox)≤((exR (kn:Int)).l))))&&((((rx.length:Nat):Int))==((exR (kn:Int)).n)))=true) (.slice px (rx.length) (cx)) v,fun v _=>Zg (((((((if (exR (kn:Int)).b then idn sx else decide (sx=⟨#[]⟩))&&(decide ((0)≤(vx))))&&(decide ((vx)≤((exR (kn:Int)).v))))&&(decide (((exR (kn:Int)).f)≤(ox))))&&(decide ((ox)≤((exR (kn:Int)).l))))&&((((rx.length:Nat):Int))==((exR (kn:Int)).n)))=true) (.bool (rx.all okX)) v,fun v _=>v=.bool (((((((if (exR (kn:Int)).b then idn sx else decide (sx=⟨#[]⟩))&&(decide ((0)≤(vx))))&&(decide ((vx)≤((exR (kn:Int)).v))))&&(decide (((exR (kn:Int)).f)≤(ox))))&&(decide ((ox)≤((exR (kn:Int)).l))))&&((((rx.length:Nat):Int))==((exR (kn:Int)).n)))&&(rx.all okX)),fun v _=>v=.bool (((((((if (exR (kn:Int)).b then idn sx else decide (sx=⟨#[]⟩))&&(decide ((0)≤(vx))))&&(decide ((vx)≤((exR (kn:Int)).v))))&&(decide (((exR (kn:Int)).f)≤(ox))))&&(decide ((ox)≤((exR (kn:Int)).l))))&&((((rx.length:Nat):Int))==((exR (kn:Int)).n)))&&(rx.all okX))] (by kernel_rfl) rfl ?_ ⟨?_,?_,?_,?_,?_,?_,?_,?_,?_,?_,?_,?_,?_,?_,?_,?_,?_,?_,?_,?_,?_,?_,?_,?_,?_,?_,?_,?_,?_,?_,?_,?_,?_,?_,?_,?_,?_,?_,?_,?_,?_,?_,?_,?_,?_,trivial⟩ ?_
  ·exact⟨Zi,Zi,Zi,Zi,Zi,Zi,Zi,Zi,Zi,Zi,Zi,Zi,Zi,Zi,Zi,Zi,Zi,Zi,Zi,Zi,Zi,Zi,Zi,Zi,Zi,Zi,Zi,Zi,Zi,Zi,Zi,Zi,Zi,Zi,Zi,Zi,Zi,Zi,Zi,Zi,Zi,Zi,Zi,Zi,Zi,trivial⟩
  ·intro u w hR hd;exact rn_fld_35_1 (ev rfl) Zr
  ·intro u w hR hd;exact rn_ld_9 (ev (hd.1 rfl)) (d1.kept hR) Zr
  ·intro u w hR hd;exact rn_fld_117_0 (ev rfl) Zr
  ·intro u w hR hd;exact rn_ld_4 (ev (hd.1 rfl)) (e0.kept hR) Zr
  ·intro u w hR hd;exact runs_c2 en_nm (ev (hd.1 rfl)) (ev (hd.2.1 rfl)) (callp (fun _ e=>e) (HNM.out _ (HGV.out.trans hR)))
  ·intro u w hR hd;exact runs_mv (ev (hd.1 rfl)) Zr
  ·intro u w hR hd;exact⟨fun hg=>have hG:=Zh (hd.1 rfl) hg;rn_fld_35_2 (ev rfl) (Zs hG),Zn (hd.1 rfl)⟩
  ·intro u w hR hd;exact⟨fun hg=>have hG:=Zh (hd.2.1 rfl) hg;rn_ld_32 (ev ((hd.1 rfl).1 hG)) (d2.kept hR) (Zs hG),Zn (hd.2.1 rfl)⟩
  ·intro u w hR hd;exact⟨fun hg=>have hG:=Zh (hd.2.1 rfl) hg;rn_leq_32 rfl (ev ((hd.1 rfl).1 hG)) (Zs hG),Zn (hd.2.1 rfl)⟩
  ·intro u w hR hd;exact runs_an (ev (hd.1 rfl)) (fun hb=>ev ((hd.2.1 rfl).1 hb)) Zr
  ·intro u w hR hd;exact runs_mv (ev (hd.1 rfl)) Zr
  ·intro u w hR hd;exact⟨fun hg=>have hG:=Zh (hd.1 rfl) hg;rn_fld_35_2 (ev rfl) (Zs hG),Zn (hd.1 rfl)⟩
  ·intro u w hR hd;exact⟨fun hg=>have hG:=Zh (hd.2.1 rfl) hg;rn_ld_32 (ev ((hd.1 rfl).1 hG)) (d2.kept hR) (Zs hG),Zn (hd.2.1 rfl)⟩
  ·intro u w hR hd;exact⟨fun hg=>have hG:=Zh (hd.1 rfl) hg;rn_fld_117_1 (ev rfl) (Zs hG),Zn (hd.1 rfl)⟩
  ·intro u w hR hd;exact⟨fun hg=>have hG:=Zh (hd.2.1 rfl) hg;rn_ld_32 (ev ((hd.1 rfl).1 hG)) (e1.kept hR) (Zs hG),Zn (hd.2.1 rfl)⟩
  ·intro u w hR hd;exact⟨fun hg=>have hG:=Zh (hd.2.2.1 rfl) hg;rn_leq_32 (ev ((hd.1 rfl).1 hG)) (ev ((hd.2.1 rfl).1 hG)) (Zs hG),Zn (hd.2.2.1 rfl)⟩
  ·intro u w hR hd;exact runs_an (ev (hd.1 rfl)) (fun hb=>ev ((hd.2.1 rfl).1 hb)) Zr
  ·intro u w hR hd;exact runs_mv (ev (hd.1 rfl)) Zr
  ·intro u w hR hd;exact⟨fun hg=>have hG:=Zh (hd.1 rfl) hg;rn_fld_117_2 (ev rfl) (Zs hG),Zn (hd.1 rfl)⟩
  ·intro u w hR hd;exact⟨fun hg=>have hG:=Zh (hd.2.1 rfl) hg;rn_ld_3 (ev ((hd.1 rfl).1 hG)) (e2.kept hR) (Zs hG),Zn (hd.2.1 rfl)⟩
  ·intro u w hR hd;exact⟨fun hg=>have hG:=Zh (hd.1 rfl) hg;rn_fld_35_3 (ev rfl) (Zs hG),Zn (hd.1 rfl)⟩
  ·intro u w hR hd;exact⟨fun hg=>have hG:=Zh (hd.2.1 rfl) hg;rn_ld_3 (ev ((hd.1 rfl).1 hG)) (d3.kept hR) (Zs hG),Zn (hd.2.1 rfl)⟩
  ·intro u w hR hd;exact⟨fun hg=>have hG:=Zh (hd.2.2.1 rfl) hg;rn_leq_3 (ev ((hd.1 rfl).1 hG)) (ev ((hd.2.1 rfl).1 hG)) (Zs hG),Zn (hd.2.2.1 rfl)⟩
  ·intro u w hR hd;exact runs_an (ev (hd.1 rfl)) (fun hb=>ev ((hd.2.1 rfl).1 hb)) Zr
  ·intro u w hR hd;exact runs_mv (ev (hd.1 rfl)) Zr
  ·intro u w hR hd;exact⟨fun hg=>have hG:=Zh (hd.1 rfl) hg;rn_fld_35_3 (ev rfl) (Zs hG),Zn (hd.1 rfl)⟩
  ·intro u w hR hd;exact⟨fun hg=>have hG:=Zh (hd.2.1 rfl) hg;rn_ld_3 (ev ((hd.1 rfl).1 hG)) (d3.kept hR) (Zs hG),Zn (hd.2.1 rfl)⟩
  ·intro u w hR hd;exact⟨fun hg=>have hG:=Zh (hd.1 rfl) hg;rn_fld_117_3 (ev rfl) (Zs hG),Zn (hd.1 rfl)⟩
  ·intro u w hR hd;exact⟨fun hg=>have hG:=Zh (hd.2.1 rfl) hg;rn_ld_3 (ev ((hd.1 rfl).1 hG)) (e3.kept hR) (Zs hG),Zn (hd.2.1 rfl)⟩
  ·intro u w hR hd;exact⟨fun hg=>have hG:=Zh (hd.2.2.1 rfl) hg;rn_leq_3 (ev ((hd.1 rfl).1 hG)) (ev ((hd.2.1 rfl).1 hG)) (Zs hG),Zn (hd.2.2.1 rfl)⟩
  ·intro u w hR hd;exact runs_an (ev (hd.1 rfl)) (fun hb=>ev ((hd.2.1 rfl).1 hb)) Zr
  ·intro u w hR hd;exact runs_mv (ev (hd.1 rfl)) Zr
  ·intro u w hR hd;exact⟨fun hg=>have hG:=Zh (hd.1 rfl) hg;rn_fld_35_4 (ev rfl) (Zs hG),Zn (hd.1 rfl)⟩
  ·intro u w hR hd;exact⟨fun hg=>have hG:=Zh (hd.2.1 rfl) hg;rn_ld_33 (ev ((hd.1 rfl).1 hG)) (d4.kept hR) (Zs hG),Zn (hd.2.1 rfl)⟩
  ·intro u w hR hd;exact⟨fun hg=>have hG:=Zh (hd.2.1 rfl) hg;rn_len_33 (ev ((hd.1 rfl).1 hG)) (Zs hG),Zn (hd.2.1 rfl)⟩
  ·intro u w hR hd;exact⟨fun hg=>have hG:=Zh (hd.1 rfl) hg;rn_fld_117_4 (ev rfl) (Zs hG),Zn (hd.1 rfl)⟩
  ·intro u w hR hd;exact⟨fun hg=>have hG:=Zh (hd.2.1 rfl) hg;rn_ld_3 (ev ((hd.1 rfl).1 hG)) (e4.kept hR) (Zs hG),Zn (hd.2.1 rfl)⟩
  ·intro u w hR hd;exact⟨fun hg=>have hG:=Zh (hd.2.2.1 rfl) hg;rn_eql_3 (ev ((hd.1 rfl).1 hG)) (ev ((hd.2.1 rfl).1 hG)) (Zs hG),Zn (hd.2.2.1 rfl)⟩
  ·intro u w hR hd;exact runs_an (ev (hd.1 rfl)) (fun hb=>ev ((hd.2.1 rfl).1 hb)) Zr
  ·intro u w hR hd;exact runs_mv (ev (hd.1 rfl)) Zr
  ·intro u w hR hd;exact⟨fun hg=>have hG:=Zh (hd.1 rfl) hg;rn_fld_35_4 (ev rfl) (Zs hG),Zn (hd.1 rfl)⟩
  ·intro u w hR hd;exact⟨fun hg=>have hG:=Zh (hd.2.1 rfl) hg;rn_ld_33 (ev ((hd.1 rfl).1 hG)) (d4.kept hR) (Zs hG),Zn (hd.2.1 rfl)⟩
  ·intro u w hR hd;exact⟨fun hg=>have hG:=Zh (hd.2.1 rfl) hg;runs_c2 en_evX (ev ((hd.1 rfl).1 hG)) rfl (callp (fun _ e=>⟨fun _=>e,fun hn=>absurd hG hn⟩) (HEV.out _ (HGV.out.trans hR))),Zn (hd.2.1 rfl)⟩
  ·intro u w hR hd;exact runs_an (ev (hd.1 rfl)) (fun hb=>ev ((hd.2.1 rfl).1 hb)) Zr
  ·intro u w hR hd;exact runs_mva (ev (hd.1 rfl)) Zr
  ·intro u w4 hR hh
   have he:u 2=.bool (((((((if (exR (kn:Int)).b then idn sx else decide (sx=⟨#[]⟩))&&(decide ((0)≤(vx))))&&(decide ((vx)≤((exR (kn:Int)).v))))&&(decide (((exR (kn:Int)).f)≤(ox))))&&(decide ((ox)≤((exR (kn:Int)).l))))&&((((rx.length:Nat):Int))==((exR (kn:Int)).n)))&&(rx.all okX)):=hh 44 (by decide)
   rw [HEQ.out] at he
   simp only [mixA,mixL,zz9,zz0,he]
   have HG4:Hid (Grew w w4):=zh (HGV.out.trans hR)
   clear hh he hR d0 d1 d2 d3 d4 d5 e0 e1 e2 e3 e4 HGV
   go_wp2
   go_ret
   exact⟨rfl,HG4.out⟩
theorem okS_out {k nx qx:Int}{sx:ByteArray}{rx:List Xp}{yx ex:List Sm}(h:k≤0∨14≤k):okS ⟨k,sx,nx,rx,yx,ex,qx⟩=false:=by
 have h1:shO k=false:=by
  rw [shO,Bool.and_eq_false_iff,decide_eq_false_iff_not,decide_eq_false_iff_not]
  omega
 rw [okS,hdS,h1]
 rfl
set_option maxHeartbeats 4000000 in
theorem formS_eq (kn:Nat) (h1:1≤kn) (h7:kn < 14) (sx:ByteArray) (nx qx:Int) (rx:List Xp) (yx ex:List Sm) :
 (((((((((if (ssR (kn:Int)).b then idn sx else decide (sx=⟨#[]⟩))&&(decide ((0)≤(nx))))&&(decide ((nx)≤((ssR (kn:Int)).n))))&&((((rx.length:Nat):Int))==((ssR (kn:Int)).a)))&&(((ssR (kn:Int)).y)||((((yx.length:Nat):Int))==(0))))&&(((ssR (kn:Int)).e)||((((ex.length:Nat):Int))==(0))))&&(rx.all okX))&&(yx.all okS))&&(ex.all okS))=okS ⟨(kn:Int),sx,nx,rx,yx,ex,qx⟩:=by
 have he0:(⟨([]:List UInt8).toArray⟩:ByteArray)=⟨#[]⟩:=rfl
 rw [okS,okXs_lall,okSs_lall,okSs_lall]
 have hk:kn=1∨kn=2∨kn=3∨kn=4∨kn=5∨kn=6∨kn=7∨kn=8∨kn=9∨kn=10∨kn=11∨kn=12∨kn=13:=by omega
 cases hR:rx.all okX with
 | false=>simp only [Bool.and_false,Bool.false_and]
 | true =>
 cases hY:yx.all okS with
 | false=>simp only [Bool.and_false,Bool.false_and]
 | true =>
 cases hZ:ex.all okS with
 | false=>simp only [Bool.and_false,Bool.false_and]
 | true =>
 simp only [Bool.and_true]
 clear hR hY hZ
 rcases hk with rfl | rfl | rfl | rfl | rfl | rfl | rfl | rfl | rfl | rfl | rfl | rfl | rfl
 ·have r:ssR ((1:Nat):Int)=⟨true,0,1,false,false⟩:=rfl
  have s1:shO ((1:Nat):Int)=true:=by decide
  have s2:shA ((1:Nat):Int)=1:=by decide
  have s3:shN ((1:Nat):Int)=true:=by decide
  have s4:shM ((1:Nat):Int)=false:=by decide
  have s5:shB ((1:Nat):Int)=false:=by decide
  have s6:shE ((1:Nat):Int)=false:=by decide
  rw [r,hdS,s1,s2,s3,s4,s5,s6,he0,num1]
  simp only [beq_dec,bne_dec]
  generalize idn sx=D
  generalize decide (sx=⟨#[]⟩)=E
  generalize rx.length=a
  generalize yx.length=b
  generalize ex.length=c
  rw [Bool.eq_iff_iff]
  cases D <;> simp <;> omega
 ·have r:ssR ((2:Nat):Int)=⟨true,0,1,false,false⟩:=rfl
  have s1:shO ((2:Nat):Int)=true:=by decide
  have s2:shA ((2:Nat):Int)=1:=by decide
  have s3:shN ((2:Nat):Int)=true:=by decide
  have s4:shM ((2:Nat):Int)=false:=by decide
  have s5:shB ((2:Nat):Int)=false:=by decide
  have s6:shE ((2:Nat):Int)=false:=by decide
  rw [r,hdS,s1,s2,s3,s4,s5,s6,he0,num1]
  simp only [beq_dec,bne_dec]
  generalize idn sx=D
  generalize decide (sx=⟨#[]⟩)=E
  generalize rx.length=a
  generalize yx.length=b
  generalize ex.length=c
  rw [Bool.eq_iff_iff]
  cases D <;> simp <;> omega
 ·have r:ssR ((3:Nat):Int)=⟨true,0,2,false,false⟩:=rfl
  have s1:shO ((3:Nat):Int)=true:=by decide
  have s2:shA ((3:Nat):Int)=2:=by decide
  have s3:shN ((3:Nat):Int)=true:=by decide
  have s4:shM ((3:Nat):Int)=false:=by decide
  have s5:shB ((3:Nat):Int)=false:=by decide
  have s6:shE ((3:Nat):Int)=false:=by decide
  rw [r,hdS,s1,s2,s3,s4,s5,s6,he0,num1]
  simp only [beq_dec,bne_dec]
  generalize idn sx=D
  generalize decide (sx=⟨#[]⟩)=E
  generalize rx.length=a
  generalize yx.length=b
  generalize ex.length=c
  rw [Bool.eq_iff_iff]
  cases D <;> simp <;> omega
 ·have r:ssR ((4:Nat):Int)=⟨false,0,1,true,true⟩:=rfl
  have s1:shO ((4:Nat):Int)=true:=by decide
  have s2:shA ((4:Nat):Int)=1:=by decide
  have s3:shN ((4:Nat):Int)=false:=by decide
  have s4:shM ((4:Nat):Int)=false:=by decide
  have s5:shB ((4:Nat):Int)=true:=by decide
  have s6:shE ((4:Nat):Int)=true:=by decide
  rw [r,hdS,s1,s2,s3,s4,s5,s6,he0,num1]
  simp only [beq_dec,bne_dec]
  generalize idn sx=D
  generalize decide (sx=⟨#[]⟩)=E
  generalize rx.length=a
  generalize yx.length=b
  generalize ex.length=c
  rw [Bool.eq_iff_iff]
  cases E <;> simp <;> omega
 ·have r:ssR ((5:Nat):Int)=⟨false,32767,0,true,false⟩:=rfl
  have s1:shO ((5:Nat):Int)=true:=by decide
  have s2:shA ((5:Nat):Int)=0:=by decide
  have s3:shN ((5:Nat):Int)=false:=by decide
  have s4:shM ((5:Nat):Int)=true:=by decide
  have s5:shB ((5:Nat):Int)=true:=by decide
  have s6:shE ((5:Nat):Int)=false:=by decide
  rw [r,hdS,s1,s2,s3,s4,s5,s6,he0,num1]
  simp only [beq_dec,bne_dec]
  generalize idn sx=D
  generalize decide (sx=⟨#[]⟩)=E
  generalize rx.length=a
  generalize yx.length=b
  generalize ex.length=c
  rw [Bool.eq_iff_iff]
  cases E <;> simp <;> omega
 ·have r:ssR ((6:Nat):Int)=⟨false,0,1,true,false⟩:=rfl
  have s1:shO ((6:Nat):Int)=true:=by decide
  have s2:shA ((6:Nat):Int)=1:=by decide
  have s3:shN ((6:Nat):Int)=false:=by decide
  have s4:shM ((6:Nat):Int)=false:=by decide
  have s5:shB ((6:Nat):Int)=true:=by decide
  have s6:shE ((6:Nat):Int)=false:=by decide
  rw [r,hdS,s1,s2,s3,s4,s5,s6,he0,num1]
  simp only [beq_dec,bne_dec]
  generalize idn sx=D
  generalize decide (sx=⟨#[]⟩)=E
  generalize rx.length=a
  generalize yx.length=b
  generalize ex.length=c
  rw [Bool.eq_iff_iff]
  cases E <;> simp <;> omega
 ·have r:ssR ((7:Nat):Int)=⟨true,0,1,false,false⟩:=rfl
  have s1:shO ((7:Nat):Int)=true:=by decide
  have s2:shA ((7:Nat):Int)=1:=by decide
  have s3:shN ((7:Nat):Int)=true:=by decide
  have s4:shM ((7:Nat):Int)=false:=by decide
  have s5:shB ((7:Nat):Int)=false:=by decide
  have s6:shE ((7:Nat):Int)=false:=by decide
  rw [r,hdS,s1,s2,s3,s4,s5,s6,he0,num1]
  simp only [beq_dec,bne_dec]
  generalize idn sx=D
  generalize decide (sx=⟨#[]⟩)=E
  generalize rx.length=a
  generalize yx.length=b
  generalize ex.length=c
  rw [Bool.eq_iff_iff]
  cases D <;> simp <;> omega
 ·have r:ssR ((8:Nat):Int)=⟨false,0,1,false,false⟩:=rfl
  have s1:shO ((8:Nat):Int)=true:=by decide
  have s2:shA ((8:Nat):Int)=1:=by decide
  have s3:shN ((8:Nat):Int)=false:=by decide
  have s4:shM ((8:Nat):Int)=false:=by decide
  have s5:shB ((8:Nat):Int)=false:=by decide
  have s6:shE ((8:Nat):Int)=false:=by decide
  rw [r,hdS,s1,s2,s3,s4,s5,s6,he0,num1]
  simp only [beq_dec,bne_dec]
  generalize idn sx=D
  generalize decide (sx=⟨#[]⟩)=E
  generalize rx.length=a
  generalize yx.length=b
  generalize ex.length=c
  rw [Bool.eq_iff_iff]
  cases E <;> simp <;> omega
 ·have r:ssR ((9:Nat):Int)=⟨true,0,1,false,false⟩:=rfl
  have s1:shO ((9:Nat):Int)=true:=by decide
  have s2:shA ((9:Nat):Int)=1:=by decide
  have s3:shN ((9:Nat):Int)=true:=by decide
  have s4:shM ((9:Nat):Int)=false:=by decide
  have s5:shB ((9:Nat):Int)=false:=by decide
  have s6:shE ((9:Nat):Int)=false:=by decide
  rw [r,hdS,s1,s2,s3,s4,s5,s6,he0,num1]
  simp only [beq_dec,bne_dec]
  generalize idn sx=D
  generalize decide (sx=⟨#[]⟩)=E
  generalize rx.length=a
  generalize yx.length=b
  generalize ex.length=c
  rw [Bool.eq_iff_iff]
  cases D <;> simp <;> omega
 ·have r:ssR ((10:Nat):Int)=⟨false,32767,0,true,false⟩:=rfl
  have s1:shO ((10:Nat):Int)=true:=by decide
  have s2:shA ((10:Nat):Int)=0:=by decide
  have s3:shN ((10:Nat):Int)=false:=by decide
  have s4:shM ((10:Nat):Int)=true:=by decide
  have s5:shB ((10:Nat):Int)=true:=by decide
  have s6:shE ((10:Nat):Int)=false:=by decide
  rw [r,hdS,s1,s2,s3,s4,s5,s6,he0,num1]
  simp only [beq_dec,bne_dec]
  generalize idn sx=D
  generalize decide (sx=⟨#[]⟩)=E
  generalize rx.length=a
  generalize yx.length=b
  generalize ex.length=c
  rw [Bool.eq_iff_iff]
  cases E <;> simp <;> omega
 ·have r:ssR ((11:Nat):Int)=⟨false,32767,0,true,false⟩:=rfl
  have s1:shO ((11:Nat):Int)=true:=by decide
  have s2:shA ((11:Nat):Int)=0:=by decide
  have s3:shN ((11:Nat):Int)=false:=by decide
  have s4:shM ((11:Nat):Int)=true:=by decide
  have s5:shB ((11:Nat):Int)=true:=by decide
  have s6:shE ((11:Nat):Int)=false:=by decide
  rw [r,hdS,s1,s2,s3,s4,s5,s6,he0,num1]
  simp only [beq_dec,bne_dec]
  generalize idn sx=D
  generalize decide (sx=⟨#[]⟩)=E
  generalize rx.length=a
  generalize yx.length=b
  generalize ex.length=c
  rw [Bool.eq_iff_iff]
  cases E <;> simp <;> omega
 ·have r:ssR ((12:Nat):Int)=⟨false,0,0,false,false⟩:=rfl
  have s1:shO ((12:Nat):Int)=true:=by decide
  have s2:shA ((12:Nat):Int)=0:=by decide
  have s3:shN ((12:Nat):Int)=false:=by decide
  have s4:shM ((12:Nat):Int)=false:=by decide
  have s5:shB ((12:Nat):Int)=false:=by decide
  have s6:shE ((12:Nat):Int)=false:=by decide
  rw [r,hdS,s1,s2,s3,s4,s5,s6,he0,num1]
  simp only [beq_dec,bne_dec]
  generalize idn sx=D
  generalize decide (sx=⟨#[]⟩)=E
  generalize rx.length=a
  generalize yx.length=b
  generalize ex.length=c
  rw [Bool.eq_iff_iff]
  cases E <;> simp <;> omega
 ·have r:ssR ((13:Nat):Int)=⟨false,0,0,false,false⟩:=rfl
  have s1:shO ((13:Nat):Int)=true:=by decide
  have s2:shA ((13:Nat):Int)=0:=by decide
  have s3:shN ((13:Nat):Int)=false:=by decide
  have s4:shM ((13:Nat):Int)=false:=by decide
  have s5:shB ((13:Nat):Int)=false:=by decide
  have s6:shE ((13:Nat):Int)=false:=by decide
  rw [r,hdS,s1,s2,s3,s4,s5,s6,he0,num1]
  simp only [beq_dec,bne_dec]
  generalize idn sx=D
  generalize decide (sx=⟨#[]⟩)=E
  generalize rx.length=a
  generalize yx.length=b
  generalize ex.length=c
  rw [Bool.eq_iff_iff]
  cases E <;> simp <;> omega
end Go.Proofs.YtcknpcbkofgdoaaGreatDoor
