/-
  LAYER 16 (ast), THE PROGRAM: slices.EqualFunc.
  LAYER 16 (ast), THE PROGRAM: equalStmt.
  LAYER 16 (ast), THE PROGRAM: slices.Equal of strings.
  LAYER 16 (ast), THE PROGRAM: equalTask, Equal.
  CANONICAL TEXTS DETERMINE PROGRAMS (layer 16): two well-formed programs have the same text if and only if they are equal but for positions. Nothing of the program stands here.
-/
import Derived.Test.YtcknpcbkofgdoaaGreatDoorZdShort
import Derived.Test.YtcknpcbkofgdoaaGreatDoorZd05
import Derived.Test.YtcknpcbkofgdoaaGreatDoorZd00
import Derived.Deep.LoopGhost
import Derived.Deep.Cut
import Derived.Shelf.Abstract
import Derived.Test.YtcknpcbkofgdoaaGreatDoorZd06
import Derived.Test.YtcknpcbkofgdoaaGreatDoorZd01
import Derived.Test.YtcknpcbkofgdoaaGreatDoorZd03
namespace Go.Proofs.YtcknpcbkofgdoaaGreatDoor
open Go Go.RowKit Go.IntWalk
set_option linter.unusedSimpArgs false
set_option linter.unusedVariables false
set_option maxRecDepth 8000
set_option maxHeartbeats 8000000 in
theorem eqfG_any (g:FuncId) (cb:Array Value) (eg:∀args w,(callFunc g args).run Tryz.prog w=.ok (.enter g args) w) (l m:List Gl) (R:Gl→Gl→Bool) (A B2:Nat→Prop) (w:World) (p p2:Option Addr) (c c2:Nat) (hx:InN FlatAt 4 glc A w p l.length c l) (hy:InN FlatAt 4 glc B2 w p2 m.length c2 m)
 (hf:∀x ∈ l,∀y ∈ m,∀(W:World),Grew w W→Calls Tryz.prog g (#[.agg #[.string x.s,.int .i64 x.l,.int .i16 x.i,.int .i64 x.q],.agg #[.string y.s,.int .i64 y.l,.int .i16 y.i,.int .i64 y.q]]++cb) W fun e w'=>e=.returned (.bool (R x y))∧Grew W w') :
 Calls Tryz.prog 67 #[.slice p l.length c,.slice p2 m.length c2,.func (.func g) #[] cb] w fun e w'=>e=.returned (.bool (eqL R l m))∧Grew w w':=by
 have hcap:=And.intro (hx.cap (hangsF encGl)) (hy.cap (hangsF encGl))
 by_cases hlen:l.length=m.length
 ·have HX:=zh hx
  have HY:=zh hy
  have HF:=zh hf
  rw [eqL,decide_eq_true hlen,Bool.true_and]
  obtain ⟨b,hb⟩:∃b,all2 R l m=b:=⟨_,rfl⟩
  have HOK:=zh hb
  have HLE:=zh hlen
  have HFALSE:=zh (fun(j:Nat) (hj:j < l.length) (hj':j < m.length) (h:R l[j] m[j]=false)=>(show b=false from hb ▸ all2_no l m j hj hj' h))
  rw [hb]
  have hle2:(((l.length:Nat):Int) != ((m.length:Nat):Int))=false:=by rw [hlen];simp
  clear hx hy hf hb hlen
  go_enter Tryz.func67,Tryz.ntmps67
  go_wp2
  go_loopg [7,8,9,17] l.length (fun gg iv7 xv_ yv_ iv wr=>∃(j:Nat),iv=.int .i64 (j:Int)∧j≤l.length∧gg=l.length - j∧Hid (all2 R (l.take j) (m.take j)=true)∧Hid (Grew w wr))
  case atStart=>exact⟨0,rfl,Nat.zero_le _,rfl,zh rfl,zh (Grew.refl _)⟩
  case round =>
   obtain ⟨j,rfl,hj,rfl,HI,HG⟩:=hrel
   by_cases hlt:j < l.length
   ·have hlt2:j < m.length:=by rw [← HLE.out];exact hlt
    have HFJ:=zh (HFALSE.out j hlt hlt2)
    have HTL:Hid ((l.take j).length=(m.take j).length):=zh (by rw [List.length_take,List.length_take,HLE.out])
    obtain ⟨bz,oz,rfl,hcz⟩:=HX.out.getF j hlt
    have hmz:=List.getElem_mem hlt
    have htz:=List.take_succ_eq_append_getElem hlt
    have HLz:=zh (Nat.succ_le_of_lt hlt)
    generalize l[j]=xz at *
    obtain ⟨sz,lz,iz,qz⟩:=xz
    have HTz:=zh htz
    replace hcz:∀i_ u_,([.string sz,.int .i64 lz,.int .i16 iz,.int .i64 qz]:List Value)[i_]?=some u_→wr.cell? ⟨bz,oz+j * 4+i_,none⟩=some u_:=fun i_ u_ h_=>Atv.kept (hcz i_ u_ h_) HG.out
    have cz0:wr.cell? ⟨bz,oz+j * 4,none⟩=some (.string sz):=by simpa using hcz 0 _ rfl
    have cz1:wr.cell? ⟨bz,oz+j * 4+1,none⟩=some (.int .i64 lz):=hcz 1 _ rfl
    have cz2:wr.cell? ⟨bz,oz+j * 4+2,none⟩=some (.int .i16 iz):=hcz 2 _ rfl
    have cz3:wr.cell? ⟨bz,oz+j * 4+3,none⟩=some (.int .i64 qz):=hcz 3 _ rfl
    clear hcz htz
    obtain ⟨bu,ou,rfl,hcu⟩:=HY.out.getF j hlt2
    have hmu:=List.getElem_mem hlt2
    have htu:=List.take_succ_eq_append_getElem hlt2
    have HLu:=zh (Nat.succ_le_of_lt hlt2)
    generalize m[j]=xu at *
    obtain ⟨su,lu,iu,qu⟩:=xu
    have HTu:=zh htu
    replace hcu:∀i_ u_,([.string su,.int .i64 lu,.int .i16 iu,.int .i64 qu]:List Value)[i_]?=some u_→wr.cell? ⟨bu,ou+j * 4+i_,none⟩=some u_:=fun i_ u_ h_=>Atv.kept (hcu i_ u_ h_) HG.out
    have cu0:wr.cell? ⟨bu,ou+j * 4,none⟩=some (.string su):=by simpa using hcu 0 _ rfl
    have cu1:wr.cell? ⟨bu,ou+j * 4+1,none⟩=some (.int .i64 lu):=hcu 1 _ rfl
    have cu2:wr.cell? ⟨bu,ou+j * 4+2,none⟩=some (.int .i16 iu):=hcu 2 _ rfl
    have cu3:wr.cell? ⟨bu,ou+j * 4+3,none⟩=some (.int .i64 qu):=hcu 3 _ rfl
    clear hcu htu
    have hblu:bu < wr.heap.size:=World.block_lt_of_cell? _ _ cu0
    obtain ⟨d,hd⟩:∃d,R ⟨sz,lz,iz,qz⟩ ⟨su,lu,iu,qu⟩=d:=⟨_,rfl⟩
    have HD:=zh hd
    have HC:=zh (fun W (hW:Grew w W)=>(show Calls Tryz.prog g (#[.agg #[.string sz,.int .i64 lz,.int .i16 iz,.int .i64 qz],.agg #[.string su,.int .i64 lu,.int .i16 iu,.int .i64 qu]]++cb) W fun e w'=>e=.returned (.bool d)∧Grew W w' from hd ▸ HF.out ⟨sz,lz,iz,qz⟩ hmz ⟨su,lu,iu,qu⟩ hmu _ hW))
    have HNO:=zh (fun(h:d=false)=>HFJ.out (hd.trans h))
    have hltu:(j:Int) < (m.length:Int):=by omega
    clear hmz hmu hd HF HFALSE HFJ
    cases d with
    | false =>
      have HN2:Hid (b=false):=zh (HNO.out rfl)
      clear HNO
      go_wp2_with (go_at_fn g;refine(HC.out _ ((HG.out.alloc _).alloc _)).mono ?_;rintro e w1 ⟨rfl,g1⟩;have HG1:=zh (((HG.out.alloc _).alloc _).trans g1);clear g1)
      go_ret
      exact⟨ret_bool HN2.out.symm,HG1.out⟩
    | true =>
      go_wp2_with (go_at_fn g;refine(HC.out _ ((HG.out.alloc _).alloc _)).mono ?_;rintro e w1 ⟨rfl,g1⟩;have HG1:=zh (((HG.out.alloc _).alloc _).trans g1);clear g1)
      go_roundg (l.length - (j+1))
      case measure=>have:=HLz.out;omega
      case rel=>exact⟨j+1,by go_num,HLz.out,rfl,zh (by rw [HTz.out,HTu.out,all2_snoc _ _ _ _ HTL.out,HI.out,Bool.true_and];exact HD.out),HG1⟩
   ·obtain rfl:j=l.length:=by omega
    rw [List.take_length,HLE.out,List.take_length] at HI
    go_wp2
    go_ret
    exact⟨ret_bool (HI.out.symm.trans HOK.out),HG.out⟩
 ·have he:eqL R l m=false:=by rw [eqL,decide_eq_false hlen,Bool.false_and]
  rw [he]
  have hle2:(((l.length:Nat):Int) != ((m.length:Nat):Int))=true:=by rw [bne_iff_ne];omega
  clear he hx hy hf hlen
  go_enter Tryz.func67,Tryz.ntmps67
  go_wp2
  go_ret
  exact⟨rfl,Grew.refl _⟩
set_option maxHeartbeats 8000000 in
theorem eqfH_any (g:FuncId) (cb:Array Value) (eg:∀args w,(callFunc g args).run Tryz.prog w=.ok (.enter g args) w) (l m:List Cn) (R:Cn→Cn→Bool) (A B2:Nat→Prop) (w:World) (p p2:Option Addr) (c c2:Nat) (hx:InN FlatAt 3 chc A w p l.length c l) (hy:InN FlatAt 3 chc B2 w p2 m.length c2 m)
 (hf:∀x ∈ l,∀y ∈ m,∀(W:World),Grew w W→Calls Tryz.prog g (#[.agg #[.string x.s,.int .i64 x.v,.int .i64 x.q],.agg #[.string y.s,.int .i64 y.v,.int .i64 y.q]]++cb) W fun e w'=>e=.returned (.bool (R x y))∧Grew W w') :
 Calls Tryz.prog 70 #[.slice p l.length c,.slice p2 m.length c2,.func (.func g) #[] cb] w fun e w'=>e=.returned (.bool (eqL R l m))∧Grew w w':=by
 have hcap:=And.intro (hx.cap (hangsF encCh)) (hy.cap (hangsF encCh))
 by_cases hlen:l.length=m.length
 ·have HX:=zh hx
  have HY:=zh hy
  have HF:=zh hf
  rw [eqL,decide_eq_true hlen,Bool.true_and]
  obtain ⟨b,hb⟩:∃b,all2 R l m=b:=⟨_,rfl⟩
  have HOK:=zh hb
  have HLE:=zh hlen
  have HFALSE:=zh (fun(j:Nat) (hj:j < l.length) (hj':j < m.length) (h:R l[j] m[j]=false)=>(show b=false from hb ▸ all2_no l m j hj hj' h))
  rw [hb]
  have hle2:(((l.length:Nat):Int) != ((m.length:Nat):Int))=false:=by rw [hlen];simp
  clear hx hy hf hb hlen
  go_enter Tryz.func70,Tryz.ntmps70
  go_wp2
  go_loopg [7,8,9,17] l.length (fun gg iv7 xv_ yv_ iv wr=>∃(j:Nat),iv=.int .i64 (j:Int)∧j≤l.length∧gg=l.length - j∧Hid (all2 R (l.take j) (m.take j)=true)∧Hid (Grew w wr))
  case atStart=>exact⟨0,rfl,Nat.zero_le _,rfl,zh rfl,zh (Grew.refl _)⟩
  case round =>
   obtain ⟨j,rfl,hj,rfl,HI,HG⟩:=hrel
   by_cases hlt:j < l.length
   ·have hlt2:j < m.length:=by rw [← HLE.out];exact hlt
    have HFJ:=zh (HFALSE.out j hlt hlt2)
    have HTL:Hid ((l.take j).length=(m.take j).length):=zh (by rw [List.length_take,List.length_take,HLE.out])
    obtain ⟨bz,oz,rfl,hcz⟩:=HX.out.getF j hlt
    have hmz:=List.getElem_mem hlt
    have htz:=List.take_succ_eq_append_getElem hlt
    have HLz:=zh (Nat.succ_le_of_lt hlt)
    generalize l[j]=xz at *
    obtain ⟨sz,vz,qz⟩:=xz
    have HTz:=zh htz
    replace hcz:∀i_ u_,([.string sz,.int .i64 vz,.int .i64 qz]:List Value)[i_]?=some u_→wr.cell? ⟨bz,oz+j * 3+i_,none⟩=some u_:=fun i_ u_ h_=>Atv.kept (hcz i_ u_ h_) HG.out
    have cz0:wr.cell? ⟨bz,oz+j * 3,none⟩=some (.string sz):=by simpa using hcz 0 _ rfl
    have cz1:wr.cell? ⟨bz,oz+j * 3+1,none⟩=some (.int .i64 vz):=hcz 1 _ rfl
    have cz2:wr.cell? ⟨bz,oz+j * 3+2,none⟩=some (.int .i64 qz):=hcz 2 _ rfl
    clear hcz htz
    obtain ⟨bu,ou,rfl,hcu⟩:=HY.out.getF j hlt2
    have hmu:=List.getElem_mem hlt2
    have htu:=List.take_succ_eq_append_getElem hlt2
    have HLu:=zh (Nat.succ_le_of_lt hlt2)
    generalize m[j]=xu at *
    obtain ⟨su,vu,qu⟩:=xu
    have HTu:=zh htu
    replace hcu:∀i_ u_,([.string su,.int .i64 vu,.int .i64 qu]:List Value)[i_]?=some u_→wr.cell? ⟨bu,ou+j * 3+i_,none⟩=some u_:=fun i_ u_ h_=>Atv.kept (hcu i_ u_ h_) HG.out
    have cu0:wr.cell? ⟨bu,ou+j * 3,none⟩=some (.string su):=by simpa using hcu 0 _ rfl
    have cu1:wr.cell? ⟨bu,ou+j * 3+1,none⟩=some (.int .i64 vu):=hcu 1 _ rfl
    have cu2:wr.cell? ⟨bu,ou+j * 3+2,none⟩=some (.int .i64 qu):=hcu 2 _ rfl
    clear hcu htu
    have hblu:bu < wr.heap.size:=World.block_lt_of_cell? _ _ cu0
    obtain ⟨d,hd⟩:∃d,R ⟨sz,vz,qz⟩ ⟨su,vu,qu⟩=d:=⟨_,rfl⟩
    have HD:=zh hd
    have HC:=zh (fun W (hW:Grew w W)=>(show Calls Tryz.prog g (#[.agg #[.string sz,.int .i64 vz,.int .i64 qz],.agg #[.string su,.int .i64 vu,.int .i64 qu]]++cb) W fun e w'=>e=.returned (.bool d)∧Grew W w' from hd ▸ HF.out ⟨sz,vz,qz⟩ hmz ⟨su,vu,qu⟩ hmu _ hW))
    have HNO:=zh (fun(h:d=false)=>HFJ.out (hd.trans h))
    have hltu:(j:Int) < (m.length:Int):=by omega
    clear hmz hmu hd HF HFALSE HFJ
    cases d with
    | false =>
      have HN2:Hid (b=false):=zh (HNO.out rfl)
      clear HNO
      go_wp2_with (go_at_fn g;refine(HC.out _ ((HG.out.alloc _).alloc _)).mono ?_;rintro e w1 ⟨rfl,g1⟩;have HG1:=zh (((HG.out.alloc _).alloc _).trans g1);clear g1)
      go_ret
      exact⟨ret_bool HN2.out.symm,HG1.out⟩
    | true =>
      go_wp2_with (go_at_fn g;refine(HC.out _ ((HG.out.alloc _).alloc _)).mono ?_;rintro e w1 ⟨rfl,g1⟩;have HG1:=zh (((HG.out.alloc _).alloc _).trans g1);clear g1)
      go_roundg (l.length - (j+1))
      case measure=>have:=HLz.out;omega
      case rel=>exact⟨j+1,by go_num,HLz.out,rfl,zh (by rw [HTz.out,HTu.out,all2_snoc _ _ _ _ HTL.out,HI.out,Bool.true_and];exact HD.out),HG1⟩
   ·obtain rfl:j=l.length:=by omega
    rw [List.take_length,HLE.out,List.take_length] at HI
    go_wp2
    go_ret
    exact⟨ret_bool (HI.out.symm.trans HOK.out),HG.out⟩
 ·have he:eqL R l m=false:=by rw [eqL,decide_eq_false hlen,Bool.false_and]
  rw [he]
  have hle2:(((l.length:Nat):Int) != ((m.length:Nat):Int))=true:=by rw [bne_iff_ne];omega
  clear he hx hy hf hlen
  go_enter Tryz.func70,Tryz.ntmps70
  go_wp2
  go_ret
  exact⟨rfl,Grew.refl _⟩
theorem eqS_eq2 (ka:Int) (sa:ByteArray) (na:Int) (ra:List Xp) (ya ea:List Sm) (qa kb:Int) (sb:ByteArray) (nb:Int) (rb:List Xp) (yb eb:List Sm) (qb:Int):(((((((ka)==(kb))&&(decide ((sa)=(sb))))&&((na)==(nb)))&&(eqL eqX ra rb))&&(eqL eqS ya yb))&&(eqL eqS ea eb))=eqS ⟨ka,sa,na,ra,ya,ea,qa⟩ ⟨kb,sb,nb,rb,yb,eb,qb⟩:=by
 rw [eqS_eq,eqHS,eqSs_eqL,eqSs_eqL,eqXs_all2,show eqL eqX ra rb=(decide (ra.length=rb.length)&&all2 eqX ra rb) from rfl]
 simp only [beq_dec,bne_dec]
 have hl:decide ((ra.length:Int)=(rb.length:Int))=decide (ra.length=rb.length):=by rw [decide_eq_decide];omega
 rw [hl]
 cases decide (ka=kb) <;> cases decide (sa=sb) <;> cases decide (na=nb) <;> cases decide (ra.length=rb.length) <;> cases all2 eqX ra rb <;> cases eqL eqS ya yb <;> cases eqL eqS ea eb <;> rfl
set_option maxHeartbeats 8000000 in
theorem eqSP_any:∀(x y:Sm) (A B:Nat→Prop) (w:World) (pa:Option Addr) (ca:Nat) (pb:Option Addr) (cb:Nat) (pe:Option Addr) (ce:Nat) (pa':Option Addr) (ca':Nat) (pb':Option Addr) (cb':Nat) (pe':Option Addr) (ce':Nat),XL A w pa ca x.ar→SL A w pb cb x.b→SL A w pe ce x.e→XL B w pa' ca' y.ar→SL B w pb' cb' y.b→SL B w pe' ce' y.e →
 Calls Tryz.prog 118 #[sv x.k x.s x.n pa x.ar.length ca pb x.b.length cb pe x.e.length ce x.q,sv y.k y.s y.n pa' y.ar.length ca' pb' y.b.length cb' pe' y.e.length ce' y.q] w fun e w'=>e=.returned (.bool (eqS x y))∧Grew w w':=by
 intro x
 induction x using Sm.ind with
 | h ka sa na ra ya ea qa ihb ihe =>
 intro y A B w pAa cAa pBa cBa pEa cEa pAb cAb pBb cBb pEb cEb hx hy he hx' hy' he'
 obtain ⟨kb,sb,nb,rb,yb,eb,qb⟩:=y
 replace hx:XL A w pAa cAa ra:=hx
 replace hy:SL A w pBa cBa ya:=hy
 replace he:SL A w pEa cEa ea:=he
 replace hx':XL B w pAb cAb rb:=hx'
 replace hy':SL B w pBb cBb yb:=hy'
 replace he':SL B w pEb cEb eb:=he'
 show Calls Tryz.prog 118 #[sv ka sa na pAa ra.length cAa pBa ya.length cBa pEa ea.length cEa qa,sv kb sb nb pAb rb.length cAb pBb yb.length cBb pEb eb.length cEb qb] w fun e w'=>e=.returned (.bool (eqS ⟨ka,sa,na,ra,ya,ea,qa⟩ ⟨kb,sb,nb,rb,yb,eb,qb⟩))∧Grew w w'
 have hcap:=And.intro (And.intro hx.cap.1 (And.intro hy.cap.1 he.cap.1)) (And.intro hx'.cap.1 (And.intro hy'.cap.1 he'.cap.1))
 have hmax:=And.intro (And.intro hx.cap.2.1 (And.intro hy.cap.2.1 he.cap.2.1)) (And.intro hx'.cap.2.1 (And.intro hy'.cap.2.1 he'.cap.2.1))
 have HEQ:=zh (eqS_eq2 ka sa na ra ya ea qa kb sb nb rb yb eb qb)
 have HEX:Hid (∀W,Grew w W→Calls Tryz.prog 75 #[.slice pAa ra.length cAa,.slice pAb rb.length cAb,.func (.func 23) #[] #[]] W fun e w'=>e=.returned (.bool (eqL eqX ra rb))∧Grew W w') :=
  zh (fun W hW=>eqfX_any 23 #[] en_eX ra rb eqX A B W pAa pAb cAa cAb (hx.kept hW) (hx'.kept hW) (fun x _ y _ a1 a2 b1 b2 W2 h1 _ h2 _ hW2=>eqXP_any x y A B W2 a1 b1 a2 b2 h1 h2))
 have HEY:Hid (∀W,Grew w W→Calls Tryz.prog 117 #[.slice pBa ya.length cBa,.slice pBb yb.length cBb,.func (.func 118) #[] #[]] W fun e w'=>e=.returned (.bool (eqL eqS ya yb))∧Grew W w') :=
  zh (fun W hW=>eqfS_any 118 #[] en_eS ya yb eqS A B W pBa pBb cBa cBb (hy.kept hW) (hy'.kept hW) (fun x hm y _ a1 a2 a3 a4 a5 a6 b1 b2 b3 b4 b5 b6 W2 h1 h2 h3 _ g1 g2 g3 _ hW2=>ihb x hm y A B W2 a1 a2 a3 a4 a5 a6 b1 b2 b3 b4 b5 b6 h1 h2 h3 g1 g2 g3))
 have HEE:Hid (∀W,Grew w W→Calls Tryz.prog 117 #[.slice pEa ea.length cEa,.slice pEb eb.length cEb,.func (.func 118) #[] #[]] W fun e w'=>e=.returned (.bool (eqL eqS ea eb))∧Grew W w') :=
  zh (fun W hW=>eqfS_any 118 #[] en_eS ea eb eqS A B W pEa pEb cEa cEb (he.kept hW) (he'.kept hW) (fun x hm y _ a1 a2 a3 a4 a5 a6 b1 b2 b3 b4 b5 b6 W2 h1 h2 h3 _ g1 g2 g3 _ hW2=>ihe x hm y A B W2 a1 a2 a3 a4 a5 a6 b1 b2 b3 b4 b5 b6 h1 h2 h3 g1 g2 g3))
 clear ihb ihe hx hy he hx' hy' he'
 go_enter Tryz.func118,Tryz.ntmps118
 go_upto_region 1 with fail
 have hb1:Blk w.heap.size [.int .i64 ka,.string sa,.int .i64 na,.slice pAa ra.length cAa,.slice pBa ya.length cBa,.slice pEa ea.length cEa,.int .i64 qa] 49 (w.alloc (Obj.cells #[.int .i64 ka,.string sa,.int .i64 na,.slice pAa ra.length cAa,.slice pBa ya.length cBa,.slice pEa ea.length cEa,.int .i64 qa] 49)):=Blk.new w _ _
 have hb2:Blk (w.alloc (Obj.cells #[.int .i64 ka,.string sa,.int .i64 na,.slice pAa ra.length cAa,.slice pBa ya.length cBa,.slice pEa ea.length cEa,.int .i64 qa] 49)).heap.size [.int .i64 kb,.string sb,.int .i64 nb,.slice pAb rb.length cAb,.slice pBb yb.length cBb,.slice pEb eb.length cEb,.int .i64 qb] 49 ((w.alloc (Obj.cells #[.int .i64 ka,.string sa,.int .i64 na,.slice pAa ra.length cAa,.slice pBa ya.length cBa,.slice pEa ea.length cEa,.int .i64 qa] 49)).alloc (Obj.cells #[.int .i64 kb,.string sb,.int .i64 nb,.slice pAb rb.length cAb,.slice pBb yb.length cBb,.slice pEb eb.length cEb,.int .i64 qb] 49)):=Blk.new _ _ _
 have hb3:=hb1.grew ((Grew.refl _).alloc (Obj.cells #[.int .i64 kb,.string sb,.int .i64 nb,.slice pAb rb.length cAb,.slice pBb yb.length cBb,.slice pEb eb.length cEb,.int .i64 qb] 49))
 have hgV:Grew w ((w.alloc (Obj.cells #[.int .i64 ka,.string sa,.int .i64 na,.slice pAa ra.length cAa,.slice pBa ya.length cBa,.slice pEa ea.length cEa,.int .i64 qa] 49)).alloc (Obj.cells #[.int .i64 kb,.string sb,.int .i64 nb,.slice pAb rb.length cAb,.slice pBb yb.length cBb,.slice pEb eb.length cEb,.int .i64 qb] 49)):=((Grew.refl w).alloc _).alloc _
 rw [alloc_sz] at hb2
 try rw [alloc_sz]
 generalize ((w.alloc (Obj.cells #[.int .i64 ka,.string sa,.int .i64 na,.slice pAa ra.length cAa,.slice pBa ya.length cBa,.slice pEa ea.length cEa,.int .i64 qa] 49)).alloc (Obj.cells #[.int .i64 kb,.string sb,.int .i64 nb,.slice pAb rb.length cAb,.slice pBb yb.length cBb,.slice pEb eb.length cEb,.int .i64 qb] 49))=V at hb2 hb3 hgV ⊢
 generalize w.heap.size+1=U at hb2 ⊢
 generalize w.heap.size=T at hb3 ⊢
 have HGV:=zh hgV
 have d0:Atv ⟨T,0,none⟩ (.int .i64 ka) V:=hb3.atv 0 rfl
 have d1:Atv ⟨T,1,none⟩ (.string sa) V:=hb3.atv 1 rfl
 have d2:Atv ⟨T,2,none⟩ (.int .i64 na) V:=hb3.atv 2 rfl
 have d3:Atv ⟨T,3,none⟩ (.slice pAa ra.length cAa) V:=hb3.atv 3 rfl
 have d4:Atv ⟨T,4,none⟩ (.slice pBa ya.length cBa) V:=hb3.atv 4 rfl
 have d5:Atv ⟨T,5,none⟩ (.slice pEa ea.length cEa) V:=hb3.atv 5 rfl
 have d6:Atv ⟨T,6,none⟩ (.int .i64 qa) V:=hb3.atv 6 rfl
 have e0:Atv ⟨U,0,none⟩ (.int .i64 kb) V:=hb2.atv 0 rfl
 have e1:Atv ⟨U,1,none⟩ (.string sb) V:=hb2.atv 1 rfl
 have e2:Atv ⟨U,2,none⟩ (.int .i64 nb) V:=hb2.atv 2 rfl
 have e3:Atv ⟨U,3,none⟩ (.slice pAb rb.length cAb) V:=hb2.atv 3 rfl
 have e4:Atv ⟨U,4,none⟩ (.slice pBb yb.length cBb) V:=hb2.atv 4 rfl
 have e5:Atv ⟨U,5,none⟩ (.slice pEb eb.length cEb) V:=hb2.atv 5 rfl
 have e6:Atv ⟨U,6,none⟩ (.int .i64 qb) V:=hb2.atv 6 rfl
 clear hb1 hb2 hb3 hgV
 refine wp_postsL [some 5,some 6,some 7,some 8,some 9,some 10,some 11,some 12,some 13,some 14,some 15,some 16,some 17,some 18,some 19,some 20,some 21,some 22,some 23,some 24,some 25,some 26,some 27,some 28,some 29,some 30,some 31,some 32,some 33,some 34,some 35,some 36,some 37,some 38,some 39,some 40,some 41,some 42,some 43,some 44,some 4] zD1 [fun v _=>v=.pointer (some ⟨T,0,none⟩),fun v _=>v=.int .i64 (ka),fun v _=>v=.pointer (some ⟨U,0,none⟩),fun v _=>v=.int .i64 (kb),fun v _=>v=.bool ((ka)==(kb)),fun v _=>v=.bool ((ka)==(kb)),fun v _=>Zg (((ka)==(kb))=true) (.pointer (some ⟨T,1,none⟩)) v,fun v _=>Zg (((ka)==(kb))=true) (.string sa) v,fun v _=>Zg (((ka)==(kb))=true) (.pointer (some ⟨U,1,none⟩)) v,fun v _=>Zg (((ka)==(kb))=true) (.string sb) v,fun v _=>Zg (((ka)==(kb))=true) (.bool (decide ((sa)=(sb)))) v,fun v _=>v=.bool (((ka)==(kb))&&(decide ((sa)=(sb)))),fun v _=>v=.bool (((ka)==(kb))&&(decide ((sa)=(sb)))),fun v _=>Zg ((((ka)==(kb))&&(decide ((sa)=(sb))))=true) (.pointer (some ⟨T,2,none⟩)) v,fun v _=>Zg ((((ka)==(kb))&&(decide ((sa)=(sb))))=true) (.int .i64 (na)) v,fun v _=>Zg ((((ka)==(kb))&&(decide ((sa)=(sb))))=true) (.pointer (some ⟨U,2,none⟩)) v,fun v _=>Zg ((((ka)==(kb))&&(decide ((sa)=(sb))))=true) (.int .i64 (nb)) v,fun v _=>Zg ((((ka)==(kb))&&(decide ((sa)=(sb))))=true) (.bool ((na)==(nb))) v,fun v _=>v=.bool ((((ka)==(kb))&&(decide ((sa)=(sb))))&&((na)==(nb))),fun v _=>v=.bool ((((ka)==(kb))&&(decide ((sa)=(sb))))&&((na)==(nb))),fun v _=>Zg (((((ka)==(kb))&&(decide ((sa)=(sb))))&&((na)==(nb)))=true) (.pointer (some ⟨T,3,none⟩)) v,fun v _=>Zg (((((ka)==(kb))&&(decide ((sa)=(sb))))&&((na)==(nb)))=true) (.slice pAa (ra.length) (cAa)) v,fun v _=>Zg (((((ka)==(kb))&&(decide ((sa)=(sb))))&&((na)==(nb)))=true) (.pointer (some ⟨U,3,none⟩)) v,fun v _=>Zg (((((ka)==(kb))&&(decide ((sa)=(sb))))&&((na)==(nb)))=true) (.slice pAb (rb.length) (cAb)) v,fun v _=>Zg (((((ka)==(kb))&&(decide ((sa)=(sb))))&&((na)==(nb)))=true) (.bool (eqL eqX ra rb)) v,fun v _=>v=.bool (((((ka)==(kb))&&(decide ((sa)=(sb))))&&((na)==(nb)))&&(eqL eqX ra rb)),fun v _=>v=.bool (((((ka)==(kb))&&(decide ((sa)=(sb))))&&((na)==(nb)))&&(eqL eqX ra rb)),fun v _=>Zg ((((((ka)==(kb))&&(decide ((sa)=(sb))))&&((na)==(nb)))&&(eqL eqX ra rb))=true) (.pointer (some ⟨T,4,none⟩)) v,fun v _=>Zg ((((((ka)==(kb))&&(decide ((sa)=(sb))))&&((na)==(nb)))&&(eqL eqX ra rb))=true) (.slice pBa (ya.length) (cBa)) v,fun v _=>Zg ((((((ka)==(kb))&&(decide ((sa)=(sb))))&&((na)==(nb)))&&(eqL eqX ra rb))=true) (.pointer (some ⟨U,4,none⟩)) v,fun v _=>Zg ((((((ka)==(kb))&&(decide ((sa)=(sb))))&&((na)==(nb)))&&(eqL eqX ra rb))=true) (.slice pBb (yb.length) (cBb)) v,fun v _=>Zg ((((((ka)==(kb))&&(decide ((sa)=(sb))))&&((na)==(nb)))&&(eqL eqX ra rb))=true) (.bool (eqL eqS ya yb)) v,fun v _=>v=.bool ((((((ka)==(kb))&&(decide ((sa)=(sb))))&&((na)==(nb)))&&(eqL eqX ra rb))&&(eqL eqS ya yb)),fun v _=>v=.bool ((((((ka)==(kb))&&(decide ((sa)=(sb))))&&((na)==(nb)))&&(eqL eqX ra rb))&&(eqL eqS ya yb)),fun v _=>Zg (((((((ka)==(kb))&&(decide ((sa)=(sb))))&&((na)==(nb)))&&(eqL eqX ra rb))&&(eqL eqS ya yb))=true) (.pointer (some ⟨T,5,none⟩)) v,fun v _=>Zg (((((((ka)==(kb))&&(decide ((sa)=(sb))))&&((na)==(nb)))&&(eqL eqX ra rb))&&(eqL eqS ya yb))=true) (.slice pEa (ea.length) (cEa)) v,fun v _=>Zg (((((((ka)==(kb))&&(decide ((sa)=(sb))))&&((na)==(nb)))&&(eqL eqX ra rb))&&(eqL eqS ya yb))=true) (.pointer (some ⟨U,5,none⟩)) v,fun v _=>Zg (((((((ka)==(kb))&&(decide ((sa)=(sb))))&&((na)==(nb)))&&(eqL eqX ra rb))&&(eqL eqS ya yb))=true) (.slice pEb (eb.length) (cEb)) v,fun v _=>Zg (((((((ka)==(kb))&&(decide ((sa)=(sb))))&&((na)==(nb)))&&(eqL eqX ra rb))&&(eqL eqS ya yb))=true) (.bool (eqL eqS ea eb)) v,fun v _=>v=.bool (((((((ka)==(kb))&&(decide ((sa)=(sb))))&&((na)==(nb)))&&(eqL eqX ra rb))&&(eqL eqS ya yb))&&(eqL eqS ea eb)),fun v _=>v=.bool (((((((ka)==(kb))&&(decide ((sa)=(sb))))&&((na)==(nb)))&&(eqL eqX ra rb))&&(eqL eqS ya yb))&&(eqL eqS ea eb))] (by kernel_rfl) rfl ?_ ⟨?_,?_,?_,?_,?_,?_,?_,?_,?_,?_,?_,?_,?_,?_,?_,?_,?_,?_,?_,?_,?_,?_,?_,?_,?_,?_,?_,?_,?_,?_,?_,?_,?_,?_,?_,?_,?_,?_,?_,?_,?_,trivial⟩ ?_
 ·exact⟨Zi,Zi,Zi,Zi,Zi,Zi,Zi,Zi,Zi,Zi,Zi,Zi,Zi,Zi,Zi,Zi,Zi,Zi,Zi,Zi,Zi,Zi,Zi,Zi,Zi,Zi,Zi,Zi,Zi,Zi,Zi,Zi,Zi,Zi,Zi,Zi,Zi,Zi,Zi,Zi,Zi,trivial⟩
 ·intro u w hR hd;exact rn_fld_49_0 (ev rfl) Zr
 ·intro u w hR hd;exact rn_ld_3 (ev (hd.1 rfl)) (d0.kept hR) Zr
 ·intro u w hR hd;exact rn_fld_49_0 (ev rfl) Zr
 ·intro u w hR hd;exact rn_ld_3 (ev (hd.1 rfl)) (e0.kept hR) Zr
 ·intro u w hR hd;exact rn_eql_3 (ev (hd.1 rfl)) (ev (hd.2.1 rfl)) Zr
 ·intro u w hR hd;exact runs_mv (ev (hd.1 rfl)) Zr
 ·intro u w hR hd;exact⟨fun hg=>have hG:=Zh (hd.1 rfl) hg;rn_fld_49_1 (ev rfl) (Zs hG),Zn (hd.1 rfl)⟩
 ·intro u w hR hd;exact⟨fun hg=>have hG:=Zh (hd.2.1 rfl) hg;rn_ld_9 (ev ((hd.1 rfl).1 hG)) (d1.kept hR) (Zs hG),Zn (hd.2.1 rfl)⟩
 ·intro u w hR hd;exact⟨fun hg=>have hG:=Zh (hd.1 rfl) hg;rn_fld_49_1 (ev rfl) (Zs hG),Zn (hd.1 rfl)⟩
 ·intro u w hR hd;exact⟨fun hg=>have hG:=Zh (hd.2.1 rfl) hg;rn_ld_9 (ev ((hd.1 rfl).1 hG)) (e1.kept hR) (Zs hG),Zn (hd.2.1 rfl)⟩
 ·intro u w hR hd;exact⟨fun hg=>have hG:=Zh (hd.2.2.1 rfl) hg;rn_eqs_9 (ev ((hd.1 rfl).1 hG)) (ev ((hd.2.1 rfl).1 hG)) (Zs hG),Zn (hd.2.2.1 rfl)⟩
 ·intro u w hR hd;exact runs_an (ev (hd.1 rfl)) (fun hb=>ev ((hd.2.1 rfl).1 hb)) Zr
 ·intro u w hR hd;exact runs_mv (ev (hd.1 rfl)) Zr
 ·intro u w hR hd;exact⟨fun hg=>have hG:=Zh (hd.1 rfl) hg;rn_fld_49_2 (ev rfl) (Zs hG),Zn (hd.1 rfl)⟩
 ·intro u w hR hd;exact⟨fun hg=>have hG:=Zh (hd.2.1 rfl) hg;rn_ld_3 (ev ((hd.1 rfl).1 hG)) (d2.kept hR) (Zs hG),Zn (hd.2.1 rfl)⟩
 ·intro u w hR hd;exact⟨fun hg=>have hG:=Zh (hd.1 rfl) hg;rn_fld_49_2 (ev rfl) (Zs hG),Zn (hd.1 rfl)⟩
 ·intro u w hR hd;exact⟨fun hg=>have hG:=Zh (hd.2.1 rfl) hg;rn_ld_3 (ev ((hd.1 rfl).1 hG)) (e2.kept hR) (Zs hG),Zn (hd.2.1 rfl)⟩
 ·intro u w hR hd;exact⟨fun hg=>have hG:=Zh (hd.2.2.1 rfl) hg;rn_eql_3 (ev ((hd.1 rfl).1 hG)) (ev ((hd.2.1 rfl).1 hG)) (Zs hG),Zn (hd.2.2.1 rfl)⟩
 ·intro u w hR hd;exact runs_an (ev (hd.1 rfl)) (fun hb=>ev ((hd.2.1 rfl).1 hb)) Zr
 ·intro u w hR hd;exact runs_mv (ev (hd.1 rfl)) Zr
 ·intro u w hR hd;exact⟨fun hg=>have hG:=Zh (hd.1 rfl) hg;rn_fld_49_3 (ev rfl) (Zs hG),Zn (hd.1 rfl)⟩
 ·intro u w hR hd;exact⟨fun hg=>have hG:=Zh (hd.2.1 rfl) hg;rn_ld_33 (ev ((hd.1 rfl).1 hG)) (d3.kept hR) (Zs hG),Zn (hd.2.1 rfl)⟩
 ·intro u w hR hd;exact⟨fun hg=>have hG:=Zh (hd.1 rfl) hg;rn_fld_49_3 (ev rfl) (Zs hG),Zn (hd.1 rfl)⟩
 ·intro u w hR hd;exact⟨fun hg=>have hG:=Zh (hd.2.1 rfl) hg;rn_ld_33 (ev ((hd.1 rfl).1 hG)) (e3.kept hR) (Zs hG),Zn (hd.2.1 rfl)⟩
 ·intro u w hR hd;exact⟨fun hg=>have hG:=Zh (hd.2.2.1 rfl) hg;runs_c3 en_efX (ev ((hd.1 rfl).1 hG)) (ev ((hd.2.1 rfl).1 hG)) rfl (callp (fun _ e=>⟨fun _=>e,fun hn=>absurd hG hn⟩) (HEX.out _ (HGV.out.trans hR))),Zn (hd.2.2.1 rfl)⟩
 ·intro u w hR hd;exact runs_an (ev (hd.1 rfl)) (fun hb=>ev ((hd.2.1 rfl).1 hb)) Zr
 ·intro u w hR hd;exact runs_mv (ev (hd.1 rfl)) Zr
 ·intro u w hR hd;exact⟨fun hg=>have hG:=Zh (hd.1 rfl) hg;rn_fld_49_4 (ev rfl) (Zs hG),Zn (hd.1 rfl)⟩
 ·intro u w hR hd;exact⟨fun hg=>have hG:=Zh (hd.2.1 rfl) hg;rn_ld_40 (ev ((hd.1 rfl).1 hG)) (d4.kept hR) (Zs hG),Zn (hd.2.1 rfl)⟩
 ·intro u w hR hd;exact⟨fun hg=>have hG:=Zh (hd.1 rfl) hg;rn_fld_49_4 (ev rfl) (Zs hG),Zn (hd.1 rfl)⟩
 ·intro u w hR hd;exact⟨fun hg=>have hG:=Zh (hd.2.1 rfl) hg;rn_ld_40 (ev ((hd.1 rfl).1 hG)) (e4.kept hR) (Zs hG),Zn (hd.2.1 rfl)⟩
 ·intro u w hR hd;exact⟨fun hg=>have hG:=Zh (hd.2.2.1 rfl) hg;runs_c3 en_efS (ev ((hd.1 rfl).1 hG)) (ev ((hd.2.1 rfl).1 hG)) rfl (callp (fun _ e=>⟨fun _=>e,fun hn=>absurd hG hn⟩) (HEY.out _ (HGV.out.trans hR))),Zn (hd.2.2.1 rfl)⟩
 ·intro u w hR hd;exact runs_an (ev (hd.1 rfl)) (fun hb=>ev ((hd.2.1 rfl).1 hb)) Zr
 ·intro u w hR hd;exact runs_mv (ev (hd.1 rfl)) Zr
 ·intro u w hR hd;exact⟨fun hg=>have hG:=Zh (hd.1 rfl) hg;rn_fld_49_5 (ev rfl) (Zs hG),Zn (hd.1 rfl)⟩
 ·intro u w hR hd;exact⟨fun hg=>have hG:=Zh (hd.2.1 rfl) hg;rn_ld_40 (ev ((hd.1 rfl).1 hG)) (d5.kept hR) (Zs hG),Zn (hd.2.1 rfl)⟩
 ·intro u w hR hd;exact⟨fun hg=>have hG:=Zh (hd.1 rfl) hg;rn_fld_49_5 (ev rfl) (Zs hG),Zn (hd.1 rfl)⟩
 ·intro u w hR hd;exact⟨fun hg=>have hG:=Zh (hd.2.1 rfl) hg;rn_ld_40 (ev ((hd.1 rfl).1 hG)) (e5.kept hR) (Zs hG),Zn (hd.2.1 rfl)⟩
 ·intro u w hR hd;exact⟨fun hg=>have hG:=Zh (hd.2.2.1 rfl) hg;runs_c3 en_efS (ev ((hd.1 rfl).1 hG)) (ev ((hd.2.1 rfl).1 hG)) rfl (callp (fun _ e=>⟨fun _=>e,fun hn=>absurd hG hn⟩) (HEE.out _ (HGV.out.trans hR))),Zn (hd.2.2.1 rfl)⟩
 ·intro u w hR hd;exact runs_an (ev (hd.1 rfl)) (fun hb=>ev ((hd.2.1 rfl).1 hb)) Zr
 ·intro u w hR hd;exact runs_mva (ev (hd.1 rfl)) Zr
 ·intro u w4 hR hh
  have he:u 4=.bool (((((((ka)==(kb))&&(decide ((sa)=(sb))))&&((na)==(nb)))&&(eqL eqX ra rb))&&(eqL eqS ya yb))&&(eqL eqS ea eb)):=hh 40 (by decide)
  rw [HEQ.out] at he
  simp only [mixA,mixL,zz9,zz0,he]
  have HG4:Hid (Grew w w4):=zh (HGV.out.trans hR)
  clear hh he hR d0 d1 d2 d3 d4 d5 d6 e0 e1 e2 e3 e4 e5 e6 HGV
  go_wp2
  go_ret
  exact⟨rfl,HG4.out⟩
section
variable {dst:Option Tmp}{ty:TypeId}{pos:String}{after:Array Edge}{g:Option (Nat × Bool)}{a:Act}{w:World}{T:Value→World→Prop}
end
set_option maxHeartbeats 8000000 in
theorem eqN_any (l m:List ByteArray) (A B2:Nat→Prop) (w:World) (p p2:Option Addr) (c c2:Nat) (hx:InN FlatAt 1 strc A w p l.length c l) (hy:InN FlatAt 1 strc B2 w p2 m.length c2 m) :
 Calls Tryz.prog 69 #[.slice p l.length c,.slice p2 m.length c2] w fun e w'=>e=.returned (.bool (decide (l=m)))∧Grew w w':=by
 have hcap:=And.intro (hx.cap (hangsF encStr)) (hy.cap (hangsF encStr))
 by_cases hlen:l.length=m.length
 ·have HX:=zh hx
  have HY:=zh hy
  have HLE:=zh hlen
  obtain ⟨b,hb⟩:∃b,decide (l=m)=b:=⟨_,rfl⟩
  have HOK:=zh hb
  have HNO:=zh (fun(j:Nat) (hj:j < l.length) (hj':j < m.length) (h:l[j]≠m[j])=>(show b=false from hb ▸ decide_eq_false (fun e=>h (by subst e;rfl))))
  have HYES:=zh (fun(h:∀(j:Nat) (hj:j < l.length) (hj':j < m.length),l[j]=m[j])=>(show b=true from hb ▸ decide_eq_true (List.ext_getElem hlen h)))
  rw [hb]
  have hle2:(((l.length:Nat):Int) != ((m.length:Nat):Int))=false:=by rw [hlen];simp
  clear hx hy hb hlen
  go_enter Tryz.func69,Tryz.ntmps69
  go_wp2
  go_loopg [5,13] l.length (fun gg iv5 iv wr=>∃(j:Nat),iv=.int .i64 (j:Int)∧j≤l.length∧gg=l.length - j∧Hid (∀(i:Nat) (hi:i < l.length) (hi':i < m.length),i < j→l[i]=m[i])∧Hid (Grew w wr))
  case atStart=>exact⟨0,rfl,Nat.zero_le _,rfl,zh (fun i _ _ h=>absurd h (Nat.not_lt_zero _)),zh (Grew.refl _)⟩
  case round =>
   obtain ⟨j,rfl,hj,rfl,HI,HG⟩:=hrel
   by_cases hlt:j < l.length
   ·have hlt2:j < m.length:=by rw [← HLE.out];exact hlt
    have HFJ:=zh (HNO.out j hlt hlt2)
    have HLz:=zh (Nat.succ_le_of_lt hlt)
    obtain ⟨bz,oz,rfl,hcz⟩:=HX.out.getF j hlt
    obtain ⟨bu,ou,rfl,hcu⟩:=HY.out.getF j hlt2
    have HEJ:Hid (l[j]=m[j]→∀(i:Nat) (hi:i < l.length) (hi':i < m.length),i < j+1→l[i]=m[i]):=zh (fun h i hi hi' hij=>by
     rcases Nat.lt_or_ge i j with h1 | h1
     ·exact HI.out i hi hi' h1
     ·obtain rfl:i=j:=by omega
      exact h)
    have cz0:w.cell? ⟨bz,oz+j,none⟩=some (.string l[j]):=by have h_:=hcz 0 _ rfl;rw [Nat.mul_one] at h_;exact h_
    have cu0:w.cell? ⟨bu,ou+j,none⟩=some (.string m[j]):=by have h_:=hcu 0 _ rfl;rw [Nat.mul_one] at h_;exact h_
    generalize l[j]=xz at cz0 HFJ HEJ
    generalize m[j]=xu at cu0 HFJ HEJ
    have f0:Atv ⟨bz,oz+j,none⟩ (.string xz) wr.drew:=Atv.kept cz0 (HG.out.trans (Grew.refl _).drw)
    have g0:Atv ⟨bu,ou+j,none⟩ (.string xu) wr.drew:=Atv.kept cu0 (HG.out.trans (Grew.refl _).drw)
    have hltu:(j:Int) < (m.length:Int):=by omega
    clear hcz hcu cz0 cu0
    go_upto_region 6 with fail
    refine wp_still [some 16,some 17,some 18,some 19,some 20,some 21,some 22,some 23,some 24] zD0 [fun v _=>v=.slice (some ⟨bz,oz,none⟩) (l.length) (c),fun v _=>v=.int .i64 (((j:Nat):Int)),fun v _=>v=.pointer (some ⟨bz,oz+j,none⟩),fun v _=>v=.string xz,fun v _=>v=.slice (some ⟨bu,ou,none⟩) (m.length) (c2),fun v _=>v=.int .i64 (((j:Nat):Int)),fun v _=>v=.pointer (some ⟨bu,ou+j,none⟩),fun v _=>v=.string xu,fun v _=>v=.bool (!decide ((xz)=(xu)))] (by kernel_rfl) (by kernel_rfl) rfl ⟨?_,?_,?_,?_,?_,?_,?_,?_,?_,trivial⟩ ?_
    ·intro u w hR hd;exact runs_mv (ev rfl) ⟨rfl,rfl⟩
    ·intro u w hR hd;exact runs_mv (ev rfl) ⟨rfl,rfl⟩
    ·intro u w hR hd;exact rn_idx_24 (j) (ev (hd.1 rfl)) (ev (hd.2.1 rfl)) (by omega) ⟨rfl,rfl⟩
    ·intro u w hR hd;exact rn_ld_9 (ev (hd.1 rfl)) (f0.kept hR) ⟨rfl,rfl⟩
    ·intro u w hR hd;exact runs_mv (ev rfl) ⟨rfl,rfl⟩
    ·intro u w hR hd;exact runs_mv (ev rfl) ⟨rfl,rfl⟩
    ·intro u w hR hd;exact rn_idx_24 (j) (ev (hd.1 rfl)) (ev (hd.2.1 rfl)) (by omega) ⟨rfl,rfl⟩
    ·intro u w hR hd;exact rn_ld_9 (ev (hd.1 rfl)) (g0.kept hR) ⟨rfl,rfl⟩
    ·intro u w hR hd;exact rn_nes_9 (ev (hd.1 rfl)) (ev (hd.2.1 rfl)) ⟨rfl,rfl⟩
    ·intro u h
     have he:u 24=.bool (!decide ((xz)=(xu))):=h 8 (by decide)
     have HG4:=zh (HG.out.trans (Grew.refl wr).drw)
     by_cases hxe:xz=xu
     ·have hx2:(!decide ((xz)=(xu)))=false:=by rw [decide_eq_true hxe];rfl
      rw [hx2] at he
      have HEN:=zh (HEJ.out hxe)
      simp only [mixA,mixL,zz9,zz0,he]
      clear h he hx2 hxe f0 g0 HEJ HFJ
      go_wp2
      go_roundg (l.length - (j+1))
      case measure=>have:=HLz.out;omega
      case rel=>exact⟨j+1,by go_num,HLz.out,rfl,HEN,HG4⟩
     ·have hx2:(!decide ((xz)=(xu)))=true:=by rw [decide_eq_false hxe];rfl
      rw [hx2] at he
      have HN2:=zh (HFJ.out hxe)
      simp only [mixA,mixL,zz9,zz0,he]
      clear h he hx2 hxe f0 g0 HEJ HFJ
      go_wp2
      go_ret
      exact⟨ret_bool HN2.out.symm,HG4.out⟩
   ·obtain rfl:j=l.length:=by omega
    have HZ:=zh (HYES.out (fun i hi hi'=>HI.out i hi hi' hi))
    go_wp2
    go_ret
    exact⟨ret_bool HZ.out.symm,HG.out⟩
 ·have he:decide (l=m)=false:=decide_eq_false (fun e=>hlen (by rw [e]))
  rw [he]
  have hle2:(((l.length:Nat):Int) != ((m.length:Nat):Int))=true:=by rw [bne_iff_ne];omega
  clear he hx hy hlen
  go_enter Tryz.func69,Tryz.ntmps69
  go_wp2
  go_ret
  exact⟨rfl,Grew.refl _⟩
section
variable {dst:Option Tmp}{ty:TypeId}{pos:String}{after:Array Edge}{g:Option (Nat × Bool)}{a:Act}{w:World}{T:Value→World→Prop}
end
def eqCn (x y:Cn):Bool:=decide (x.s=y.s)&&(x.v==y.v)
def eqGl (x y:Gl):Bool:=(decide (x.s=y.s)&&(x.l==y.l))&&(x.i==y.i)
def eqTa (x y:Ta):Bool:=decide (x.s=y.s)&&(x.p==y.p)&&(x.d==y.d)&&decide (x.c=y.c)&&decide (x.m=y.m)&&(x.w==y.w)&&eqL eqS x.b y.b
def eqPg (P Q:Pg):Bool:=eqL eqCn P.cs Q.cs&&eqL eqGl P.gs Q.gs&&decide (P.ss=Q.ss)&&decide (P.os=Q.os)&&eqL eqCn P.hs Q.hs&&eqL eqTa P.ts Q.ts
theorem eqT_eq2 (sa:ByteArray) (ia da:Int) (ha ma:ByteArray) (na:Int) (ya:List Sm) (qa:Int) (sb:ByteArray) (ib db:Int) (hb mb:ByteArray) (nb:Int) (yb:List Sm) (qb:Int):(((((((decide ((sa)=(sb)))&&((ia)==(ib)))&&((da)==(db)))&&(decide ((ha)=(hb))))&&(decide ((ma)=(mb))))&&((na)==(nb)))&&(eqL eqS ya yb))=eqTa ⟨sa,ia,da,ha,ma,na,ya,qa⟩ ⟨sb,ib,db,hb,mb,nb,yb,qb⟩:=by
 rw [eqTa]
set_option maxHeartbeats 8000000 in
theorem eqTP_any (x y:Ta) (A B:Nat→Prop) (w:World) (bpa:Option Addr) (bca:Nat) (bpb:Option Addr) (bcb:Nat) (hx:SL A w bpa bca x.b) (hy:SL B w bpb bcb y.b) :
 Calls Tryz.prog 73 #[tv x.s x.p x.d x.c x.m x.w bpa x.b.length bca x.q,tv y.s y.p y.d y.c y.m y.w bpb y.b.length bcb y.q] w fun e w'=>e=.returned (.bool (eqTa x y))∧Grew w w':=by
 obtain ⟨sa,ia,da,ha,ma,na,ya,qa⟩:=x
 obtain ⟨sb,ib,db,hb,mb,nb,yb,qb⟩:=y
 replace hx:SL A w bpa bca ya:=hx
 replace hy:SL B w bpb bcb yb:=hy
 show Calls Tryz.prog 73 #[tv sa ia da ha ma na bpa ya.length bca qa,tv sb ib db hb mb nb bpb yb.length bcb qb] w fun e w'=>e=.returned (.bool (eqTa ⟨sa,ia,da,ha,ma,na,ya,qa⟩ ⟨sb,ib,db,hb,mb,nb,yb,qb⟩))∧Grew w w'
 have hcap:=And.intro hx.cap.1 hy.cap.1
 have hmax:=And.intro hx.cap.2.1 hy.cap.2.1
 have HEQ:=zh (eqT_eq2 sa ia da ha ma na ya qa sb ib db hb mb nb yb qb)
 have HEY:Hid (∀W,Grew w W→Calls Tryz.prog 117 #[.slice bpa ya.length bca,.slice bpb yb.length bcb,.func (.func 118) #[] #[]] W fun e w'=>e=.returned (.bool (eqL eqS ya yb))∧Grew W w') :=
  zh (fun W hW=>eqfS_any 118 #[] en_eS ya yb eqS A B W bpa bpb bca bcb (hx.kept hW) (hy.kept hW) (fun x _ y _ a1 a2 a3 a4 a5 a6 b1 b2 b3 b4 b5 b6 W2 h1 h2 h3 _ g1 g2 g3 _ hW2=>eqSP_any x y A B W2 a1 a2 a3 a4 a5 a6 b1 b2 b3 b4 b5 b6 h1 h2 h3 g1 g2 g3))
 clear hx hy
 go_enter Tryz.func73,Tryz.ntmps73
 go_upto_region 1 with fail
 have hb1:Blk w.heap.size [.string sa,.int .i64 ia,.int .i64 da,.string ha,.string ma,.int .i64 na,.slice bpa ya.length bca,.int .i64 qa] 42 (w.alloc (Obj.cells #[.string sa,.int .i64 ia,.int .i64 da,.string ha,.string ma,.int .i64 na,.slice bpa ya.length bca,.int .i64 qa] 42)):=Blk.new w _ _
 have hb2:Blk (w.alloc (Obj.cells #[.string sa,.int .i64 ia,.int .i64 da,.string ha,.string ma,.int .i64 na,.slice bpa ya.length bca,.int .i64 qa] 42)).heap.size [.string sb,.int .i64 ib,.int .i64 db,.string hb,.string mb,.int .i64 nb,.slice bpb yb.length bcb,.int .i64 qb] 42 ((w.alloc (Obj.cells #[.string sa,.int .i64 ia,.int .i64 da,.string ha,.string ma,.int .i64 na,.slice bpa ya.length bca,.int .i64 qa] 42)).alloc (Obj.cells #[.string sb,.int .i64 ib,.int .i64 db,.string hb,.string mb,.int .i64 nb,.slice bpb yb.length bcb,.int .i64 qb] 42)):=Blk.new _ _ _
 have hb3:=hb1.grew ((Grew.refl _).alloc (Obj.cells #[.string sb,.int .i64 ib,.int .i64 db,.string hb,.string mb,.int .i64 nb,.slice bpb yb.length bcb,.int .i64 qb] 42))
 have hgV:Grew w ((w.alloc (Obj.cells #[.string sa,.int .i64 ia,.int .i64 da,.string ha,.string ma,.int .i64 na,.slice bpa ya.length bca,.int .i64 qa] 42)).alloc (Obj.cells #[.string sb,.int .i64 ib,.int .i64 db,.string hb,.string mb,.int .i64 nb,.slice bpb yb.length bcb,.int .i64 qb] 42)):=((Grew.refl w).alloc _).alloc _
 rw [alloc_sz] at hb2
 try rw [alloc_sz]
 generalize ((w.alloc (Obj.cells #[.string sa,.int .i64 ia,.int .i64 da,.string ha,.string ma,.int .i64 na,.slice bpa ya.length bca,.int .i64 qa] 42)).alloc (Obj.cells #[.string sb,.int .i64 ib,.int .i64 db,.string hb,.string mb,.int .i64 nb,.slice bpb yb.length bcb,.int .i64 qb] 42))=V at hb2 hb3 hgV ⊢
 generalize w.heap.size+1=U at hb2 ⊢
 generalize w.heap.size=T at hb3 ⊢
 have HGV:=zh hgV
 have d0:Atv ⟨T,0,none⟩ (.string sa) V:=hb3.atv 0 rfl
 have d1:Atv ⟨T,1,none⟩ (.int .i64 ia) V:=hb3.atv 1 rfl
 have d2:Atv ⟨T,2,none⟩ (.int .i64 da) V:=hb3.atv 2 rfl
 have d3:Atv ⟨T,3,none⟩ (.string ha) V:=hb3.atv 3 rfl
 have d4:Atv ⟨T,4,none⟩ (.string ma) V:=hb3.atv 4 rfl
 have d5:Atv ⟨T,5,none⟩ (.int .i64 na) V:=hb3.atv 5 rfl
 have d6:Atv ⟨T,6,none⟩ (.slice bpa ya.length bca) V:=hb3.atv 6 rfl
 have d7:Atv ⟨T,7,none⟩ (.int .i64 qa) V:=hb3.atv 7 rfl
 have e0:Atv ⟨U,0,none⟩ (.string sb) V:=hb2.atv 0 rfl
 have e1:Atv ⟨U,1,none⟩ (.int .i64 ib) V:=hb2.atv 1 rfl
 have e2:Atv ⟨U,2,none⟩ (.int .i64 db) V:=hb2.atv 2 rfl
 have e3:Atv ⟨U,3,none⟩ (.string hb) V:=hb2.atv 3 rfl
 have e4:Atv ⟨U,4,none⟩ (.string mb) V:=hb2.atv 4 rfl
 have e5:Atv ⟨U,5,none⟩ (.int .i64 nb) V:=hb2.atv 5 rfl
 have e6:Atv ⟨U,6,none⟩ (.slice bpb yb.length bcb) V:=hb2.atv 6 rfl
 have e7:Atv ⟨U,7,none⟩ (.int .i64 qb) V:=hb2.atv 7 rfl
 clear hb1 hb2 hb3 hgV
 refine wp_postsL [some 5,some 6,some 7,some 8,some 9,some 10,some 11,some 12,some 13,some 14,some 15,some 16,some 17,some 18,some 19,some 20,some 21,some 22,some 23,some 24,some 25,some 26,some 27,some 28,some 29,some 30,some 31,some 32,some 33,some 34,some 35,some 36,some 37,some 38,some 39,some 40,some 41,some 42,some 43,some 44,some 45,some 46,some 47,some 48,some 49,some 50,some 51,some 4] (Zfc (Ztg (Zte []))) [fun v _=>v=.pointer (some ⟨T,0,none⟩),fun v _=>v=.string sa,fun v _=>v=.pointer (some ⟨U,0,none⟩),fun v _=>v=.string sb,fun v _=>v=.bool (decide ((sa)=(sb))),fun v _=>v=.bool (decide ((sa)=(sb))),fun v _=>Zg ((decide ((sa)=(sb)))=true) (.pointer (some ⟨T,1,none⟩)) v,fun v _=>Zg ((decide ((sa)=(sb)))=true) (.int .i64 (ia)) v,fun v _=>Zg ((decide ((sa)=(sb)))=true) (.pointer (some ⟨U,1,none⟩)) v,fun v _=>Zg ((decide ((sa)=(sb)))=true) (.int .i64 (ib)) v,fun v _=>Zg ((decide ((sa)=(sb)))=true) (.bool ((ia)==(ib))) v,fun v _=>v=.bool ((decide ((sa)=(sb)))&&((ia)==(ib))),fun v _=>v=.bool ((decide ((sa)=(sb)))&&((ia)==(ib))),fun v _=>Zg (((decide ((sa)=(sb)))&&((ia)==(ib)))=true) (.pointer (some ⟨T,2,none⟩)) v,fun v _=>Zg (((decide ((sa)=(sb)))&&((ia)==(ib)))=true) (.int .i64 (da)) v,fun v _=>Zg (((decide ((sa)=(sb)))&&((ia)==(ib)))=true) (.pointer (some ⟨U,2,none⟩)) v,fun v _=>Zg (((decide ((sa)=(sb)))&&((ia)==(ib)))=true) (.int .i64 (db)) v,fun v _=>Zg (((decide ((sa)=(sb)))&&((ia)==(ib)))=true) (.bool ((da)==(db))) v,fun v _=>v=.bool (((decide ((sa)=(sb)))&&((ia)==(ib)))&&((da)==(db))),fun v _=>v=.bool (((decide ((sa)=(sb)))&&((ia)==(ib)))&&((da)==(db))),fun v _=>Zg ((((decide ((sa)=(sb)))&&((ia)==(ib)))&&((da)==(db)))=true) (.pointer (some ⟨T,3,none⟩)) v,fun v _=>Zg ((((decide ((sa)=(sb)))&&((ia)==(ib)))&&((da)==(db)))=true) (.string ha) v,fun v _=>Zg ((((decide ((sa)=(sb)))&&((ia)==(ib)))&&((da)==(db)))=true) (.pointer (some ⟨U,3,none⟩)) v,fun v _=>Zg ((((decide ((sa)=(sb)))&&((ia)==(ib)))&&((da)==(db)))=true) (.string hb) v,fun v _=>Zg ((((decide ((sa)=(sb)))&&((ia)==(ib)))&&((da)==(db)))=true) (.bool (decide ((ha)=(hb)))) v,fun v _=>v=.bool ((((decide ((sa)=(sb)))&&((ia)==(ib)))&&((da)==(db)))&&(decide ((ha)=(hb)))),fun v _=>v=.bool ((((decide ((sa)=(sb)))&&((ia)==(ib)))&&((da)==(db)))&&(decide ((ha)=(hb)))),fun v _=>Zg (((((decide ((sa)=(sb)))&&((ia)==(ib)))&&((da)==(db)))&&(decide ((ha)=(hb))))=true) (.pointer (some ⟨T,4,none⟩)) v,fun v _=>Zg (((((decide ((sa)=(sb)))&&((ia)==(ib)))&&((da)==(db)))&&(decide ((ha)=(hb))))=true) (.string ma) v,fun v _=>Zg (((((decide ((sa)=(sb)))&&((ia)==(ib)))&&((da)==(db)))&&(decide ((ha)=(hb))))=true) (.pointer (some ⟨U,4,none⟩)) v,fun v _=>Zg (((((decide ((sa)=(sb)))&&((ia)==(ib)))&&((da)==(db)))&&(decide ((ha)=(hb))))=true) (.string mb) v,fun v _=>Zg (((((decide ((sa)=(sb)))&&((ia)==(ib)))&&((da)==(db)))&&(decide ((ha)=(hb))))=true) (.bool (decide ((ma)=(mb)))) v,fun v _=>v=.bool (((((decide ((sa)=(sb)))&&((ia)==(ib)))&&((da)==(db)))&&(decide ((ha)=(hb))))&&(decide ((ma)=(mb)))),fun v _=>v=.bool (((((decide ((sa)=(sb)))&&((ia)==(ib)))&&((da)==(db)))&&(decide ((ha)=(hb))))&&(decide ((ma)=(mb)))),fun v _=>Zg ((((((decide ((sa)=(sb)))&&((ia)==(ib)))&&((da)==(db)))&&(decide ((ha)=(hb))))&&(decide ((ma)=(mb))))=true) (.pointer (some ⟨T,5,none⟩)) v,fun v _=>Zg ((((((decide ((sa)=(sb)))&&((ia)==(ib)))&&((da)==(db)))&&(decide ((ha)=(hb))))&&(decide ((ma)=(mb))))=true) (.int .i64 (na)) v,fun v _=>Zg ((((((decide ((sa)=(sb)))&&((ia)==(ib)))&&((da)==(db)))&&(decide ((ha)=(hb))))&&(decide ((ma)=(mb))))=true) (.pointer (some ⟨U,5,none⟩)) v,fun v _=>Zg ((((((decide ((sa)=(sb)))&&((ia)==(ib)))&&((da)==(db)))&&(decide ((ha)=(hb))))&&(decide ((ma)=(mb))))=true) (.int .i64 (nb)) v,fun v _=>Zg ((((((decide ((sa)=(sb)))&&((ia)==(ib)))&&((da)==(db)))&&(decide ((ha)=(hb))))&&(decide ((ma)=(mb))))=true) (.bool ((na)==(nb))) v,fun v _=>v=.bool ((((((decide ((sa)=(sb)))&&((ia)==(ib)))&&((da)==(db)))&&(decide ((ha)=(hb))))&&(decide ((ma)=(mb))))&&((na)==(nb))),fun v _=>v=.bool ((((((decide ((sa)=(sb)))&&((ia)==(ib)))&&((da)==(db)))&&(decide ((ha)=(hb))))&&(decide ((ma)=(mb))))&&((na)==(nb))),fun v _=>Zg (((((((decide ((sa)=(sb)))&&((ia)==(ib)))&&((da)==(db)))&&(decide ((ha)=(hb))))&&(decide ((ma)=(mb))))&&((na)==(nb)))=true) (.pointer (some ⟨T,6,none⟩)) v,fun v _=>Zg (((((((decide ((sa)=(sb)))&&((ia)==(ib)))&&((da)==(db)))&&(decide ((ha)=(hb))))&&(decide ((ma)=(mb))))&&((na)==(nb)))=true) (.slice bpa (ya.length) (bca)) v,fun v _=>Zg (((((((decide ((sa)=(sb)))&&((ia)==(ib)))&&((da)==(db)))&&(decide ((ha)=(hb))))&&(decide ((ma)=(mb))))&&((na)==(nb)))=true) (.pointer (some ⟨U,6,none⟩)) v,fun v _=>Zg (((((((decide ((sa)=(sb)))&&((ia)==(ib)))&&((da)==(db)))&&(decide ((ha)=(hb))))&&(decide ((ma)=(mb))))&&((na)==(nb)))=true) (.slice bpb (yb.length) (bcb)) v,fun v _=>Zg (((((((decide ((sa)=(sb)))&&((ia)==(ib)))&&((da)==(db)))&&(decide ((ha)=(hb))))&&(decide ((ma)=(mb))))&&((na)==(nb)))=true) (.bool (eqL eqS ya yb)) v,fun v _=>v=.bool (((((((decide ((sa)=(sb)))&&((ia)==(ib)))&&((da)==(db)))&&(decide ((ha)=(hb))))&&(decide ((ma)=(mb))))&&((na)==(nb)))&&(eqL eqS ya yb)),fun v _=>v=.bool (((((((decide ((sa)=(sb)))&&((ia)==(ib)))&&((da)==(db)))&&(decide ((ha)=(hb))))&&(decide ((ma)=(mb))))&&((na)==(nb)))&&(eqL eqS ya yb))] (by kernel_rfl) rfl ?_ ⟨?_,?_,?_,?_,?_,?_,?_,?_,?_,?_,?_,?_,?_,?_,?_,?_,?_,?_,?_,?_,?_,?_,?_,?_,?_,?_,?_,?_,?_,?_,?_,?_,?_,?_,?_,?_,?_,?_,?_,?_,?_,?_,?_,?_,?_,?_,?_,?_,trivial⟩ ?_
 ·exact⟨Zi,Zi,Zi,Zi,Zi,Zi,Zi,Zi,Zi,Zi,Zi,Zi,Zi,Zi,Zi,Zi,Zi,Zi,Zi,Zi,Zi,Zi,Zi,Zi,Zi,Zi,Zi,Zi,Zi,Zi,Zi,Zi,Zi,Zi,Zi,Zi,Zi,Zi,Zi,Zi,Zi,Zi,Zi,Zi,Zi,Zi,Zi,Zi,trivial⟩
 ·intro u w hR hd;exact rn_fld_42_0 (ev rfl) Zr
 ·intro u w hR hd;exact rn_ld_9 (ev (hd.1 rfl)) (d0.kept hR) Zr
 ·intro u w hR hd;exact rn_fld_42_0 (ev rfl) Zr
 ·intro u w hR hd;exact rn_ld_9 (ev (hd.1 rfl)) (e0.kept hR) Zr
 ·intro u w hR hd;exact rn_eqs_9 (ev (hd.1 rfl)) (ev (hd.2.1 rfl)) Zr
 ·intro u w hR hd;exact runs_mv (ev (hd.1 rfl)) Zr
 ·intro u w hR hd;exact⟨fun hg=>have hG:=Zh (hd.1 rfl) hg;rn_fld_42_1 (ev rfl) (Zs hG),Zn (hd.1 rfl)⟩
 ·intro u w hR hd;exact⟨fun hg=>have hG:=Zh (hd.2.1 rfl) hg;rn_ld_3 (ev ((hd.1 rfl).1 hG)) (d1.kept hR) (Zs hG),Zn (hd.2.1 rfl)⟩
 ·intro u w hR hd;exact⟨fun hg=>have hG:=Zh (hd.1 rfl) hg;rn_fld_42_1 (ev rfl) (Zs hG),Zn (hd.1 rfl)⟩
 ·intro u w hR hd;exact⟨fun hg=>have hG:=Zh (hd.2.1 rfl) hg;rn_ld_3 (ev ((hd.1 rfl).1 hG)) (e1.kept hR) (Zs hG),Zn (hd.2.1 rfl)⟩
 ·intro u w hR hd;exact⟨fun hg=>have hG:=Zh (hd.2.2.1 rfl) hg;rn_eql_3 (ev ((hd.1 rfl).1 hG)) (ev ((hd.2.1 rfl).1 hG)) (Zs hG),Zn (hd.2.2.1 rfl)⟩
 ·intro u w hR hd;exact runs_an (ev (hd.1 rfl)) (fun hb=>ev ((hd.2.1 rfl).1 hb)) Zr
 ·intro u w hR hd;exact runs_mv (ev (hd.1 rfl)) Zr
 ·intro u w hR hd;exact⟨fun hg=>have hG:=Zh (hd.1 rfl) hg;rn_fld_42_2 (ev rfl) (Zs hG),Zn (hd.1 rfl)⟩
 ·intro u w hR hd;exact⟨fun hg=>have hG:=Zh (hd.2.1 rfl) hg;rn_ld_3 (ev ((hd.1 rfl).1 hG)) (d2.kept hR) (Zs hG),Zn (hd.2.1 rfl)⟩
 ·intro u w hR hd;exact⟨fun hg=>have hG:=Zh (hd.1 rfl) hg;rn_fld_42_2 (ev rfl) (Zs hG),Zn (hd.1 rfl)⟩
 ·intro u w hR hd;exact⟨fun hg=>have hG:=Zh (hd.2.1 rfl) hg;rn_ld_3 (ev ((hd.1 rfl).1 hG)) (e2.kept hR) (Zs hG),Zn (hd.2.1 rfl)⟩
 ·intro u w hR hd;exact⟨fun hg=>have hG:=Zh (hd.2.2.1 rfl) hg;rn_eql_3 (ev ((hd.1 rfl).1 hG)) (ev ((hd.2.1 rfl).1 hG)) (Zs hG),Zn (hd.2.2.1 rfl)⟩
 ·intro u w hR hd;exact runs_an (ev (hd.1 rfl)) (fun hb=>ev ((hd.2.1 rfl).1 hb)) Zr
 ·intro u w hR hd;exact runs_mv (ev (hd.1 rfl)) Zr
 ·intro u w hR hd;exact⟨fun hg=>have hG:=Zh (hd.1 rfl) hg;rn_fld_42_3 (ev rfl) (Zs hG),Zn (hd.1 rfl)⟩
 ·intro u w hR hd;exact⟨fun hg=>have hG:=Zh (hd.2.1 rfl) hg;rn_ld_9 (ev ((hd.1 rfl).1 hG)) (d3.kept hR) (Zs hG),Zn (hd.2.1 rfl)⟩
 ·intro u w hR hd;exact⟨fun hg=>have hG:=Zh (hd.1 rfl) hg;rn_fld_42_3 (ev rfl) (Zs hG),Zn (hd.1 rfl)⟩
 ·intro u w hR hd;exact⟨fun hg=>have hG:=Zh (hd.2.1 rfl) hg;rn_ld_9 (ev ((hd.1 rfl).1 hG)) (e3.kept hR) (Zs hG),Zn (hd.2.1 rfl)⟩
 ·intro u w hR hd;exact⟨fun hg=>have hG:=Zh (hd.2.2.1 rfl) hg;rn_eqs_9 (ev ((hd.1 rfl).1 hG)) (ev ((hd.2.1 rfl).1 hG)) (Zs hG),Zn (hd.2.2.1 rfl)⟩
 ·intro u w hR hd;exact runs_an (ev (hd.1 rfl)) (fun hb=>ev ((hd.2.1 rfl).1 hb)) Zr
 ·intro u w hR hd;exact runs_mv (ev (hd.1 rfl)) Zr
 ·intro u w hR hd;exact⟨fun hg=>have hG:=Zh (hd.1 rfl) hg;rn_fld_42_4 (ev rfl) (Zs hG),Zn (hd.1 rfl)⟩
 ·intro u w hR hd;exact⟨fun hg=>have hG:=Zh (hd.2.1 rfl) hg;rn_ld_9 (ev ((hd.1 rfl).1 hG)) (d4.kept hR) (Zs hG),Zn (hd.2.1 rfl)⟩
 ·intro u w hR hd;exact⟨fun hg=>have hG:=Zh (hd.1 rfl) hg;rn_fld_42_4 (ev rfl) (Zs hG),Zn (hd.1 rfl)⟩
 ·intro u w hR hd;exact⟨fun hg=>have hG:=Zh (hd.2.1 rfl) hg;rn_ld_9 (ev ((hd.1 rfl).1 hG)) (e4.kept hR) (Zs hG),Zn (hd.2.1 rfl)⟩
 ·intro u w hR hd;exact⟨fun hg=>have hG:=Zh (hd.2.2.1 rfl) hg;rn_eqs_9 (ev ((hd.1 rfl).1 hG)) (ev ((hd.2.1 rfl).1 hG)) (Zs hG),Zn (hd.2.2.1 rfl)⟩
 ·intro u w hR hd;exact runs_an (ev (hd.1 rfl)) (fun hb=>ev ((hd.2.1 rfl).1 hb)) Zr
 ·intro u w hR hd;exact runs_mv (ev (hd.1 rfl)) Zr
 ·intro u w hR hd;exact⟨fun hg=>have hG:=Zh (hd.1 rfl) hg;rn_fld_42_5 (ev rfl) (Zs hG),Zn (hd.1 rfl)⟩
 ·intro u w hR hd;exact⟨fun hg=>have hG:=Zh (hd.2.1 rfl) hg;rn_ld_3 (ev ((hd.1 rfl).1 hG)) (d5.kept hR) (Zs hG),Zn (hd.2.1 rfl)⟩
 ·intro u w hR hd;exact⟨fun hg=>have hG:=Zh (hd.1 rfl) hg;rn_fld_42_5 (ev rfl) (Zs hG),Zn (hd.1 rfl)⟩
 ·intro u w hR hd;exact⟨fun hg=>have hG:=Zh (hd.2.1 rfl) hg;rn_ld_3 (ev ((hd.1 rfl).1 hG)) (e5.kept hR) (Zs hG),Zn (hd.2.1 rfl)⟩
 ·intro u w hR hd;exact⟨fun hg=>have hG:=Zh (hd.2.2.1 rfl) hg;rn_eql_3 (ev ((hd.1 rfl).1 hG)) (ev ((hd.2.1 rfl).1 hG)) (Zs hG),Zn (hd.2.2.1 rfl)⟩
 ·intro u w hR hd;exact runs_an (ev (hd.1 rfl)) (fun hb=>ev ((hd.2.1 rfl).1 hb)) Zr
 ·intro u w hR hd;exact runs_mv (ev (hd.1 rfl)) Zr
 ·intro u w hR hd;exact⟨fun hg=>have hG:=Zh (hd.1 rfl) hg;rn_fld_42_6 (ev rfl) (Zs hG),Zn (hd.1 rfl)⟩
 ·intro u w hR hd;exact⟨fun hg=>have hG:=Zh (hd.2.1 rfl) hg;rn_ld_40 (ev ((hd.1 rfl).1 hG)) (d6.kept hR) (Zs hG),Zn (hd.2.1 rfl)⟩
 ·intro u w hR hd;exact⟨fun hg=>have hG:=Zh (hd.1 rfl) hg;rn_fld_42_6 (ev rfl) (Zs hG),Zn (hd.1 rfl)⟩
 ·intro u w hR hd;exact⟨fun hg=>have hG:=Zh (hd.2.1 rfl) hg;rn_ld_40 (ev ((hd.1 rfl).1 hG)) (e6.kept hR) (Zs hG),Zn (hd.2.1 rfl)⟩
 ·intro u w hR hd;exact⟨fun hg=>have hG:=Zh (hd.2.2.1 rfl) hg;runs_c3 en_efS (ev ((hd.1 rfl).1 hG)) (ev ((hd.2.1 rfl).1 hG)) rfl (callp (fun _ e=>⟨fun _=>e,fun hn=>absurd hG hn⟩) (HEY.out _ (HGV.out.trans hR))),Zn (hd.2.2.1 rfl)⟩
 ·intro u w hR hd;exact runs_an (ev (hd.1 rfl)) (fun hb=>ev ((hd.2.1 rfl).1 hb)) Zr
 ·intro u w hR hd;exact runs_mva (ev (hd.1 rfl)) Zr
 ·intro u w4 hR hh
  have he:u 4=.bool (((((((decide ((sa)=(sb)))&&((ia)==(ib)))&&((da)==(db)))&&(decide ((ha)=(hb))))&&(decide ((ma)=(mb))))&&((na)==(nb)))&&(eqL eqS ya yb)):=hh 47 (by decide)
  rw [HEQ.out] at he
  simp only [mixA,mixL,zz9,zz0,he]
  have HG4:Hid (Grew w w4):=zh (HGV.out.trans hR)
  clear hh he hR d0 d1 d2 d3 d4 d5 d6 d7 e0 e1 e2 e3 e4 e5 e6 e7 HGV
  go_wp2
  go_ret
  exact⟨rfl,HG4.out⟩
theorem eqP_eq2 (csa:List Cn) (gsa:List Gl) (ssa osa:List ByteArray) (hsa:List Cn) (tsa:List Ta) (csb:List Cn) (gsb:List Gl) (ssb osb:List ByteArray) (hsb:List Cn) (tsb:List Ta):((((((eqL eqCn csa csb)&&(eqL eqGl gsa gsb))&&(decide (ssa=ssb)))&&(decide (osa=osb)))&&(eqL eqCn hsa hsb))&&(eqL eqTa tsa tsb))=eqPg ⟨csa,gsa,ssa,osa,hsa,tsa⟩ ⟨csb,gsb,ssb,osb,hsb,tsb⟩:=by
 rw [eqPg]
set_option maxHeartbeats 8000000 in
theorem eqPP_any (P Q:Pg) (A B:Nat→Prop) (w:World) (cpa gpa spa opa hpa tpa:Option Addr) (cca gca sca oca hca tca:Nat) (cpb gpb spb opb hpb tpb:Option Addr) (ccb gcb scb ocb hcb tcb:Nat)
 (hp:PgIn A w P cpa gpa spa opa hpa tpa cca gca sca oca hca tca) (hq:PgIn B w Q cpb gpb spb opb hpb tpb ccb gcb scb ocb hcb tcb) :
 Calls Tryz.prog 20 #[pgv P cpa gpa spa opa hpa tpa cca gca sca oca hca tca,pgv Q cpb gpb spb opb hpb tpb ccb gcb scb ocb hcb tcb] w fun e w'=>e=.returned (.bool (eqPg P Q))∧Grew w w':=by
 have hcaps:=And.intro hp.caps hq.caps
 obtain ⟨csa,gsa,ssa,osa,hsa,tsa⟩:=P
 obtain ⟨csb,gsb,ssb,osb,hsb,tsb⟩:=Q
 have HPG:=zh hp
 have HQG_:=zh hq
 dsimp only at hcaps
 have HQC:Hid (∀W,Grew w W→Calls Tryz.prog 65 #[.slice cpa csa.length cca,.slice cpb csb.length ccb,.func (.func 66) #[] #[]] W fun e w'=>e=.returned (.bool (eqL eqCn csa csb))∧Grew W w') :=
  zh (fun W hW=>eqfC_any 66 #[] en_eC csa csb eqCn A B W _ _ _ _ (HPG.out.kept hW).cs.2 (HQG_.out.kept hW).cs.2 (fun x _ y _ W2 _=>eqC_any x.s y.s x.v y.v x.q y.q W2))
 have HQG:Hid (∀W,Grew w W→Calls Tryz.prog 67 #[.slice gpa gsa.length gca,.slice gpb gsb.length gcb,.func (.func 68) #[] #[]] W fun e w'=>e=.returned (.bool (eqL eqGl gsa gsb))∧Grew W w') :=
  zh (fun W hW=>eqfG_any 68 #[] en_eG gsa gsb eqGl A B W _ _ _ _ (HPG.out.kept hW).gs.2 (HQG_.out.kept hW).gs.2 (fun x _ y _ W2 _=>eqG_any x.s y.s x.l y.l x.i y.i x.q y.q W2))
 have HQS:Hid (∀W,Grew w W→Calls Tryz.prog 69 #[.slice spa ssa.length sca,.slice spb ssb.length scb] W fun e w'=>e=.returned (.bool (decide (ssa=ssb)))∧Grew W w'):=zh (fun W hW=>eqN_any ssa ssb A B W _ _ _ _ (HPG.out.kept hW).ss.2 (HQG_.out.kept hW).ss.2)
 have HQO:Hid (∀W,Grew w W→Calls Tryz.prog 69 #[.slice opa osa.length oca,.slice opb osb.length ocb] W fun e w'=>e=.returned (.bool (decide (osa=osb)))∧Grew W w'):=zh (fun W hW=>eqN_any osa osb A B W _ _ _ _ (HPG.out.kept hW).os.2 (HQG_.out.kept hW).os.2)
 have HQH:Hid (∀W,Grew w W→Calls Tryz.prog 70 #[.slice hpa hsa.length hca,.slice hpb hsb.length hcb,.func (.func 71) #[] #[]] W fun e w'=>e=.returned (.bool (eqL eqCn hsa hsb))∧Grew W w') :=
  zh (fun W hW=>eqfH_any 71 #[] en_eH hsa hsb eqCn A B W _ _ _ _ (HPG.out.kept hW).hs.2 (HQG_.out.kept hW).hs.2 (fun x _ y _ W2 _=>eqH_any x.s y.s x.v y.v x.q y.q W2))
 have HQT:Hid (∀W,Grew w W→Calls Tryz.prog 72 #[.slice tpa tsa.length tca,.slice tpb tsb.length tcb,.func (.func 73) #[] #[]] W fun e w'=>e=.returned (.bool (eqL eqTa tsa tsb))∧Grew W w') :=
  zh (fun W hW=>eqfT_any 73 #[] en_eT tsa tsb eqTa A B W _ _ _ _ (HPG.out.kept hW).ts (HQG_.out.kept hW).ts (fun x _ y _ a1 a2 b1 b2 W2 h1 _ h2 _ _=>eqTP_any x y A B W2 a1 a2 b1 b2 h1 h2))
 have HEQ:=zh (eqP_eq2 csa gsa ssa osa hsa tsa csb gsb ssb osb hsb tsb)
 show Calls Tryz.prog 20 #[.agg #[.slice cpa csa.length cca,.slice gpa gsa.length gca,.slice spa ssa.length sca,.slice opa osa.length oca,.slice hpa hsa.length hca,.slice tpa tsa.length tca],.agg #[.slice cpb csb.length ccb,.slice gpb gsb.length gcb,.slice spb ssb.length scb,.slice opb osb.length ocb,.slice hpb hsb.length hcb,.slice tpb tsb.length tcb]] w fun e w'=>e=.returned (.bool (eqPg ⟨csa,gsa,ssa,osa,hsa,tsa⟩ ⟨csb,gsb,ssb,osb,hsb,tsb⟩))∧Grew w w'
 clear hp hq HPG HQG_
 go_enter Tryz.func20,Tryz.ntmps20
 go_upto_region 1 with fail
 have hb1:Blk w.heap.size [.slice cpa csa.length cca,.slice gpa gsa.length gca,.slice spa ssa.length sca,.slice opa osa.length oca,.slice hpa hsa.length hca,.slice tpa tsa.length tca] 28 (w.alloc (Obj.cells #[.slice cpa csa.length cca,.slice gpa gsa.length gca,.slice spa ssa.length sca,.slice opa osa.length oca,.slice hpa hsa.length hca,.slice tpa tsa.length tca] 28)):=Blk.new w _ _
 have hb2:Blk (w.alloc (Obj.cells #[.slice cpa csa.length cca,.slice gpa gsa.length gca,.slice spa ssa.length sca,.slice opa osa.length oca,.slice hpa hsa.length hca,.slice tpa tsa.length tca] 28)).heap.size [.slice cpb csb.length ccb,.slice gpb gsb.length gcb,.slice spb ssb.length scb,.slice opb osb.length ocb,.slice hpb hsb.length hcb,.slice tpb tsb.length tcb] 28 ((w.alloc (Obj.cells #[.slice cpa csa.length cca,.slice gpa gsa.length gca,.slice spa ssa.length sca,.slice opa osa.length oca,.slice hpa hsa.length hca,.slice tpa tsa.length tca] 28)).alloc (Obj.cells #[.slice cpb csb.length ccb,.slice gpb gsb.length gcb,.slice spb ssb.length scb,.slice opb osb.length ocb,.slice hpb hsb.length hcb,.slice tpb tsb.length tcb] 28)):=Blk.new _ _ _
 have hb3:=hb1.grew ((Grew.refl _).alloc (Obj.cells #[.slice cpb csb.length ccb,.slice gpb gsb.length gcb,.slice spb ssb.length scb,.slice opb osb.length ocb,.slice hpb hsb.length hcb,.slice tpb tsb.length tcb] 28))
 have hgV:Grew w ((w.alloc (Obj.cells #[.slice cpa csa.length cca,.slice gpa gsa.length gca,.slice spa ssa.length sca,.slice opa osa.length oca,.slice hpa hsa.length hca,.slice tpa tsa.length tca] 28)).alloc (Obj.cells #[.slice cpb csb.length ccb,.slice gpb gsb.length gcb,.slice spb ssb.length scb,.slice opb osb.length ocb,.slice hpb hsb.length hcb,.slice tpb tsb.length tcb] 28)):=((Grew.refl w).alloc _).alloc _
 rw [alloc_sz] at hb2
 try rw [alloc_sz]
 generalize ((w.alloc (Obj.cells #[.slice cpa csa.length cca,.slice gpa gsa.length gca,.slice spa ssa.length sca,.slice opa osa.length oca,.slice hpa hsa.length hca,.slice tpa tsa.length tca] 28)).alloc (Obj.cells #[.slice cpb csb.length ccb,.slice gpb gsb.length gcb,.slice spb ssb.length scb,.slice opb osb.length ocb,.slice hpb hsb.length hcb,.slice tpb tsb.length tcb] 28))=V at hb2 hb3 hgV ⊢
 generalize w.heap.size+1=U at hb2 ⊢
 generalize w.heap.size=T at hb3 ⊢
 have HGV:=zh hgV
 have d0:Atv ⟨T,0,none⟩ (.slice cpa csa.length cca) V:=hb3.atv 0 rfl
 have d1:Atv ⟨T,1,none⟩ (.slice gpa gsa.length gca) V:=hb3.atv 1 rfl
 have d2:Atv ⟨T,2,none⟩ (.slice spa ssa.length sca) V:=hb3.atv 2 rfl
 have d3:Atv ⟨T,3,none⟩ (.slice opa osa.length oca) V:=hb3.atv 3 rfl
 have d4:Atv ⟨T,4,none⟩ (.slice hpa hsa.length hca) V:=hb3.atv 4 rfl
 have d5:Atv ⟨T,5,none⟩ (.slice tpa tsa.length tca) V:=hb3.atv 5 rfl
 have e0:Atv ⟨U,0,none⟩ (.slice cpb csb.length ccb) V:=hb2.atv 0 rfl
 have e1:Atv ⟨U,1,none⟩ (.slice gpb gsb.length gcb) V:=hb2.atv 1 rfl
 have e2:Atv ⟨U,2,none⟩ (.slice spb ssb.length scb) V:=hb2.atv 2 rfl
 have e3:Atv ⟨U,3,none⟩ (.slice opb osb.length ocb) V:=hb2.atv 3 rfl
 have e4:Atv ⟨U,4,none⟩ (.slice hpb hsb.length hcb) V:=hb2.atv 4 rfl
 have e5:Atv ⟨U,5,none⟩ (.slice tpb tsb.length tcb) V:=hb2.atv 5 rfl
 clear hb1 hb2 hb3 hgV
 refine wp_postsL [some 5,some 6,some 7,some 8,some 9,some 10,some 11,some 12,some 13,some 14,some 15,some 16,some 17,some 18,some 19,some 20,some 21,some 22,some 23,some 24,some 25,some 26,some 27,some 28,some 29,some 30,some 31,some 32,some 33,some 34,some 35,some 36,some 37,some 38,some 39,some 40,some 41,some 42,some 43,some 44,some 4] zD1 [fun v _=>v=.pointer (some ⟨T,0,none⟩),fun v _=>v=.slice cpa (csa.length) (cca),fun v _=>v=.pointer (some ⟨U,0,none⟩),fun v _=>v=.slice cpb (csb.length) (ccb),fun v _=>v=.bool (eqL eqCn csa csb),fun v _=>v=.bool (eqL eqCn csa csb),fun v _=>Zg ((eqL eqCn csa csb)=true) (.pointer (some ⟨T,1,none⟩)) v,fun v _=>Zg ((eqL eqCn csa csb)=true) (.slice gpa (gsa.length) (gca)) v,fun v _=>Zg ((eqL eqCn csa csb)=true) (.pointer (some ⟨U,1,none⟩)) v,fun v _=>Zg ((eqL eqCn csa csb)=true) (.slice gpb (gsb.length) (gcb)) v,fun v _=>Zg ((eqL eqCn csa csb)=true) (.bool (eqL eqGl gsa gsb)) v,fun v _=>v=.bool ((eqL eqCn csa csb)&&(eqL eqGl gsa gsb)),fun v _=>v=.bool ((eqL eqCn csa csb)&&(eqL eqGl gsa gsb)),fun v _=>Zg (((eqL eqCn csa csb)&&(eqL eqGl gsa gsb))=true) (.pointer (some ⟨T,2,none⟩)) v,fun v _=>Zg (((eqL eqCn csa csb)&&(eqL eqGl gsa gsb))=true) (.slice spa (ssa.length) (sca)) v,fun v _=>Zg (((eqL eqCn csa csb)&&(eqL eqGl gsa gsb))=true) (.pointer (some ⟨U,2,none⟩)) v,fun v _=>Zg (((eqL eqCn csa csb)&&(eqL eqGl gsa gsb))=true) (.slice spb (ssb.length) (scb)) v,fun v _=>Zg (((eqL eqCn csa csb)&&(eqL eqGl gsa gsb))=true) (.bool (decide (ssa=ssb))) v,fun v _=>v=.bool (((eqL eqCn csa csb)&&(eqL eqGl gsa gsb))&&(decide (ssa=ssb))),fun v _=>v=.bool (((eqL eqCn csa csb)&&(eqL eqGl gsa gsb))&&(decide (ssa=ssb))),fun v _=>Zg ((((eqL eqCn csa csb)&&(eqL eqGl gsa gsb))&&(decide (ssa=ssb)))=true) (.pointer (some ⟨T,3,none⟩)) v,fun v _=>Zg ((((eqL eqCn csa csb)&&(eqL eqGl gsa gsb))&&(decide (ssa=ssb)))=true) (.slice opa (osa.length) (oca)) v,fun v _=>Zg ((((eqL eqCn csa csb)&&(eqL eqGl gsa gsb))&&(decide (ssa=ssb)))=true) (.pointer (some ⟨U,3,none⟩)) v,fun v _=>Zg ((((eqL eqCn csa csb)&&(eqL eqGl gsa gsb))&&(decide (ssa=ssb)))=true) (.slice opb (osb.length) (ocb)) v,fun v _=>Zg ((((eqL eqCn csa csb)&&(eqL eqGl gsa gsb))&&(decide (ssa=ssb)))=true) (.bool (decide (osa=osb))) v,fun v _=>v=.bool ((((eqL eqCn csa csb)&&(eqL eqGl gsa gsb))&&(decide (ssa=ssb)))&&(decide (osa=osb))),fun v _=>v=.bool ((((eqL eqCn csa csb)&&(eqL eqGl gsa gsb))&&(decide (ssa=ssb)))&&(decide (osa=osb))),fun v _=>Zg (((((eqL eqCn csa csb)&&(eqL eqGl gsa gsb))&&(decide (ssa=ssb)))&&(decide (osa=osb)))=true) (.pointer (some ⟨T,4,none⟩)) v,fun v _=>Zg (((((eqL eqCn csa csb)&&(eqL eqGl gsa gsb))&&(decide (ssa=ssb)))&&(decide (osa=osb)))=true) (.slice hpa (hsa.length) (hca)) v,fun v _=>Zg (((((eqL eqCn csa csb)&&(eqL eqGl gsa gsb))&&(decide (ssa=ssb)))&&(decide (osa=osb)))=true) (.pointer (some ⟨U,4,none⟩)) v,fun v _=>Zg (((((eqL eqCn csa csb)&&(eqL eqGl gsa gsb))&&(decide (ssa=ssb)))&&(decide (osa=osb)))=true) (.slice hpb (hsb.length) (hcb)) v,fun v _=>Zg (((((eqL eqCn csa csb)&&(eqL eqGl gsa gsb))&&(decide (ssa=ssb)))&&(decide (osa=osb)))=true) (.bool (eqL eqCn hsa hsb)) v,fun v _=>v=.bool (((((eqL eqCn csa csb)&&(eqL eqGl gsa gsb))&&(decide (ssa=ssb)))&&(decide (osa=osb)))&&(eqL eqCn hsa hsb)),fun v _=>v=.bool (((((eqL eqCn csa csb)&&(eqL eqGl gsa gsb))&&(decide (ssa=ssb)))&&(decide (osa=osb)))&&(eqL eqCn hsa hsb)),fun v _=>Zg ((((((eqL eqCn csa csb)&&(eqL eqGl gsa gsb))&&(decide (ssa=ssb)))&&(decide (osa=osb)))&&(eqL eqCn hsa hsb))=true) (.pointer (some ⟨T,5,none⟩)) v,fun v _=>Zg ((((((eqL eqCn csa csb)&&(eqL eqGl gsa gsb))&&(decide (ssa=ssb)))&&(decide (osa=osb)))&&(eqL eqCn hsa hsb))=true) (.slice tpa (tsa.length) (tca)) v,fun v _=>Zg ((((((eqL eqCn csa csb)&&(eqL eqGl gsa gsb))&&(decide (ssa=ssb)))&&(decide (osa=osb)))&&(eqL eqCn hsa hsb))=true) (.pointer (some ⟨U,5,none⟩)) v,fun v _=>Zg ((((((eqL eqCn csa csb)&&(eqL eqGl gsa gsb))&&(decide (ssa=ssb)))&&(decide (osa=osb)))&&(eqL eqCn hsa hsb))=true) (.slice tpb (tsb.length) (tcb)) v,fun v _=>Zg ((((((eqL eqCn csa csb)&&(eqL eqGl gsa gsb))&&(decide (ssa=ssb)))&&(decide (osa=osb)))&&(eqL eqCn hsa hsb))=true) (.bool (eqL eqTa tsa tsb)) v,fun v _=>v=.bool ((((((eqL eqCn csa csb)&&(eqL eqGl gsa gsb))&&(decide (ssa=ssb)))&&(decide (osa=osb)))&&(eqL eqCn hsa hsb))&&(eqL eqTa tsa tsb)),fun v _=>v=.bool ((((((eqL eqCn csa csb)&&(eqL eqGl gsa gsb))&&(decide (ssa=ssb)))&&(decide (osa=osb)))&&(eqL eqCn hsa hsb))&&(eqL eqTa tsa tsb))] (by kernel_rfl) rfl ?_ ⟨?_,?_,?_,?_,?_,?_,?_,?_,?_,?_,?_,?_,?_,?_,?_,?_,?_,?_,?_,?_,?_,?_,?_,?_,?_,?_,?_,?_,?_,?_,?_,?_,?_,?_,?_,?_,?_,?_,?_,?_,?_,trivial⟩ ?_
 ·exact⟨Zi,Zi,Zi,Zi,Zi,Zi,Zi,Zi,Zi,Zi,Zi,Zi,Zi,Zi,Zi,Zi,Zi,Zi,Zi,Zi,Zi,Zi,Zi,Zi,Zi,Zi,Zi,Zi,Zi,Zi,Zi,Zi,Zi,Zi,Zi,Zi,Zi,Zi,Zi,Zi,Zi,trivial⟩
 ·intro u w hR hd;exact rn_fld_28_0 (ev rfl) Zr
 ·intro u w hR hd;exact rn_ld_22 (ev (hd.1 rfl)) (d0.kept hR) Zr
 ·intro u w hR hd;exact rn_fld_28_0 (ev rfl) Zr
 ·intro u w hR hd;exact rn_ld_22 (ev (hd.1 rfl)) (e0.kept hR) Zr
 ·intro u w hR hd;exact runs_c3 en_efC (ev (hd.1 rfl)) (ev (hd.2.1 rfl)) rfl (callp (fun _ e=>e) (HQC.out _ (HGV.out.trans hR)))
 ·intro u w hR hd;exact runs_mv (ev (hd.1 rfl)) Zr
 ·intro u w hR hd;exact⟨fun hg=>have hG:=Zh (hd.1 rfl) hg;rn_fld_28_1 (ev rfl) (Zs hG),Zn (hd.1 rfl)⟩
 ·intro u w hR hd;exact⟨fun hg=>have hG:=Zh (hd.2.1 rfl) hg;rn_ld_23 (ev ((hd.1 rfl).1 hG)) (d1.kept hR) (Zs hG),Zn (hd.2.1 rfl)⟩
 ·intro u w hR hd;exact⟨fun hg=>have hG:=Zh (hd.1 rfl) hg;rn_fld_28_1 (ev rfl) (Zs hG),Zn (hd.1 rfl)⟩
 ·intro u w hR hd;exact⟨fun hg=>have hG:=Zh (hd.2.1 rfl) hg;rn_ld_23 (ev ((hd.1 rfl).1 hG)) (e1.kept hR) (Zs hG),Zn (hd.2.1 rfl)⟩
 ·intro u w hR hd;exact⟨fun hg=>have hG:=Zh (hd.2.2.1 rfl) hg;runs_c3 en_efG (ev ((hd.1 rfl).1 hG)) (ev ((hd.2.1 rfl).1 hG)) rfl (callp (fun _ e=>⟨fun _=>e,fun hn=>absurd hG hn⟩) (HQG.out _ (HGV.out.trans hR))),Zn (hd.2.2.1 rfl)⟩
 ·intro u w hR hd;exact runs_an (ev (hd.1 rfl)) (fun hb=>ev ((hd.2.1 rfl).1 hb)) Zr
 ·intro u w hR hd;exact runs_mv (ev (hd.1 rfl)) Zr
 ·intro u w hR hd;exact⟨fun hg=>have hG:=Zh (hd.1 rfl) hg;rn_fld_28_2 (ev rfl) (Zs hG),Zn (hd.1 rfl)⟩
 ·intro u w hR hd;exact⟨fun hg=>have hG:=Zh (hd.2.1 rfl) hg;rn_ld_24 (ev ((hd.1 rfl).1 hG)) (d2.kept hR) (Zs hG),Zn (hd.2.1 rfl)⟩
 ·intro u w hR hd;exact⟨fun hg=>have hG:=Zh (hd.1 rfl) hg;rn_fld_28_2 (ev rfl) (Zs hG),Zn (hd.1 rfl)⟩
 ·intro u w hR hd;exact⟨fun hg=>have hG:=Zh (hd.2.1 rfl) hg;rn_ld_24 (ev ((hd.1 rfl).1 hG)) (e2.kept hR) (Zs hG),Zn (hd.2.1 rfl)⟩
 ·intro u w hR hd;exact⟨fun hg=>have hG:=Zh (hd.2.2.1 rfl) hg;runs_c2 en_sl (ev ((hd.1 rfl).1 hG)) (ev ((hd.2.1 rfl).1 hG)) (callp (fun _ e=>⟨fun _=>e,fun hn=>absurd hG hn⟩) (HQS.out _ (HGV.out.trans hR))),Zn (hd.2.2.1 rfl)⟩
 ·intro u w hR hd;exact runs_an (ev (hd.1 rfl)) (fun hb=>ev ((hd.2.1 rfl).1 hb)) Zr
 ·intro u w hR hd;exact runs_mv (ev (hd.1 rfl)) Zr
 ·intro u w hR hd;exact⟨fun hg=>have hG:=Zh (hd.1 rfl) hg;rn_fld_28_3 (ev rfl) (Zs hG),Zn (hd.1 rfl)⟩
 ·intro u w hR hd;exact⟨fun hg=>have hG:=Zh (hd.2.1 rfl) hg;rn_ld_24 (ev ((hd.1 rfl).1 hG)) (d3.kept hR) (Zs hG),Zn (hd.2.1 rfl)⟩
 ·intro u w hR hd;exact⟨fun hg=>have hG:=Zh (hd.1 rfl) hg;rn_fld_28_3 (ev rfl) (Zs hG),Zn (hd.1 rfl)⟩
 ·intro u w hR hd;exact⟨fun hg=>have hG:=Zh (hd.2.1 rfl) hg;rn_ld_24 (ev ((hd.1 rfl).1 hG)) (e3.kept hR) (Zs hG),Zn (hd.2.1 rfl)⟩
 ·intro u w hR hd;exact⟨fun hg=>have hG:=Zh (hd.2.2.1 rfl) hg;runs_c2 en_sl (ev ((hd.1 rfl).1 hG)) (ev ((hd.2.1 rfl).1 hG)) (callp (fun _ e=>⟨fun _=>e,fun hn=>absurd hG hn⟩) (HQO.out _ (HGV.out.trans hR))),Zn (hd.2.2.1 rfl)⟩
 ·intro u w hR hd;exact runs_an (ev (hd.1 rfl)) (fun hb=>ev ((hd.2.1 rfl).1 hb)) Zr
 ·intro u w hR hd;exact runs_mv (ev (hd.1 rfl)) Zr
 ·intro u w hR hd;exact⟨fun hg=>have hG:=Zh (hd.1 rfl) hg;rn_fld_28_4 (ev rfl) (Zs hG),Zn (hd.1 rfl)⟩
 ·intro u w hR hd;exact⟨fun hg=>have hG:=Zh (hd.2.1 rfl) hg;rn_ld_25 (ev ((hd.1 rfl).1 hG)) (d4.kept hR) (Zs hG),Zn (hd.2.1 rfl)⟩
 ·intro u w hR hd;exact⟨fun hg=>have hG:=Zh (hd.1 rfl) hg;rn_fld_28_4 (ev rfl) (Zs hG),Zn (hd.1 rfl)⟩
 ·intro u w hR hd;exact⟨fun hg=>have hG:=Zh (hd.2.1 rfl) hg;rn_ld_25 (ev ((hd.1 rfl).1 hG)) (e4.kept hR) (Zs hG),Zn (hd.2.1 rfl)⟩
 ·intro u w hR hd;exact⟨fun hg=>have hG:=Zh (hd.2.2.1 rfl) hg;runs_c3 en_efH (ev ((hd.1 rfl).1 hG)) (ev ((hd.2.1 rfl).1 hG)) rfl (callp (fun _ e=>⟨fun _=>e,fun hn=>absurd hG hn⟩) (HQH.out _ (HGV.out.trans hR))),Zn (hd.2.2.1 rfl)⟩
 ·intro u w hR hd;exact runs_an (ev (hd.1 rfl)) (fun hb=>ev ((hd.2.1 rfl).1 hb)) Zr
 ·intro u w hR hd;exact runs_mv (ev (hd.1 rfl)) Zr
 ·intro u w hR hd;exact⟨fun hg=>have hG:=Zh (hd.1 rfl) hg;rn_fld_28_5 (ev rfl) (Zs hG),Zn (hd.1 rfl)⟩
 ·intro u w hR hd;exact⟨fun hg=>have hG:=Zh (hd.2.1 rfl) hg;rn_ld_26 (ev ((hd.1 rfl).1 hG)) (d5.kept hR) (Zs hG),Zn (hd.2.1 rfl)⟩
 ·intro u w hR hd;exact⟨fun hg=>have hG:=Zh (hd.1 rfl) hg;rn_fld_28_5 (ev rfl) (Zs hG),Zn (hd.1 rfl)⟩
 ·intro u w hR hd;exact⟨fun hg=>have hG:=Zh (hd.2.1 rfl) hg;rn_ld_26 (ev ((hd.1 rfl).1 hG)) (e5.kept hR) (Zs hG),Zn (hd.2.1 rfl)⟩
 ·intro u w hR hd;exact⟨fun hg=>have hG:=Zh (hd.2.2.1 rfl) hg;runs_c3 en_efT (ev ((hd.1 rfl).1 hG)) (ev ((hd.2.1 rfl).1 hG)) rfl (callp (fun _ e=>⟨fun _=>e,fun hn=>absurd hG hn⟩) (HQT.out _ (HGV.out.trans hR))),Zn (hd.2.2.1 rfl)⟩
 ·intro u w hR hd;exact runs_an (ev (hd.1 rfl)) (fun hb=>ev ((hd.2.1 rfl).1 hb)) Zr
 ·intro u w hR hd;exact runs_mva (ev (hd.1 rfl)) Zr
 ·intro u w4 hR hh
  have he:u 4=.bool ((((((eqL eqCn csa csb)&&(eqL eqGl gsa gsb))&&(decide (ssa=ssb)))&&(decide (osa=osb)))&&(eqL eqCn hsa hsb))&&(eqL eqTa tsa tsb)):=hh 40 (by decide)
  rw [HEQ.out] at he
  simp only [mixA,mixL,zz9,zz0,he]
  have HG4:Hid (Grew w w4):=zh (HGV.out.trans hR)
  clear hh he hR d0 d1 d2 d3 d4 d5 e0 e1 e2 e3 e4 e5 HGV
  go_wp2
  go_ret
  exact⟨rfl,HG4.out⟩
open Go.Lib (decDigits)
theorem stXs_len':∀l:List Xp,(stXs l).length=l.length
 | []=>by rw [stXs]
 | x :: l=>by rw [stXs,List.length_cons,List.length_cons,stXs_len' l]
theorem eqH_iff (k k' v v' o o':Int) (s s':ByteArray) (n n':Nat):eqH k s v o n k' s' v' o' n'=true↔k=k'∧s=s'∧v=v'∧o=o'∧n=n':=by
 rw [eqH,Bool.not_eq_true']
 simp only [Bool.or_eq_false_iff,bne_eq_false_iff_eq,Bool.not_eq_false',decide_eq_true_eq,Int.natCast_inj,and_assoc]
theorem eqHS_iff (k k' n n':Int) (s s':ByteArray) (l l':Nat) (m1 m2:Bool):eqHS k s n l k' s' n' l' m1 m2=true↔k=k'∧s=s'∧n=n'∧l=l'∧m1=true∧m2=true:=by
 rw [eqHS,Bool.not_eq_true']
 simp only [Bool.or_eq_false_iff,bne_eq_false_iff_eq,Bool.not_eq_false',decide_eq_true_eq,Int.natCast_inj,and_assoc]
mutual
theorem eqX_st:∀x y:Xp,eqX x y=true↔stX x=stX y
 | ⟨k,s,v,o,ar,q⟩,⟨k',s',v',o',ar',q'⟩=>by
   rw [eqX,Bool.and_eq_true,eqH_iff,stX,stX,Xp.mk.injEq]
   constructor
   ·rintro ⟨⟨h1,h2,h3,h4,h5⟩,h6⟩
    exact⟨h1,h2,h3,h4,(eqXs_st ar ar' h5).1 h6,rfl⟩
   ·rintro ⟨h1,h2,h3,h4,h5,_⟩
    have hl:=congrArg List.length h5
    rw [stXs_len',stXs_len'] at hl
    exact⟨⟨h1,h2,h3,h4,hl⟩,(eqXs_st ar ar' hl).2 h5⟩
theorem eqXs_st:∀l m:List Xp,l.length=m.length→(eqXs l m=true↔stXs l=stXs m)
 | [],[],_=>by rw [eqXs_nil];exact⟨fun _=>rfl,fun _=>rfl⟩
 | [],_ :: _,h=>by cases h
 | _ :: _,[],h=>by cases h
 | x :: l,y :: m,h=>by
   rw [eqXs,Bool.and_eq_true,eqX_st x y,eqXs_st l m (by simpa using h),stXs,stXs,List.cons.injEq]
end
mutual
theorem eqS_st:∀x y:Sm,eqS x y=true↔stS x=stS y
 | ⟨k,s,n,ar,b,e,q⟩,⟨k',s',n',ar',b',e',q'⟩=>by
   rw [eqS,Bool.and_eq_true,eqHS_iff,stS,stS,Sm.mk.injEq,Bool.and_eq_true,Bool.and_eq_true,decide_eq_true_eq,decide_eq_true_eq]
   constructor
   ·rintro ⟨⟨h1,h2,h3,h4,⟨h5,h6⟩,h7,h8⟩,h9⟩
    exact⟨h1,h2,h3,(eqXs_st ar ar' h4).1 h9,(eqSz_st b b' h5).1 h6,(eqSz_st e e' h7).1 h8,rfl⟩
   ·rintro ⟨h1,h2,h3,h4,h5,h6,_⟩
    have l1:=congrArg List.length h4
    have l2:=congrArg List.length h5
    have l3:=congrArg List.length h6
    rw [stXs_len',stXs_len'] at l1
    rw [stSs_len,stSs_len] at l2 l3
    exact⟨⟨h1,h2,h3,l1,⟨l2,(eqSz_st b b' l2).2 h5⟩,l3,(eqSz_st e e' l3).2 h6⟩,(eqXs_st ar ar' l1).2 h4⟩
theorem eqSz_st:∀l m:List Sm,l.length=m.length→(eqSz l m=true↔stSs l=stSs m)
 | [],[],_=>by rw [eqSz_nil];exact⟨fun _=>rfl,fun _=>rfl⟩
 | [],_ :: _,h=>by cases h
 | _ :: _,[],h=>by cases h
 | x :: l,y :: m,h=>by
   rw [eqSz,Bool.and_eq_true,eqS_st x y,eqSz_st l m (by simpa using h),stSs,stSs,List.cons.injEq]
end
theorem all2_map {α β:Type}{R:α→α→Bool}{f:α→β}(h:∀x y,R x y=true↔f x=f y):∀a b:List α,a.length=b.length→(all2 R a b=true↔a.map f=b.map f)
 | [],[],_=>⟨fun _=>rfl,fun _=>rfl⟩
 | [],_ :: _,h=>by cases h
 | _ :: _,[],h=>by cases h
 | x :: a,y :: b,hl=>by rw [all2,Bool.and_eq_true,h x y,all2_map h a b (by simpa using hl),List.map_cons,List.map_cons,List.cons.injEq]
theorem eqL_map {α β:Type}{R:α→α→Bool}{f:α→β}(h:∀x y,R x y=true↔f x=f y) (a b:List α):eqL R a b=true↔a.map f=b.map f:=by
 rw [eqL,Bool.and_eq_true,decide_eq_true_eq]
 constructor
 ·rintro ⟨h1,h2⟩
  exact(all2_map h a b h1).1 h2
 ·intro h1
  have hl:=congrArg List.length h1
  rw [List.length_map,List.length_map] at hl
  exact⟨hl,(all2_map h a b hl).2 h1⟩
theorem eqCn_st (x y:Cn):eqCn x y=true↔stCn x=stCn y:=by
 rw [eqCn,Bool.and_eq_true,decide_eq_true_eq,beq_iff_eq,stCn,stCn,Cn.mk.injEq]
 exact⟨fun h=>⟨h.1,h.2,rfl⟩,fun h=>⟨h.1,h.2.1⟩⟩
theorem eqGl_st (x y:Gl):eqGl x y=true↔stGl x=stGl y:=by
 rw [eqGl,Bool.and_eq_true,Bool.and_eq_true,decide_eq_true_eq,beq_iff_eq,beq_iff_eq,stGl,stGl,Gl.mk.injEq]
 exact⟨fun h=>⟨h.1.1,h.1.2,h.2,rfl⟩,fun h=>⟨⟨h.1,h.2.1⟩,h.2.2.1⟩⟩
theorem eqSs_st (a b:List Sm):eqL eqS a b=true↔stSs a=stSs b:=by
 rw [← eqSs_eqL,eqSs,Bool.and_eq_true,decide_eq_true_eq]
 constructor
 ·rintro ⟨h1,h2⟩
  exact(eqSz_st a b h1).1 h2
 ·intro h1
  have hl:=congrArg List.length h1
  rw [stSs_len,stSs_len] at hl
  exact⟨hl,(eqSz_st a b hl).2 h1⟩
theorem eqTa_st (x y:Ta):eqTa x y=true↔stTa x=stTa y:=by
 rw [eqTa]
 simp only [Bool.and_eq_true,decide_eq_true_eq,beq_iff_eq]
 rw [eqSs_st,stTa,stTa,Ta.mk.injEq]
 exact⟨fun⟨⟨⟨⟨⟨⟨h1,h2⟩,h3⟩,h4⟩,h5⟩,h6⟩,h7⟩=>⟨h1,h2,h3,h4,h5,h6,h7,rfl⟩,fun⟨h1,h2,h3,h4,h5,h6,h7,_⟩=>⟨⟨⟨⟨⟨⟨h1,h2⟩,h3⟩,h4⟩,h5⟩,h6⟩,h7⟩⟩
theorem eqPg_maps (P Q:Pg):eqPg P Q=true↔P.cs.map stCn=Q.cs.map stCn∧P.gs.map stGl=Q.gs.map stGl∧P.ss=Q.ss∧P.os=Q.os∧P.hs.map stCn=Q.hs.map stCn∧P.ts.map stTa=Q.ts.map stTa:=by
 rw [eqPg]
 simp only [Bool.and_eq_true,decide_eq_true_eq]
 rw [eqL_map eqCn_st,eqL_map eqGl_st,eqL_map eqCn_st,eqL_map eqTa_st]
 exact⟨fun⟨⟨⟨⟨⟨h1,h2⟩,h3⟩,h4⟩,h5⟩,h6⟩=>⟨h1,h2,h3,h4,h5,h6⟩,fun⟨h1,h2,h3,h4,h5,h6⟩=>⟨⟨⟨⟨⟨h1,h2⟩,h3⟩,h4⟩,h5⟩,h6⟩⟩
theorem dcls_st (P:Pg):(dcls P).map stD=P.cs.map (fun x=>.c (stCn x))++(P.gs.map (fun x=>.g (stGl x))++(P.ss.map .s++(P.os.map .o++(P.hs.map (fun x=>.h (stCn x))++P.ts.map (fun x=>.t (stTa x)))))):=by
 simp only [dcls,List.map_append,List.map_map]
 rfl
theorem stX_ko:∀x:Xp,(stX x).k=x.k∧(stX x).o=x.o
 | ⟨_,_,_,_,_,_⟩=>by rw [stX];exact⟨rfl,rfl⟩
theorem stXs_ko:∀l:List Xp,(stXs l).map (fun a=>(a.k,a.o))=l.map (fun a=>(a.k,a.o))
 | []=>by rw [stXs]
 | x :: l=>by rw [stXs,List.map_cons,List.map_cons,stXs_ko l,(stX_ko x).1,(stX_ko x).2]
mutual
theorem txX_st:∀x:Xp,txX (stX x)=txX x
 | ⟨k,s,v,o,ar,q⟩=>by rw [stX,txX,txX,stXs_ko ar,txXs_st ar]
theorem txXs_st:∀l:List Xp,txXs (stXs l)=txXs l
 | []=>by rw [stXs]
 | x :: l=>by rw [stXs,txXs,txXs,txX_st x,txXs_st l]
end
theorem agT_st (l:List Xp) (i:Nat):agT (stXs l) i=agT l i:=by rw [agT,agT,txXs_st]
theorem stS_k:∀x:Sm,(stS x).k=x.k
 | ⟨_,_,_,_,_,_,_⟩=>by rw [stS];rfl
mutual
theorem linS_st:∀(x:Sm) (i:List UInt8),linS (stS x) i=linS x i
 | ⟨k,s,n,ar,b,e,q⟩,i=>by rw [stS,linS,linS,agT_st,agT_st,linL_st b,elsT_st e]
theorem linL_st:∀(l:List Sm) (i:List UInt8),linL (stSs l) i=linL l i
 | [],i=>by rw [stSs]
 | x :: l,i=>by rw [stSs,linL,linL,linS_st x,linL_st l]
theorem elsT_st:∀(e:List Sm) (i:List UInt8),elsT (stSs e) i=elsT e i
 | [],i=>by rw [stSs]
 | [x],i=>by rw [stSs,stSs,elsT,elsT,stS_k x,linS_st x,linS_st x]
 | x :: y :: r,i=>by rw [stSs,stSs,elsT,elsT,linS_st x,linS_st y,linL_st r]
end
theorem dcT_st:∀d:Dc,dcT (stD d)=dcT d
 | .c _=>rfl
 | .g _=>rfl
 | .s _=>rfl
 | .o _=>rfl
 | .h _=>rfl
 | .t x=>by
   show tskF (tskH x) (linL (stSs x.b) [32,32,32,32]) x.d=tskF (tskH x) (linL x.b [32,32,32,32]) x.d
   rw [linL_st]
theorem dcTs_st:∀l:List Dc,(l.map stD).flatMap dcT=l.flatMap dcT
 | []=>rfl
 | d :: l=>by rw [List.map_cons,List.flatMap_cons,List.flatMap_cons,dcT_st,dcTs_st l]
end Go.Proofs.YtcknpcbkofgdoaaGreatDoor
