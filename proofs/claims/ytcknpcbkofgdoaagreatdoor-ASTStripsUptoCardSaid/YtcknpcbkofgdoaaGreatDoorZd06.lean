/-
  LAYER 16 (ast), THE PROGRAM: total and greatest.
  LAYER 16 (ast), THE PROGRAM: Size, Depth.
  strings.Builder, MADE AND WRITTEN BY ONE CALL (any program): in a block of its own, or at the head of a struct of the call's own.
  (*strings.Builder).String of a builder that lies at the head of a struct of the call's own (layer 16: printer).
  LAYER 16 (ast), THE PROGRAM: what writeExpr does to a builder; level, leastLeft, writeOperand.
  LAYER 16 (ast), THE PROGRAM: equalConst, equalGlobal, equalChannel, EqualExpr.
  LAYER 16 (ast), THE PROGRAM: slices.EqualFunc.
-/
import Derived.Test.YtcknpcbkofgdoaaGreatDoorZdShort
import Derived.Test.YtcknpcbkofgdoaaGreatDoorZd05
import Derived.Test.YtcknpcbkofgdoaaGreatDoorZd01
import Derived.Test.YtcknpcbkofgdoaaGreatDoorZd00
import Derived.Deep.LoopGhost
import Derived.Deep.Cut
import Derived.Shelf.Abstract
import Derived.Test.YtcknpcbkofgdoaaGreatDoorZd03
import Derived.Lib.Builder
import Derived.Lib.FrozenHead
import Derived.Lib.OthersKept
import Derived.Lib.BufferKept
import Derived.Lib.UnsafeStr
import Derived.Shelf.RegionOpenPlain
namespace Go.Proofs.YtcknpcbkofgdoaaGreatDoor
open Go Go.RowKit Go.IntWalk
set_option linter.unusedSimpArgs false
set_option linter.unusedVariables false
set_option maxRecDepth 8000
def sumF {α:Type}(F:α→Nat) (l:List α):Nat:=(l.map F).sum
def maxF {α:Type}(F:α→Nat) (l:List α):Nat:=l.foldr (fun x m=>max (F x) m) 0
section
variable {α:Type}{F:α→Nat}
theorem sumF_cons (x:α) (l:List α):sumF F (x :: l)=F x+sumF F l:=by rw [sumF,List.map_cons,List.sum_cons];rfl
theorem maxF_cons (x:α) (l:List α):maxF F (x :: l)=max (F x) (maxF F l):=rfl
theorem sumF_append (a b:List α):sumF F (a++b)=sumF F a+sumF F b:=by
 induction a with
 | nil=>simp [sumF]
 | cons x a ih=>rw [List.cons_append,sumF_cons,sumF_cons,ih,Nat.add_assoc]
theorem maxF_append (a b:List α):maxF F (a++b)=max (maxF F a) (maxF F b):=by
 induction a with
 | nil=>rw [List.nil_append];show _=max 0 _;rw [Nat.zero_max]
 | cons x a ih=>rw [List.cons_append,maxF_cons,maxF_cons,ih,Nat.max_assoc]
theorem sumF_snoc {l:List α}{j:Nat}{x:α}(h:l.take (j+1)=l.take j++[x]):sumF F (l.take (j+1))=sumF F (l.take j)+F x:=by
 rw [h,sumF_append,sumF_cons];rfl
theorem maxF_snoc {l:List α}{j:Nat}{x:α}(h:l.take (j+1)=l.take j++[x]):maxF F (l.take (j+1))=max (maxF F (l.take j)) (F x):=by
 rw [h,maxF_append,maxF_cons];show max _ (max _ 0)=_;rw [Nat.max_zero]
theorem sumF_take (l:List α) (n:Nat):sumF F (l.take n)≤sumF F l:=by
 have h:=sumF_append (F:=F) (l.take n) (l.drop n)
 rw [List.take_append_drop] at h
 omega
theorem maxF_le {l:List α}{B:Nat}(h:∀x ∈ l,F x≤B):maxF F l≤B:=by
 induction l with
 | nil=>exact Nat.zero_le _
 | cons x l ih =>
   have h1:=h x (List.mem_cons_self ..)
   have h2:=ih fun y hy=>h y (List.mem_cons_of_mem _ hy)
   rw [maxF_cons]
   omega
end
theorem nXs_sum:∀l:List Xp,nXs l=sumF nX l
 | []=>rfl
 | x :: l=>by rw [nXs,sumF_cons,nXs_sum l]
def zSm (x:Sm):Nat:=nS x+mS x
theorem zS_sum:∀l:List Sm,nSs l+mSs l=sumF zSm l
 | []=>rfl
 | x :: l=>by rw [nSs,mSs,sumF_cons,← zS_sum l,zSm];omega
theorem zT_sum:∀l:List Ta,zT l=sumF (fun t=>nSs t.b+mSs t.b) l
 | []=>rfl
 | x :: l=>by rw [zT,sumF_cons,zT_sum l]
theorem dXs_max:∀l:List Xp,dXs l=maxF dX l
 | []=>rfl
 | x :: l=>by rw [dXs,maxF_cons,dXs_max l]
theorem dSs_max:∀l:List Sm,dSs l=maxF dS l
 | []=>rfl
 | x :: l=>by rw [dSs,maxF_cons,dSs_max l]
theorem dT_max:∀l:List Ta,dT l=maxF (fun t=>dSs t.b) l
 | []=>rfl
 | x :: l=>by rw [dT,maxF_cons,dT_max l]
theorem runs_max3 {dst:Option Tmp}{pos:String}{after:Array Edge}{g:Option (Nat × Bool)}{a:Act}{w:World}{T:Value→World→Prop}{x y z:Operand}{b c d:Nat}(hx:a.eval x=.int .i64 (b:Int)) (hy:a.eval y=.int .i64 (c:Int)) (hz:a.eval z=.int .i64 (d:Int)) (h:T (.int .i64 ((max (max b c) d:Nat):Int)) w):Runs Tryz.prog ⟨dst,.call { callee:=.builtin .max,args:=#[x,y,z],argTypes:=#[3,3,3] },3,pos,after,g⟩ a w T:=by
 refine Runs.value (v:=.int .i64 ((max (max b c) d:Nat):Int)) (w':=w) ?_ h
 simp only [execOp,resolve,invoke,builtin]
 by_cases h1:b < c
 ·have e1:max b c=c:=by omega
  have h2:(b:Int) < (c:Int):=by omega
  rw [e1]
  by_cases h3:c < d
  ·have e2:max c d=d:=by omega
   have h4:(c:Int) < (d:Int):=by omega
   rw [e2]
   simp [hx,hy,hz,Result.andThen]
   go_simp
  ·have e2:max c d=c:=by omega
   have h4:¬ (c:Int) < (d:Int):=by omega
   rw [e2]
   simp [hx,hy,hz,Result.andThen]
   go_simp
 ·have e1:max b c=b:=by omega
  have h2:¬ (b:Int) < (c:Int):=by omega
  rw [e1]
  by_cases h3:b < d
  ·have e2:max b d=d:=by omega
   have h4:(b:Int) < (d:Int):=by omega
   rw [e2]
   simp [hx,hy,hz,Result.andThen]
   go_simp
  ·have e2:max b d=b:=by omega
   have h4:¬ (b:Int) < (d:Int):=by omega
   rw [e2]
   simp [hx,hy,hz,Result.andThen]
   go_simp
theorem en_ss:Enters Tryz.prog 84:=fun args w=>by go_simp
theorem en_xs:Enters Tryz.prog 122:=fun args w=>by go_simp
theorem en_ts:Enters Tryz.prog 82:=fun args w=>by go_simp
theorem en_sd:Enters Tryz.prog 88:=fun args w=>by go_simp
theorem en_xd:Enters Tryz.prog 124:=fun args w=>by go_simp
theorem en_td:Enters Tryz.prog 86:=fun args w=>by go_simp
theorem en_toX:Enters Tryz.prog 121:=fun args w=>by go_simp
theorem en_toS:Enters Tryz.prog 83:=fun args w=>by go_simp
theorem en_grX:Enters Tryz.prog 123:=fun args w=>by go_simp
theorem en_grS:Enters Tryz.prog 87:=fun args w=>by go_simp
set_option maxHeartbeats 8000000 in
theorem totalX_any (g:FuncId) (cb:Array Value) (eg:∀args w,(callFunc g args).run Tryz.prog w=.ok (.enter g args) w) (l:List Xp) (F:Xp→Nat) (B:Nat→Prop) (w:World) (p:Option Addr) (c:Nat) (hx:XL B w p c l) (hB:sumF F l≤4194304)
 (hf:∀x ∈ l,∀(p_:Option Addr) (c_:Nat) (W:World),XL B W p_ c_ x.ar→x.s.size≤1048576∧x.v≤32767→Grew w W→Calls Tryz.prog g (#[xv x.k x.s x.v x.o p_ x.ar.length c_ x.q]++cb) W fun e w'=>e=.returned (.int .i64 (F x:Nat))∧Grew W w') :
 Calls Tryz.prog 121 #[.slice p l.length c,.func (.func g) #[] cb] w fun e w'=>e=.returned (.int .i64 (sumF F l:Nat))∧Grew w w':=by
 have HX:=zh hx
 have HF:=zh hf
 have HB:=zh hB
 have hcap:l.length≤c:=hx.cap.1
 have hmax:=hx.cap.2.1
 clear hx hf hB
 go_enter Tryz.func121,Tryz.ntmps121
 go_wp2
 go_loopg [5,7,10] l.length (fun gg sv_ xv_ iv wr=>∃(j s:Nat),sv_=.int .i64 (s:Int)∧iv=.int .i64 (j:Int)∧j≤l.length∧gg=l.length - j∧Hid (s=sumF F (l.take j))∧Hid (Grew w wr))
 case atStart=>exact⟨0,0,rfl,rfl,Nat.zero_le _,rfl,zh rfl,zh (Grew.refl _)⟩
 case round =>
  obtain ⟨j,s,rfl,rfl,hj,rfl,HS,HG⟩:=hrel
  by_cases hlt:j < l.length
  ·
   obtain ⟨bz,oz,pz,cz,rfl,hbz,haz,hcz⟩:=HX.out.get j hlt
   have hmz:=List.getElem_mem hlt
   have hnz:=nXs_mem hmz
   have htz:=List.take_succ_eq_append_getElem hlt
   have HLz:=zh (Nat.succ_le_of_lt hlt)
   generalize l[j]=xz at *
   obtain ⟨kz,sz,vz,o_z,rz,qz⟩:=xz
   replace hbz:sz.size≤1048576∧vz≤32767:=hbz.2
   have HTz:=zh htz
   have HAz:Hid (XL B w pz cz rz):=zh haz
   have hcapz:rz.length≤cz:=haz.cap.1
   have hmaxz:=haz.cap.2.1
   replace hcz:∀i_ u_,(xdc ⟨kz,sz,vz,o_z,pz,rz.length,cz,qz⟩)[i_]?=some u_→wr.cell? ⟨bz,oz+j * 6+i_,none⟩=some u_:=fun i_ u_ h_=>Atv.kept (hcz i_ u_ h_) HG.out
   have cz0:wr.cell? ⟨bz,oz+j * 6,none⟩=some (.int .i64 kz):=by simpa using hcz 0 _ rfl
   have cz1:wr.cell? ⟨bz,oz+j * 6+1,none⟩=some (.string sz):=hcz 1 _ rfl
   have cz2:wr.cell? ⟨bz,oz+j * 6+2,none⟩=some (.int .i16 vz):=hcz 2 _ rfl
   have cz3:wr.cell? ⟨bz,oz+j * 6+3,none⟩=some (.int .i64 o_z):=hcz 3 _ rfl
   have cz4:wr.cell? ⟨bz,oz+j * 6+4,none⟩=some (.slice pz rz.length cz):=hcz 4 _ rfl
   have cz5:wr.cell? ⟨bz,oz+j * 6+5,none⟩=some (.int .i64 qz):=hcz 5 _ rfl
   clear hcz haz htz
   obtain ⟨d,hd⟩:∃d,F ⟨kz,sz,vz,o_z,rz,qz⟩=d:=⟨_,rfl⟩
   have HD:=zh hd
   have HC:=zh (fun W (hW:Grew w W)=>(show Calls Tryz.prog g (#[xv kz sz vz o_z pz rz.length cz qz]++cb) W fun e w'=>e=.returned (.int .i64 (d:Nat))∧Grew W w' from hd ▸ HF.out ⟨kz,sz,vz,o_z,rz,qz⟩ hmz pz cz _ (HAz.out.kept hW) hbz hW))
   have hsd:s≤4194304∧d≤4194304:=by have h1:=sumF_take (F:=F) l (j+1);rw [sumF_snoc HTz.out,← HS.out,hd] at h1;have:=HB.out;omega
   obtain ⟨hs1,hd1⟩:=hsd
   clear hmz hd HF HB
   go_wp2_with (go_at_fn g;refine(HC.out _ (HG.out.alloc _)).mono ?_;rintro e w1 ⟨rfl,g1⟩;have HG1:=zh ((HG.out.alloc _).trans g1);clear g1)
   all_goals
    go_roundg (l.length - (j+1))
    case measure=>have:=HLz.out;omega
    case rel=>exact⟨j+1,_,by go_num,by go_num,HLz.out,rfl,zh (by rw [sumF_snoc HTz.out,← HS.out,HD.out]),HG1⟩
  ·obtain rfl:j=l.length:=by omega
   rw [List.take_length] at HS
   go_wp2
   go_ret
   exact⟨congrArg (fun z:Nat=>Ending.returned (.int .i64 (z:Int))) HS.out,HG.out⟩
set_option maxHeartbeats 8000000 in
theorem greatX_any (g:FuncId) (cb:Array Value) (eg:∀args w,(callFunc g args).run Tryz.prog w=.ok (.enter g args) w) (l:List Xp) (F:Xp→Nat) (B:Nat→Prop) (w:World) (p:Option Addr) (c:Nat) (hx:XL B w p c l) (hB:∀x ∈ l,F x≤4194304)
 (hf:∀x ∈ l,∀(p_:Option Addr) (c_:Nat) (W:World),XL B W p_ c_ x.ar→x.s.size≤1048576∧x.v≤32767→Grew w W→Calls Tryz.prog g (#[xv x.k x.s x.v x.o p_ x.ar.length c_ x.q]++cb) W fun e w'=>e=.returned (.int .i64 (F x:Nat))∧Grew W w') :
 Calls Tryz.prog 123 #[.slice p l.length c,.func (.func g) #[] cb] w fun e w'=>e=.returned (.int .i64 (maxF F l:Nat))∧Grew w w':=by
 have HX:=zh hx
 have HF:=zh hf
 have HB:=zh hB
 have hcap:l.length≤c:=hx.cap.1
 have hmax:=hx.cap.2.1
 clear hx hf hB
 go_enter Tryz.func123,Tryz.ntmps123
 go_wp2
 go_loopg [5,7,10] l.length (fun gg sv_ xv_ iv wr=>∃(j s:Nat),sv_=.int .i64 (s:Int)∧iv=.int .i64 (j:Int)∧j≤l.length∧gg=l.length - j∧Hid (s=maxF F (l.take j))∧Hid (Grew w wr))
 case atStart=>exact⟨0,0,rfl,rfl,Nat.zero_le _,rfl,zh rfl,zh (Grew.refl _)⟩
 case round =>
  obtain ⟨j,s,rfl,rfl,hj,rfl,HS,HG⟩:=hrel
  by_cases hlt:j < l.length
  ·
   obtain ⟨bz,oz,pz,cz,rfl,hbz,haz,hcz⟩:=HX.out.get j hlt
   have hmz:=List.getElem_mem hlt
   have hnz:=nXs_mem hmz
   have htz:=List.take_succ_eq_append_getElem hlt
   have HLz:=zh (Nat.succ_le_of_lt hlt)
   generalize l[j]=xz at *
   obtain ⟨kz,sz,vz,o_z,rz,qz⟩:=xz
   replace hbz:sz.size≤1048576∧vz≤32767:=hbz.2
   have HTz:=zh htz
   have HAz:Hid (XL B w pz cz rz):=zh haz
   have hcapz:rz.length≤cz:=haz.cap.1
   have hmaxz:=haz.cap.2.1
   replace hcz:∀i_ u_,(xdc ⟨kz,sz,vz,o_z,pz,rz.length,cz,qz⟩)[i_]?=some u_→wr.cell? ⟨bz,oz+j * 6+i_,none⟩=some u_:=fun i_ u_ h_=>Atv.kept (hcz i_ u_ h_) HG.out
   have cz0:wr.cell? ⟨bz,oz+j * 6,none⟩=some (.int .i64 kz):=by simpa using hcz 0 _ rfl
   have cz1:wr.cell? ⟨bz,oz+j * 6+1,none⟩=some (.string sz):=hcz 1 _ rfl
   have cz2:wr.cell? ⟨bz,oz+j * 6+2,none⟩=some (.int .i16 vz):=hcz 2 _ rfl
   have cz3:wr.cell? ⟨bz,oz+j * 6+3,none⟩=some (.int .i64 o_z):=hcz 3 _ rfl
   have cz4:wr.cell? ⟨bz,oz+j * 6+4,none⟩=some (.slice pz rz.length cz):=hcz 4 _ rfl
   have cz5:wr.cell? ⟨bz,oz+j * 6+5,none⟩=some (.int .i64 qz):=hcz 5 _ rfl
   clear hcz haz htz
   obtain ⟨d,hd⟩:∃d,F ⟨kz,sz,vz,o_z,rz,qz⟩=d:=⟨_,rfl⟩
   have HD:=zh hd
   have HC:=zh (fun W (hW:Grew w W)=>(show Calls Tryz.prog g (#[xv kz sz vz o_z pz rz.length cz qz]++cb) W fun e w'=>e=.returned (.int .i64 (d:Nat))∧Grew W w' from hd ▸ HF.out ⟨kz,sz,vz,o_z,rz,qz⟩ hmz pz cz _ (HAz.out.kept hW) hbz hW))
   have hsd:s≤4194304∧d≤4194304:=⟨by rw [HS.out];exact maxF_le fun x hx=>HB.out x (List.mem_of_mem_take hx),hd ▸ HB.out _ hmz⟩
   obtain ⟨hs1,hd1⟩:=hsd
   clear hmz hd HF HB
   go_wp2_with (go_at_fn g;refine(HC.out _ (HG.out.alloc _)).mono ?_;rintro e w1 ⟨rfl,g1⟩;have HG1:=zh ((HG.out.alloc _).trans g1);clear g1)
   all_goals
    go_roundg (l.length - (j+1))
    case measure=>have:=HLz.out;omega
    case rel=>exact⟨j+1,max s d,congrArg (Value.int .i64) (by omega),by go_num,HLz.out,rfl,zh (by rw [maxF_snoc HTz.out,← HS.out,HD.out]),HG1⟩
  ·obtain rfl:j=l.length:=by omega
   rw [List.take_length] at HS
   go_wp2
   go_ret
   exact⟨congrArg (fun z:Nat=>Ending.returned (.int .i64 (z:Int))) HS.out,HG.out⟩
set_option maxHeartbeats 8000000 in
theorem totalS_any (g:FuncId) (cb:Array Value) (eg:∀args w,(callFunc g args).run Tryz.prog w=.ok (.enter g args) w) (l:List Sm) (F:Sm→Nat) (B:Nat→Prop) (w:World) (p:Option Addr) (c:Nat) (hx:SL B w p c l) (hB:sumF F l≤4194304)
 (hf:∀x ∈ l,∀(pa_:Option Addr) (ca_:Nat) (pb_:Option Addr) (cb_:Nat) (pe_:Option Addr) (ce_:Nat) (W:World),XL B W pa_ ca_ x.ar→SL B W pb_ cb_ x.b→SL B W pe_ ce_ x.e→x.s.size≤1048576→Grew w W→Calls Tryz.prog g (#[sv x.k x.s x.n pa_ x.ar.length ca_ pb_ x.b.length cb_ pe_ x.e.length ce_ x.q]++cb) W fun e w'=>e=.returned (.int .i64 (F x:Nat))∧Grew W w') :
 Calls Tryz.prog 83 #[.slice p l.length c,.func (.func g) #[] cb] w fun e w'=>e=.returned (.int .i64 (sumF F l:Nat))∧Grew w w':=by
 have HX:=zh hx
 have HF:=zh hf
 have HB:=zh hB
 have hcap:l.length≤c:=hx.cap.1
 have hmax:=hx.cap.2.1
 clear hx hf hB
 go_enter Tryz.func83,Tryz.ntmps83
 go_wp2
 go_loopg [5,7,10] l.length (fun gg sv_ xv_ iv wr=>∃(j s:Nat),sv_=.int .i64 (s:Int)∧iv=.int .i64 (j:Int)∧j≤l.length∧gg=l.length - j∧Hid (s=sumF F (l.take j))∧Hid (Grew w wr))
 case atStart=>exact⟨0,0,rfl,rfl,Nat.zero_le _,rfl,zh rfl,zh (Grew.refl _)⟩
 case round =>
  obtain ⟨j,s,rfl,rfl,hj,rfl,HS,HG⟩:=hrel
  by_cases hlt:j < l.length
  ·
   obtain ⟨bz,oz,paz,caz,pbz,cbz,pez,cez,rfl,hbz,haz,hboz,helz,hcz⟩:=HX.out.get j hlt
   have hmz:=List.getElem_mem hlt
   have hnz:=nSs_mem hmz
   have htz:=List.take_succ_eq_append_getElem hlt
   have HLz:=zh (Nat.succ_le_of_lt hlt)
   generalize l[j]=xz at *
   obtain ⟨kz,sz,nz,rz,yz,ez,qz⟩:=xz
   replace hbz:sz.size≤1048576:=hbz.2
   have HTz:=zh htz
   have HAz:Hid (XL B w paz caz rz):=zh haz
   have HYz:Hid (SL B w pbz cbz yz):=zh hboz
   have HEz:Hid (SL B w pez cez ez):=zh helz
   have hcapz:rz.length≤caz∧yz.length≤cbz∧ez.length≤cez:=⟨haz.cap.1,hboz.cap.1,helz.cap.1⟩
   have hmaxz:=And.intro haz.cap.2.1 (And.intro hboz.cap.2.1 helz.cap.2.1)
   replace hcz:∀i_ u_,(sdc ⟨kz,sz,nz,paz,rz.length,caz,pbz,yz.length,cbz,pez,ez.length,cez,qz⟩)[i_]?=some u_→wr.cell? ⟨bz,oz+j * 7+i_,none⟩=some u_:=fun i_ u_ h_=>Atv.kept (hcz i_ u_ h_) HG.out
   have cz0:wr.cell? ⟨bz,oz+j * 7,none⟩=some (.int .i64 kz):=by simpa using hcz 0 _ rfl
   have cz1:wr.cell? ⟨bz,oz+j * 7+1,none⟩=some (.string sz):=hcz 1 _ rfl
   have cz2:wr.cell? ⟨bz,oz+j * 7+2,none⟩=some (.int .i64 nz):=hcz 2 _ rfl
   have cz3:wr.cell? ⟨bz,oz+j * 7+3,none⟩=some (.slice paz rz.length caz):=hcz 3 _ rfl
   have cz4:wr.cell? ⟨bz,oz+j * 7+4,none⟩=some (.slice pbz yz.length cbz):=hcz 4 _ rfl
   have cz5:wr.cell? ⟨bz,oz+j * 7+5,none⟩=some (.slice pez ez.length cez):=hcz 5 _ rfl
   have cz6:wr.cell? ⟨bz,oz+j * 7+6,none⟩=some (.int .i64 qz):=hcz 6 _ rfl
   clear hcz haz hboz helz htz
   obtain ⟨d,hd⟩:∃d,F ⟨kz,sz,nz,rz,yz,ez,qz⟩=d:=⟨_,rfl⟩
   have HD:=zh hd
   have HC:=zh (fun W (hW:Grew w W)=>(show Calls Tryz.prog g (#[sv kz sz nz paz rz.length caz pbz yz.length cbz pez ez.length cez qz]++cb) W fun e w'=>e=.returned (.int .i64 (d:Nat))∧Grew W w' from hd ▸ HF.out ⟨kz,sz,nz,rz,yz,ez,qz⟩ hmz paz caz pbz cbz pez cez _ (HAz.out.kept hW) (HYz.out.kept hW) (HEz.out.kept hW) hbz hW))
   have hsd:s≤4194304∧d≤4194304:=by have h1:=sumF_take (F:=F) l (j+1);rw [sumF_snoc HTz.out,← HS.out,hd] at h1;have:=HB.out;omega
   obtain ⟨hs1,hd1⟩:=hsd
   clear hmz hd HF HB
   go_wp2_with (go_at_fn g;refine(HC.out _ (HG.out.alloc _)).mono ?_;rintro e w1 ⟨rfl,g1⟩;have HG1:=zh ((HG.out.alloc _).trans g1);clear g1)
   all_goals
    go_roundg (l.length - (j+1))
    case measure=>have:=HLz.out;omega
    case rel=>exact⟨j+1,_,by go_num,by go_num,HLz.out,rfl,zh (by rw [sumF_snoc HTz.out,← HS.out,HD.out]),HG1⟩
  ·obtain rfl:j=l.length:=by omega
   rw [List.take_length] at HS
   go_wp2
   go_ret
   exact⟨congrArg (fun z:Nat=>Ending.returned (.int .i64 (z:Int))) HS.out,HG.out⟩
set_option maxHeartbeats 8000000 in
theorem greatS_any (g:FuncId) (cb:Array Value) (eg:∀args w,(callFunc g args).run Tryz.prog w=.ok (.enter g args) w) (l:List Sm) (F:Sm→Nat) (B:Nat→Prop) (w:World) (p:Option Addr) (c:Nat) (hx:SL B w p c l) (hB:∀x ∈ l,F x≤4194304)
 (hf:∀x ∈ l,∀(pa_:Option Addr) (ca_:Nat) (pb_:Option Addr) (cb_:Nat) (pe_:Option Addr) (ce_:Nat) (W:World),XL B W pa_ ca_ x.ar→SL B W pb_ cb_ x.b→SL B W pe_ ce_ x.e→x.s.size≤1048576→Grew w W→Calls Tryz.prog g (#[sv x.k x.s x.n pa_ x.ar.length ca_ pb_ x.b.length cb_ pe_ x.e.length ce_ x.q]++cb) W fun e w'=>e=.returned (.int .i64 (F x:Nat))∧Grew W w') :
 Calls Tryz.prog 87 #[.slice p l.length c,.func (.func g) #[] cb] w fun e w'=>e=.returned (.int .i64 (maxF F l:Nat))∧Grew w w':=by
 have HX:=zh hx
 have HF:=zh hf
 have HB:=zh hB
 have hcap:l.length≤c:=hx.cap.1
 have hmax:=hx.cap.2.1
 clear hx hf hB
 go_enter Tryz.func87,Tryz.ntmps87
 go_wp2
 go_loopg [5,7,10] l.length (fun gg sv_ xv_ iv wr=>∃(j s:Nat),sv_=.int .i64 (s:Int)∧iv=.int .i64 (j:Int)∧j≤l.length∧gg=l.length - j∧Hid (s=maxF F (l.take j))∧Hid (Grew w wr))
 case atStart=>exact⟨0,0,rfl,rfl,Nat.zero_le _,rfl,zh rfl,zh (Grew.refl _)⟩
 case round =>
  obtain ⟨j,s,rfl,rfl,hj,rfl,HS,HG⟩:=hrel
  by_cases hlt:j < l.length
  ·
   obtain ⟨bz,oz,paz,caz,pbz,cbz,pez,cez,rfl,hbz,haz,hboz,helz,hcz⟩:=HX.out.get j hlt
   have hmz:=List.getElem_mem hlt
   have hnz:=nSs_mem hmz
   have htz:=List.take_succ_eq_append_getElem hlt
   have HLz:=zh (Nat.succ_le_of_lt hlt)
   generalize l[j]=xz at *
   obtain ⟨kz,sz,nz,rz,yz,ez,qz⟩:=xz
   replace hbz:sz.size≤1048576:=hbz.2
   have HTz:=zh htz
   have HAz:Hid (XL B w paz caz rz):=zh haz
   have HYz:Hid (SL B w pbz cbz yz):=zh hboz
   have HEz:Hid (SL B w pez cez ez):=zh helz
   have hcapz:rz.length≤caz∧yz.length≤cbz∧ez.length≤cez:=⟨haz.cap.1,hboz.cap.1,helz.cap.1⟩
   have hmaxz:=And.intro haz.cap.2.1 (And.intro hboz.cap.2.1 helz.cap.2.1)
   replace hcz:∀i_ u_,(sdc ⟨kz,sz,nz,paz,rz.length,caz,pbz,yz.length,cbz,pez,ez.length,cez,qz⟩)[i_]?=some u_→wr.cell? ⟨bz,oz+j * 7+i_,none⟩=some u_:=fun i_ u_ h_=>Atv.kept (hcz i_ u_ h_) HG.out
   have cz0:wr.cell? ⟨bz,oz+j * 7,none⟩=some (.int .i64 kz):=by simpa using hcz 0 _ rfl
   have cz1:wr.cell? ⟨bz,oz+j * 7+1,none⟩=some (.string sz):=hcz 1 _ rfl
   have cz2:wr.cell? ⟨bz,oz+j * 7+2,none⟩=some (.int .i64 nz):=hcz 2 _ rfl
   have cz3:wr.cell? ⟨bz,oz+j * 7+3,none⟩=some (.slice paz rz.length caz):=hcz 3 _ rfl
   have cz4:wr.cell? ⟨bz,oz+j * 7+4,none⟩=some (.slice pbz yz.length cbz):=hcz 4 _ rfl
   have cz5:wr.cell? ⟨bz,oz+j * 7+5,none⟩=some (.slice pez ez.length cez):=hcz 5 _ rfl
   have cz6:wr.cell? ⟨bz,oz+j * 7+6,none⟩=some (.int .i64 qz):=hcz 6 _ rfl
   clear hcz haz hboz helz htz
   obtain ⟨d,hd⟩:∃d,F ⟨kz,sz,nz,rz,yz,ez,qz⟩=d:=⟨_,rfl⟩
   have HD:=zh hd
   have HC:=zh (fun W (hW:Grew w W)=>(show Calls Tryz.prog g (#[sv kz sz nz paz rz.length caz pbz yz.length cbz pez ez.length cez qz]++cb) W fun e w'=>e=.returned (.int .i64 (d:Nat))∧Grew W w' from hd ▸ HF.out ⟨kz,sz,nz,rz,yz,ez,qz⟩ hmz paz caz pbz cbz pez cez _ (HAz.out.kept hW) (HYz.out.kept hW) (HEz.out.kept hW) hbz hW))
   have hsd:s≤4194304∧d≤4194304:=⟨by rw [HS.out];exact maxF_le fun x hx=>HB.out x (List.mem_of_mem_take hx),hd ▸ HB.out _ hmz⟩
   obtain ⟨hs1,hd1⟩:=hsd
   clear hmz hd HF HB
   go_wp2_with (go_at_fn g;refine(HC.out _ (HG.out.alloc _)).mono ?_;rintro e w1 ⟨rfl,g1⟩;have HG1:=zh ((HG.out.alloc _).trans g1);clear g1)
   all_goals
    go_roundg (l.length - (j+1))
    case measure=>have:=HLz.out;omega
    case rel=>exact⟨j+1,max s d,congrArg (Value.int .i64) (by omega),by go_num,HLz.out,rfl,zh (by rw [maxF_snoc HTz.out,← HS.out,HD.out]),HG1⟩
  ·obtain rfl:j=l.length:=by omega
   rw [List.take_length] at HS
   go_wp2
   go_ret
   exact⟨congrArg (fun z:Nat=>Ending.returned (.int .i64 (z:Int))) HS.out,HG.out⟩
set_option maxHeartbeats 8000000 in
theorem totalT_any (g:FuncId) (cb:Array Value) (eg:∀args w,(callFunc g args).run Tryz.prog w=.ok (.enter g args) w) (l:List Ta) (F:Ta→Nat) (B:Nat→Prop) (w:World) (p:Option Addr) (c:Nat) (hx:TL B w p c l) (hB:sumF F l≤4194304)
 (hf:∀x ∈ l,∀(pb_:Option Addr) (cb_:Nat) (W:World),SL B W pb_ cb_ x.b→x.s.size≤1048576∧x.c.size≤1048576∧x.m.size≤1048576→Grew w W→Calls Tryz.prog g (#[tv x.s x.p x.d x.c x.m x.w pb_ x.b.length cb_ x.q]++cb) W fun e w'=>e=.returned (.int .i64 (F x:Nat))∧Grew W w') :
 Calls Tryz.prog 81 #[.slice p l.length c,.func (.func g) #[] cb] w fun e w'=>e=.returned (.int .i64 (sumF F l:Nat))∧Grew w w':=by
 have HX:=zh hx
 have HF:=zh hf
 have HB:=zh hB
 have hcap:l.length≤c:=hx.cap.1
 have hmax:=hx.cap.2.1
 clear hx hf hB
 go_enter Tryz.func81,Tryz.ntmps81
 go_wp2
 go_loopg [5,7,10] l.length (fun gg sv_ xv_ iv wr=>∃(j s:Nat),sv_=.int .i64 (s:Int)∧iv=.int .i64 (j:Int)∧j≤l.length∧gg=l.length - j∧Hid (s=sumF F (l.take j))∧Hid (Grew w wr))
 case atStart=>exact⟨0,0,rfl,rfl,Nat.zero_le _,rfl,zh rfl,zh (Grew.refl _)⟩
 case round =>
  obtain ⟨j,s,rfl,rfl,hj,rfl,HS,HG⟩:=hrel
  by_cases hlt:j < l.length
  ·
   obtain ⟨bz,oz,pbz,cbz,rfl,hbz,hboz,hcz⟩:=HX.out.get j hlt
   have hmz:=List.getElem_mem hlt
   have htz:=List.take_succ_eq_append_getElem hlt
   have HLz:=zh (Nat.succ_le_of_lt hlt)
   generalize l[j]=xz at *
   obtain ⟨sz,iz,dz,hz,mz,nz,yz,qz⟩:=xz
   replace hbz:sz.size≤1048576∧hz.size≤1048576∧mz.size≤1048576:=hbz.2
   have HTz:=zh htz
   have HYz:Hid (SL B w pbz cbz yz):=zh hboz
   have hcapz:yz.length≤cbz:=hboz.cap.1
   have hmaxz:=hboz.cap.2.1
   replace hcz:∀i_ u_,(tdc ⟨sz,iz,dz,hz,mz,nz,pbz,yz.length,cbz,qz⟩)[i_]?=some u_→wr.cell? ⟨bz,oz+j * 8+i_,none⟩=some u_:=fun i_ u_ h_=>Atv.kept (hcz i_ u_ h_) HG.out
   have cz0:wr.cell? ⟨bz,oz+j * 8,none⟩=some (.string sz):=by simpa using hcz 0 _ rfl
   have cz1:wr.cell? ⟨bz,oz+j * 8+1,none⟩=some (.int .i64 iz):=hcz 1 _ rfl
   have cz2:wr.cell? ⟨bz,oz+j * 8+2,none⟩=some (.int .i64 dz):=hcz 2 _ rfl
   have cz3:wr.cell? ⟨bz,oz+j * 8+3,none⟩=some (.string hz):=hcz 3 _ rfl
   have cz4:wr.cell? ⟨bz,oz+j * 8+4,none⟩=some (.string mz):=hcz 4 _ rfl
   have cz5:wr.cell? ⟨bz,oz+j * 8+5,none⟩=some (.int .i64 nz):=hcz 5 _ rfl
   have cz6:wr.cell? ⟨bz,oz+j * 8+6,none⟩=some (.slice pbz yz.length cbz):=hcz 6 _ rfl
   have cz7:wr.cell? ⟨bz,oz+j * 8+7,none⟩=some (.int .i64 qz):=hcz 7 _ rfl
   clear hcz hboz htz
   obtain ⟨d,hd⟩:∃d,F ⟨sz,iz,dz,hz,mz,nz,yz,qz⟩=d:=⟨_,rfl⟩
   have HD:=zh hd
   have HC:=zh (fun W (hW:Grew w W)=>(show Calls Tryz.prog g (#[tv sz iz dz hz mz nz pbz yz.length cbz qz]++cb) W fun e w'=>e=.returned (.int .i64 (d:Nat))∧Grew W w' from hd ▸ HF.out ⟨sz,iz,dz,hz,mz,nz,yz,qz⟩ hmz pbz cbz _ (HYz.out.kept hW) hbz hW))
   have hsd:s≤4194304∧d≤4194304:=by have h1:=sumF_take (F:=F) l (j+1);rw [sumF_snoc HTz.out,← HS.out,hd] at h1;have:=HB.out;omega
   obtain ⟨hs1,hd1⟩:=hsd
   clear hmz hd HF HB
   go_wp2_with (go_at_fn g;refine(HC.out _ (HG.out.alloc _)).mono ?_;rintro e w1 ⟨rfl,g1⟩;have HG1:=zh ((HG.out.alloc _).trans g1);clear g1)
   all_goals
    go_roundg (l.length - (j+1))
    case measure=>have:=HLz.out;omega
    case rel=>exact⟨j+1,_,by go_num,by go_num,HLz.out,rfl,zh (by rw [sumF_snoc HTz.out,← HS.out,HD.out]),HG1⟩
  ·obtain rfl:j=l.length:=by omega
   rw [List.take_length] at HS
   go_wp2
   go_ret
   exact⟨congrArg (fun z:Nat=>Ending.returned (.int .i64 (z:Int))) HS.out,HG.out⟩
set_option maxHeartbeats 8000000 in
theorem greatT_any (g:FuncId) (cb:Array Value) (eg:∀args w,(callFunc g args).run Tryz.prog w=.ok (.enter g args) w) (l:List Ta) (F:Ta→Nat) (B:Nat→Prop) (w:World) (p:Option Addr) (c:Nat) (hx:TL B w p c l) (hB:∀x ∈ l,F x≤4194304)
 (hf:∀x ∈ l,∀(pb_:Option Addr) (cb_:Nat) (W:World),SL B W pb_ cb_ x.b→x.s.size≤1048576∧x.c.size≤1048576∧x.m.size≤1048576→Grew w W→Calls Tryz.prog g (#[tv x.s x.p x.d x.c x.m x.w pb_ x.b.length cb_ x.q]++cb) W fun e w'=>e=.returned (.int .i64 (F x:Nat))∧Grew W w') :
 Calls Tryz.prog 85 #[.slice p l.length c,.func (.func g) #[] cb] w fun e w'=>e=.returned (.int .i64 (maxF F l:Nat))∧Grew w w':=by
 have HX:=zh hx
 have HF:=zh hf
 have HB:=zh hB
 have hcap:l.length≤c:=hx.cap.1
 have hmax:=hx.cap.2.1
 clear hx hf hB
 go_enter Tryz.func85,Tryz.ntmps85
 go_wp2
 go_loopg [5,7,10] l.length (fun gg sv_ xv_ iv wr=>∃(j s:Nat),sv_=.int .i64 (s:Int)∧iv=.int .i64 (j:Int)∧j≤l.length∧gg=l.length - j∧Hid (s=maxF F (l.take j))∧Hid (Grew w wr))
 case atStart=>exact⟨0,0,rfl,rfl,Nat.zero_le _,rfl,zh rfl,zh (Grew.refl _)⟩
 case round =>
  obtain ⟨j,s,rfl,rfl,hj,rfl,HS,HG⟩:=hrel
  by_cases hlt:j < l.length
  ·
   obtain ⟨bz,oz,pbz,cbz,rfl,hbz,hboz,hcz⟩:=HX.out.get j hlt
   have hmz:=List.getElem_mem hlt
   have htz:=List.take_succ_eq_append_getElem hlt
   have HLz:=zh (Nat.succ_le_of_lt hlt)
   generalize l[j]=xz at *
   obtain ⟨sz,iz,dz,hz,mz,nz,yz,qz⟩:=xz
   replace hbz:sz.size≤1048576∧hz.size≤1048576∧mz.size≤1048576:=hbz.2
   have HTz:=zh htz
   have HYz:Hid (SL B w pbz cbz yz):=zh hboz
   have hcapz:yz.length≤cbz:=hboz.cap.1
   have hmaxz:=hboz.cap.2.1
   replace hcz:∀i_ u_,(tdc ⟨sz,iz,dz,hz,mz,nz,pbz,yz.length,cbz,qz⟩)[i_]?=some u_→wr.cell? ⟨bz,oz+j * 8+i_,none⟩=some u_:=fun i_ u_ h_=>Atv.kept (hcz i_ u_ h_) HG.out
   have cz0:wr.cell? ⟨bz,oz+j * 8,none⟩=some (.string sz):=by simpa using hcz 0 _ rfl
   have cz1:wr.cell? ⟨bz,oz+j * 8+1,none⟩=some (.int .i64 iz):=hcz 1 _ rfl
   have cz2:wr.cell? ⟨bz,oz+j * 8+2,none⟩=some (.int .i64 dz):=hcz 2 _ rfl
   have cz3:wr.cell? ⟨bz,oz+j * 8+3,none⟩=some (.string hz):=hcz 3 _ rfl
   have cz4:wr.cell? ⟨bz,oz+j * 8+4,none⟩=some (.string mz):=hcz 4 _ rfl
   have cz5:wr.cell? ⟨bz,oz+j * 8+5,none⟩=some (.int .i64 nz):=hcz 5 _ rfl
   have cz6:wr.cell? ⟨bz,oz+j * 8+6,none⟩=some (.slice pbz yz.length cbz):=hcz 6 _ rfl
   have cz7:wr.cell? ⟨bz,oz+j * 8+7,none⟩=some (.int .i64 qz):=hcz 7 _ rfl
   clear hcz hboz htz
   obtain ⟨d,hd⟩:∃d,F ⟨sz,iz,dz,hz,mz,nz,yz,qz⟩=d:=⟨_,rfl⟩
   have HD:=zh hd
   have HC:=zh (fun W (hW:Grew w W)=>(show Calls Tryz.prog g (#[tv sz iz dz hz mz nz pbz yz.length cbz qz]++cb) W fun e w'=>e=.returned (.int .i64 (d:Nat))∧Grew W w' from hd ▸ HF.out ⟨sz,iz,dz,hz,mz,nz,yz,qz⟩ hmz pbz cbz _ (HYz.out.kept hW) hbz hW))
   have hsd:s≤4194304∧d≤4194304:=⟨by rw [HS.out];exact maxF_le fun x hx=>HB.out x (List.mem_of_mem_take hx),hd ▸ HB.out _ hmz⟩
   obtain ⟨hs1,hd1⟩:=hsd
   clear hmz hd HF HB
   go_wp2_with (go_at_fn g;refine(HC.out _ (HG.out.alloc _)).mono ?_;rintro e w1 ⟨rfl,g1⟩;have HG1:=zh ((HG.out.alloc _).trans g1);clear g1)
   all_goals
    go_roundg (l.length - (j+1))
    case measure=>have:=HLz.out;omega
    case rel=>exact⟨j+1,max s d,congrArg (Value.int .i64) (by omega),by go_num,HLz.out,rfl,zh (by rw [maxF_snoc HTz.out,← HS.out,HD.out]),HG1⟩
  ·obtain rfl:j=l.length:=by omega
   rw [List.take_length] at HS
   go_wp2
   go_ret
   exact⟨congrArg (fun z:Nat=>Ending.returned (.int .i64 (z:Int))) HS.out,HG.out⟩
section
variable {dst:Option Tmp}{ty:TypeId}{pos:String}{after:Array Edge}{g:Option (Nat × Bool)}{a:Act}{w:World}{T:Value→World→Prop}
end
set_option maxHeartbeats 8000000 in
theorem xsize_any:∀(x:Xp) (B:Nat→Prop) (w:World) (p:Option Addr) (c:Nat),XL B w p c x.ar→nX x≤1048576 →
 Calls Tryz.prog 122 #[xv x.k x.s x.v x.o p x.ar.length c x.q] w fun e w'=>e=.returned (.int .i64 (nX x:Nat))∧Grew w w':=by
 intro x
 induction x using Xp.ind with
 | h kx sx vx ox rx qx ih =>
 intro B w px cx hx hn
 replace hx:XL B w px cx rx:=hx
 have hnx:nX ⟨kx,sx,vx,ox,rx,qx⟩=nXs rx+1:=rfl
 have hdx:nX ⟨kx,sx,vx,ox,rx,qx⟩=nXs rx+1:=rfl
 rw [hnx] at hn
 show Calls Tryz.prog 122 #[xv kx sx vx ox px rx.length cx qx] w fun e w'=>e=.returned (.int .i64 ((nX ⟨kx,sx,vx,ox,rx,qx⟩:Nat):Int))∧Grew w w'
 rw [hdx,nXs_sum]
 have hcap:rx.length≤cx:=hx.cap.1
 have hmax:=hx.cap.2.1
 have hle:sumF nX rx≤4194304:=by rw [← nXs_sum];omega
 have HC:Hid (∀W,Grew w W→Calls Tryz.prog 121 #[.slice px rx.length cx,.func (.func 122) #[] #[]] W fun e w'=>e=.returned (.int .i64 (sumF nX rx:Nat))∧Grew W w') :=
  zh (fun W hW=>totalX_any 122 #[] en_xs rx nX B W px cx (hx.kept hW) (by rw [← nXs_sum];omega) (fun y hy p_ c_ W2 h1 h2 hW2=>ih y hy B W2 p_ c_ h1 (by have:=nXs_mem hy;omega)))
 generalize sumF nX rx=m at HC hle ⊢
 clear ih hx hn hnx hdx
 go_enter Tryz.func122,Tryz.ntmps122
 go_wp2_with (go_at_call 121;(with_reducible refine(HC.out _ ((Grew.refl _).alloc _)).mono ?_);rintro e w1 ⟨rfl,g1⟩;have HG1:=zh (((Grew.refl _).alloc _).trans g1);clear g1)
 go_ret
 exact⟨by go_num,HG1.out⟩
set_option maxHeartbeats 8000000 in
theorem xdepth_any:∀(x:Xp) (B:Nat→Prop) (w:World) (p:Option Addr) (c:Nat),XL B w p c x.ar→nX x≤1048576 →
 Calls Tryz.prog 124 #[xv x.k x.s x.v x.o p x.ar.length c x.q] w fun e w'=>e=.returned (.int .i64 (dX x:Nat))∧Grew w w':=by
 intro x
 induction x using Xp.ind with
 | h kx sx vx ox rx qx ih =>
 intro B w px cx hx hn
 replace hx:XL B w px cx rx:=hx
 have hnx:nX ⟨kx,sx,vx,ox,rx,qx⟩=nXs rx+1:=rfl
 have hdx:dX ⟨kx,sx,vx,ox,rx,qx⟩=dXs rx+1:=rfl
 rw [hnx] at hn
 show Calls Tryz.prog 124 #[xv kx sx vx ox px rx.length cx qx] w fun e w'=>e=.returned (.int .i64 ((dX ⟨kx,sx,vx,ox,rx,qx⟩:Nat):Int))∧Grew w w'
 rw [hdx,dXs_max]
 have hcap:rx.length≤cx:=hx.cap.1
 have hmax:=hx.cap.2.1
 have hle:maxF dX rx≤4194304:=by rw [← dXs_max];have:=dXs_le rx;omega
 have HC:Hid (∀W,Grew w W→Calls Tryz.prog 123 #[.slice px rx.length cx,.func (.func 124) #[] #[]] W fun e w'=>e=.returned (.int .i64 (maxF dX rx:Nat))∧Grew W w') :=
  zh (fun W hW=>greatX_any 124 #[] en_xd rx dX B W px cx (hx.kept hW) (fun y hy=>by have h1:=nXs_mem hy;have h2:=dX_le y;omega) (fun y hy p_ c_ W2 h1 h2 hW2=>ih y hy B W2 p_ c_ h1 (by have:=nXs_mem hy;omega)))
 generalize maxF dX rx=m at HC hle ⊢
 clear ih hx hn hnx hdx
 go_enter Tryz.func124,Tryz.ntmps124
 go_wp2_with (go_at_call 123;(with_reducible refine(HC.out _ ((Grew.refl _).alloc _)).mono ?_);rintro e w1 ⟨rfl,g1⟩;have HG1:=zh (((Grew.refl _).alloc _).trans g1);clear g1)
 go_ret
 exact⟨by go_num,HG1.out⟩
set_option maxHeartbeats 8000000 in
theorem ssize_any:∀(x:Sm) (B:Nat→Prop) (w:World) (pa:Option Addr) (ca:Nat) (pb:Option Addr) (cb:Nat) (pe:Option Addr) (ce:Nat),XL B w pa ca x.ar→SL B w pb cb x.b→SL B w pe ce x.e→nS x≤1048576→mS x≤1048576 →
 Calls Tryz.prog 84 #[sv x.k x.s x.n pa x.ar.length ca pb x.b.length cb pe x.e.length ce x.q] w fun e w'=>e=.returned (.int .i64 (zSm x:Nat))∧Grew w w':=by
 intro x
 induction x using Sm.ind with
 | h kx sx nx rx yx ex qx ihb ihe =>
 intro B w pa ca pb cb pe ce hx hy he hn hm
 replace hx:XL B w pa ca rx:=hx
 replace hy:SL B w pb cb yx:=hy
 replace he:SL B w pe ce ex:=he
 have hns:nS ⟨kx,sx,nx,rx,yx,ex,qx⟩=nSs yx+nSs ex+1:=rfl
 have hms:mS ⟨kx,sx,nx,rx,yx,ex,qx⟩=nXs rx+mSs yx+mSs ex:=rfl
 rw [hns] at hn
 rw [hms] at hm
 have hEQ:zSm ⟨kx,sx,nx,rx,yx,ex,qx⟩=1+sumF nX rx+sumF zSm yx+sumF zSm ex:=by rw [zSm,hns,hms,← nXs_sum,← zS_sum,← zS_sum];omega
 show Calls Tryz.prog 84 #[sv kx sx nx pa rx.length ca pb yx.length cb pe ex.length ce qx] w fun e w'=>e=.returned (.int .i64 ((zSm ⟨kx,sx,nx,rx,yx,ex,qx⟩:Nat):Int))∧Grew w w'
 rw [hEQ]
 have hcap:rx.length≤ca∧yx.length≤cb∧ex.length≤ce:=⟨hx.cap.1,hy.cap.1,he.cap.1⟩
 have hmax:=And.intro hx.cap.2.1 (And.intro hy.cap.2.1 he.cap.2.1)
 have hl0:sumF nX rx≤1048576:=by rw [← nXs_sum];omega
 have hl1:sumF zSm yx≤2097152:=by rw [← zS_sum];omega
 have hl2:sumF zSm ex≤2097152:=by rw [← zS_sum];omega
 have HX0:Hid (∀W,Grew w W→Calls Tryz.prog 121 #[.slice pa rx.length ca,.func (.func 122) #[] #[]] W fun e w'=>e=.returned (.int .i64 (sumF nX rx:Nat))∧Grew W w') :=
  zh (fun W hW=>totalX_any 122 #[] en_xs rx nX B W pa ca (hx.kept hW) (by rw [← nXs_sum];omega) (fun y hy p_ c_ W2 h1 h2 hW2=>xsize_any y B W2 p_ c_ h1 (by have:=nXs_mem hy;omega)))
 have HX1:Hid (∀W,Grew w W→Calls Tryz.prog 83 #[.slice pb yx.length cb,.func (.func 84) #[] #[]] W fun e w'=>e=.returned (.int .i64 (sumF zSm yx:Nat))∧Grew W w') :=
  zh (fun W hW=>totalS_any 84 #[] en_ss yx zSm B W pb cb (hy.kept hW) (by rw [← zS_sum];omega) (fun y hy' a1 a2 a3 a4 a5 a6 W2 q1 q2 q3 q4 hW2=>ihb y hy' B W2 a1 a2 a3 a4 a5 a6 q1 q2 q3 (by have:=nSs_mem hy';omega) (by have:=mSs_mem hy';omega)))
 have HX2:Hid (∀W,Grew w W→Calls Tryz.prog 83 #[.slice pe ex.length ce,.func (.func 84) #[] #[]] W fun e w'=>e=.returned (.int .i64 (sumF zSm ex:Nat))∧Grew W w') :=
  zh (fun W hW=>totalS_any 84 #[] en_ss ex zSm B W pe ce (he.kept hW) (by rw [← zS_sum];omega) (fun y hy' a1 a2 a3 a4 a5 a6 W2 q1 q2 q3 q4 hW2=>ihe y hy' B W2 a1 a2 a3 a4 a5 a6 q1 q2 q3 (by have:=nSs_mem hy';omega) (by have:=mSs_mem hy';omega)))
 generalize sumF nX rx=m0 at HX0 hl0 ⊢
 generalize sumF zSm yx=m1 at HX1 hl1 ⊢
 generalize sumF zSm ex=m2 at HX2 hl2 ⊢
 clear ihb ihe hx hy he hn hm hns hms hEQ
 go_enter Tryz.func84,Tryz.ntmps84
 go_upto_region 1 with fail
 have hb1:Blk w.heap.size [.int .i64 kx,.string sx,.int .i64 nx,.slice pa rx.length ca,.slice pb yx.length cb,.slice pe ex.length ce,.int .i64 qx] 49 (w.alloc (Obj.cells #[.int .i64 kx,.string sx,.int .i64 nx,.slice pa rx.length ca,.slice pb yx.length cb,.slice pe ex.length ce,.int .i64 qx] 49)):=Blk.new w _ _
 have hgV:Grew w (w.alloc (Obj.cells #[.int .i64 kx,.string sx,.int .i64 nx,.slice pa rx.length ca,.slice pb yx.length cb,.slice pe ex.length ce,.int .i64 qx] 49)):=(Grew.refl w).alloc _
 generalize (w.alloc (Obj.cells #[.int .i64 kx,.string sx,.int .i64 nx,.slice pa rx.length ca,.slice pb yx.length cb,.slice pe ex.length ce,.int .i64 qx] 49))=V at hb1 hgV ⊢
 generalize w.heap.size=T at hb1 ⊢
 have HGV:=zh hgV
 have d0:Atv ⟨T,0,none⟩ (.int .i64 kx) V.drew:=(hb1.grew (Grew.refl _).drw).atv 0 rfl
 have d1:Atv ⟨T,1,none⟩ (.string sx) V.drew:=(hb1.grew (Grew.refl _).drw).atv 1 rfl
 have d2:Atv ⟨T,2,none⟩ (.int .i64 nx) V.drew:=(hb1.grew (Grew.refl _).drw).atv 2 rfl
 have d3:Atv ⟨T,3,none⟩ (.slice pa rx.length ca) V.drew:=(hb1.grew (Grew.refl _).drw).atv 3 rfl
 have d4:Atv ⟨T,4,none⟩ (.slice pb yx.length cb) V.drew:=(hb1.grew (Grew.refl _).drw).atv 4 rfl
 have d5:Atv ⟨T,5,none⟩ (.slice pe ex.length ce) V.drew:=(hb1.grew (Grew.refl _).drw).atv 5 rfl
 have d6:Atv ⟨T,6,none⟩ (.int .i64 qx) V.drew:=(hb1.grew (Grew.refl _).drw).atv 6 rfl
 clear hb1 hgV
 refine wp_posts [some 3,some 4,some 5,some 6,some 7,some 8,some 9,some 10,some 11,some 12,some 13,some 14,some 2] (Zfb (Ztd (Ztc (Zta [])))) [fun v _=>v=.pointer (some ⟨T,3,none⟩),fun v _=>v=.slice pa (rx.length) (ca),fun v _=>v=.int .i64 (((m0:Nat):Int)),fun v _=>v=.int .i64 ((1)+(((m0:Nat):Int))),fun v _=>v=.pointer (some ⟨T,4,none⟩),fun v _=>v=.slice pb (yx.length) (cb),fun v _=>v=.int .i64 (((m1:Nat):Int)),fun v _=>v=.int .i64 (((1)+(((m0:Nat):Int)))+(((m1:Nat):Int))),fun v _=>v=.pointer (some ⟨T,5,none⟩),fun v _=>v=.slice pe (ex.length) (ce),fun v _=>v=.int .i64 (((m2:Nat):Int)),fun v _=>v=.int .i64 ((((1)+(((m0:Nat):Int)))+(((m1:Nat):Int)))+(((m2:Nat):Int))),fun v _=>v=.int .i64 ((((1)+(((m0:Nat):Int)))+(((m1:Nat):Int)))+(((m2:Nat):Int)))] (by kernel_rfl) (by kernel_rfl) rfl ?_ ⟨?_,?_,?_,?_,?_,?_,?_,?_,?_,?_,?_,?_,?_,trivial⟩ ?_
 ·exact⟨Zi,Zi,Zi,Zi,Zi,Zi,Zi,Zi,Zi,Zi,Zi,Zi,Zi,trivial⟩
 ·intro u w hR hd;exact rn_fld_49_3 (ev rfl) Zr
 ·intro u w hR hd;exact rn_ld_33 (ev (hd.1 rfl)) (d3.kept hR) Zr
 ·intro u w hR hd;exact runs_c2 en_toX (ev (hd.1 rfl)) rfl (callp (fun _ e=>e) (HX0.out _ (HGV.out.trans ((Grew.refl _).drw.trans hR))))
 ·intro u w hR hd;exact rn_add_3 rfl (ev (hd.1 rfl)) (by omega) Zr
 ·intro u w hR hd;exact rn_fld_49_4 (ev rfl) Zr
 ·intro u w hR hd;exact rn_ld_40 (ev (hd.1 rfl)) (d4.kept hR) Zr
 ·intro u w hR hd;exact runs_c2 en_toS (ev (hd.1 rfl)) rfl (callp (fun _ e=>e) (HX1.out _ (HGV.out.trans ((Grew.refl _).drw.trans hR))))
 ·intro u w hR hd;exact rn_add_3 (ev (hd.1 rfl)) (ev (hd.2.1 rfl)) (by omega) Zr
 ·intro u w hR hd;exact rn_fld_49_5 (ev rfl) Zr
 ·intro u w hR hd;exact rn_ld_40 (ev (hd.1 rfl)) (d5.kept hR) Zr
 ·intro u w hR hd;exact runs_c2 en_toS (ev (hd.1 rfl)) rfl (callp (fun _ e=>e) (HX2.out _ (HGV.out.trans ((Grew.refl _).drw.trans hR))))
 ·intro u w hR hd;exact rn_add_3 (ev (hd.1 rfl)) (ev (hd.2.1 rfl)) (by omega) Zr
 ·intro u w hR hd;exact runs_mva (ev (hd.1 rfl)) Zr
 ·intro u w4 hR hh
  have he:u 2=.int .i64 ((((1)+(((m0:Nat):Int)))+(((m1:Nat):Int)))+(((m2:Nat):Int))):=hh 12 (by decide)
  simp only [mixA,mixL,zz9,zz0,he]
  have HG4:Hid (Grew w w4):=zh (HGV.out.trans ((Grew.refl V).drw.trans hR))
  clear hh he hR d0 d1 d2 d3 d4 d5 d6 HGV
  go_wp2
  go_ret
  exact⟨by go_num,HG4.out⟩
set_option maxHeartbeats 8000000 in
theorem sdepth_any:∀(x:Sm) (B:Nat→Prop) (w:World) (pa:Option Addr) (ca:Nat) (pb:Option Addr) (cb:Nat) (pe:Option Addr) (ce:Nat),XL B w pa ca x.ar→SL B w pb cb x.b→SL B w pe ce x.e→nS x≤1048576→mS x≤1048576 →
 Calls Tryz.prog 88 #[sv x.k x.s x.n pa x.ar.length ca pb x.b.length cb pe x.e.length ce x.q] w fun e w'=>e=.returned (.int .i64 (dS x:Nat))∧Grew w w':=by
 intro x
 induction x using Sm.ind with
 | h kx sx nx rx yx ex qx ihb ihe =>
 intro B w pa ca pb cb pe ce hx hy he hn hm
 replace hx:XL B w pa ca rx:=hx
 replace hy:SL B w pb cb yx:=hy
 replace he:SL B w pe ce ex:=he
 have hns:nS ⟨kx,sx,nx,rx,yx,ex,qx⟩=nSs yx+nSs ex+1:=rfl
 have hms:mS ⟨kx,sx,nx,rx,yx,ex,qx⟩=nXs rx+mSs yx+mSs ex:=rfl
 rw [hns] at hn
 rw [hms] at hm
 have hEQ:dS ⟨kx,sx,nx,rx,yx,ex,qx⟩=1+max (max (maxF dX rx) (maxF dS yx)) (maxF dS ex):=by rw [dS,dXs_max,dSs_max,dSs_max];omega
 show Calls Tryz.prog 88 #[sv kx sx nx pa rx.length ca pb yx.length cb pe ex.length ce qx] w fun e w'=>e=.returned (.int .i64 ((dS ⟨kx,sx,nx,rx,yx,ex,qx⟩:Nat):Int))∧Grew w w'
 rw [hEQ]
 have hcap:rx.length≤ca∧yx.length≤cb∧ex.length≤ce:=⟨hx.cap.1,hy.cap.1,he.cap.1⟩
 have hmax:=And.intro hx.cap.2.1 (And.intro hy.cap.2.1 he.cap.2.1)
 have hl0:maxF dX rx≤1048576:=by rw [← dXs_max];have:=dXs_le rx;omega
 have hl1:maxF dS yx≤2097152:=by rw [← dSs_max];have:=dSs_le yx;omega
 have hl2:maxF dS ex≤2097152:=by rw [← dSs_max];have:=dSs_le ex;omega
 have HX0:Hid (∀W,Grew w W→Calls Tryz.prog 123 #[.slice pa rx.length ca,.func (.func 124) #[] #[]] W fun e w'=>e=.returned (.int .i64 (maxF dX rx:Nat))∧Grew W w') :=
  zh (fun W hW=>greatX_any 124 #[] en_xd rx dX B W pa ca (hx.kept hW) (fun y hy=>by have h1:=nXs_mem hy;have h2:=dX_le y;omega) (fun y hy p_ c_ W2 h1 h2 hW2=>xdepth_any y B W2 p_ c_ h1 (by have:=nXs_mem hy;omega)))
 have HX1:Hid (∀W,Grew w W→Calls Tryz.prog 87 #[.slice pb yx.length cb,.func (.func 88) #[] #[]] W fun e w'=>e=.returned (.int .i64 (maxF dS yx:Nat))∧Grew W w') :=
  zh (fun W hW=>greatS_any 88 #[] en_sd yx dS B W pb cb (hy.kept hW) (fun y hy=>by have h1:=nSs_mem hy;have h2:=mSs_mem hy;have h3:=dS_le y;omega) (fun y hy' a1 a2 a3 a4 a5 a6 W2 q1 q2 q3 q4 hW2=>ihb y hy' B W2 a1 a2 a3 a4 a5 a6 q1 q2 q3 (by have:=nSs_mem hy';omega) (by have:=mSs_mem hy';omega)))
 have HX2:Hid (∀W,Grew w W→Calls Tryz.prog 87 #[.slice pe ex.length ce,.func (.func 88) #[] #[]] W fun e w'=>e=.returned (.int .i64 (maxF dS ex:Nat))∧Grew W w') :=
  zh (fun W hW=>greatS_any 88 #[] en_sd ex dS B W pe ce (he.kept hW) (fun y hy=>by have h1:=nSs_mem hy;have h2:=mSs_mem hy;have h3:=dS_le y;omega) (fun y hy' a1 a2 a3 a4 a5 a6 W2 q1 q2 q3 q4 hW2=>ihe y hy' B W2 a1 a2 a3 a4 a5 a6 q1 q2 q3 (by have:=nSs_mem hy';omega) (by have:=mSs_mem hy';omega)))
 generalize maxF dX rx=m0 at HX0 hl0 ⊢
 generalize maxF dS yx=m1 at HX1 hl1 ⊢
 generalize maxF dS ex=m2 at HX2 hl2 ⊢
 clear ihb ihe hx hy he hn hm hns hms hEQ
 go_enter Tryz.func88,Tryz.ntmps88
 go_upto_region 1 with fail
 have hb1:Blk w.heap.size [.int .i64 kx,.string sx,.int .i64 nx,.slice pa rx.length ca,.slice pb yx.length cb,.slice pe ex.length ce,.int .i64 qx] 49 (w.alloc (Obj.cells #[.int .i64 kx,.string sx,.int .i64 nx,.slice pa rx.length ca,.slice pb yx.length cb,.slice pe ex.length ce,.int .i64 qx] 49)):=Blk.new w _ _
 have hgV:Grew w (w.alloc (Obj.cells #[.int .i64 kx,.string sx,.int .i64 nx,.slice pa rx.length ca,.slice pb yx.length cb,.slice pe ex.length ce,.int .i64 qx] 49)):=(Grew.refl w).alloc _
 generalize (w.alloc (Obj.cells #[.int .i64 kx,.string sx,.int .i64 nx,.slice pa rx.length ca,.slice pb yx.length cb,.slice pe ex.length ce,.int .i64 qx] 49))=V at hb1 hgV ⊢
 generalize w.heap.size=T at hb1 ⊢
 have HGV:=zh hgV
 have d0:Atv ⟨T,0,none⟩ (.int .i64 kx) V.drew:=(hb1.grew (Grew.refl _).drw).atv 0 rfl
 have d1:Atv ⟨T,1,none⟩ (.string sx) V.drew:=(hb1.grew (Grew.refl _).drw).atv 1 rfl
 have d2:Atv ⟨T,2,none⟩ (.int .i64 nx) V.drew:=(hb1.grew (Grew.refl _).drw).atv 2 rfl
 have d3:Atv ⟨T,3,none⟩ (.slice pa rx.length ca) V.drew:=(hb1.grew (Grew.refl _).drw).atv 3 rfl
 have d4:Atv ⟨T,4,none⟩ (.slice pb yx.length cb) V.drew:=(hb1.grew (Grew.refl _).drw).atv 4 rfl
 have d5:Atv ⟨T,5,none⟩ (.slice pe ex.length ce) V.drew:=(hb1.grew (Grew.refl _).drw).atv 5 rfl
 have d6:Atv ⟨T,6,none⟩ (.int .i64 qx) V.drew:=(hb1.grew (Grew.refl _).drw).atv 6 rfl
 clear hb1 hgV
 refine wp_posts [some 3,some 4,some 5,some 6,some 7,some 8,some 9,some 10,some 11,some 12,some 13,some 2] (Zfb (Ztd (Ztc []))) [fun v _=>v=.pointer (some ⟨T,3,none⟩),fun v _=>v=.slice pa (rx.length) (ca),fun v _=>v=.int .i64 (((m0:Nat):Int)),fun v _=>v=.pointer (some ⟨T,4,none⟩),fun v _=>v=.slice pb (yx.length) (cb),fun v _=>v=.int .i64 (((m1:Nat):Int)),fun v _=>v=.pointer (some ⟨T,5,none⟩),fun v _=>v=.slice pe (ex.length) (ce),fun v _=>v=.int .i64 (((m2:Nat):Int)),fun v _=>v=.int .i64 (((max (max m0 m1) m2:Nat)):Int),fun v _=>v=.int .i64 ((1)+(((max (max m0 m1) m2:Nat):Int))),fun v _=>v=.int .i64 ((1)+(((max (max m0 m1) m2:Nat):Int)))] (by kernel_rfl) (by kernel_rfl) rfl ?_ ⟨?_,?_,?_,?_,?_,?_,?_,?_,?_,?_,?_,?_,trivial⟩ ?_
 ·exact⟨Zi,Zi,Zi,Zi,Zi,Zi,Zi,Zi,Zi,Zi,Zi,Zi,trivial⟩
 ·intro u w hR hd;exact rn_fld_49_3 (ev rfl) Zr
 ·intro u w hR hd;exact rn_ld_33 (ev (hd.1 rfl)) (d3.kept hR) Zr
 ·intro u w hR hd;exact runs_c2 en_grX (ev (hd.1 rfl)) rfl (callp (fun _ e=>e) (HX0.out _ (HGV.out.trans ((Grew.refl _).drw.trans hR))))
 ·intro u w hR hd;exact rn_fld_49_4 (ev rfl) Zr
 ·intro u w hR hd;exact rn_ld_40 (ev (hd.1 rfl)) (d4.kept hR) Zr
 ·intro u w hR hd;exact runs_c2 en_grS (ev (hd.1 rfl)) rfl (callp (fun _ e=>e) (HX1.out _ (HGV.out.trans ((Grew.refl _).drw.trans hR))))
 ·intro u w hR hd;exact rn_fld_49_5 (ev rfl) Zr
 ·intro u w hR hd;exact rn_ld_40 (ev (hd.1 rfl)) (d5.kept hR) Zr
 ·intro u w hR hd;exact runs_c2 en_grS (ev (hd.1 rfl)) rfl (callp (fun _ e=>e) (HX2.out _ (HGV.out.trans ((Grew.refl _).drw.trans hR))))
 ·intro u w hR hd;exact runs_max3 (ev (hd.1 rfl)) (ev (hd.2.1 rfl)) (ev (hd.2.2.1 rfl)) Zr
 ·intro u w hR hd;exact rn_add_3 rfl (ev (hd.1 rfl)) (by omega) Zr
 ·intro u w hR hd;exact runs_mva (ev (hd.1 rfl)) Zr
 ·intro u w4 hR hh
  have he:u 2=.int .i64 ((1)+(((max (max m0 m1) m2:Nat):Int))):=hh 11 (by decide)
  simp only [mixA,mixL,zz9,zz0,he]
  have HG4:Hid (Grew w w4):=zh (HGV.out.trans ((Grew.refl V).drw.trans hR))
  clear hh he hR d0 d1 d2 d3 d4 d5 d6 HGV
  go_wp2
  go_ret
  exact⟨by go_num,HG4.out⟩
set_option maxHeartbeats 8000000 in
theorem tsize_any (t:Ta) (B:Nat→Prop) (w:World) (pb:Option Addr) (cb:Nat) (hy:SL B w pb cb t.b) (hn:nSs t.b≤1048576) (hm:mSs t.b≤1048576) :
 Calls Tryz.prog 82 #[tv t.s t.p t.d t.c t.m t.w pb t.b.length cb t.q] w fun e w'=>e=.returned (.int .i64 ((nSs t.b+mSs t.b:Nat):Int))∧Grew w w':=by
 obtain ⟨s,i,d,h,m,n,y,q⟩:=t
 dsimp only at hy hn hm ⊢
 rw [zS_sum]
 have hcap:y.length≤cb:=hy.cap.1
 have hmax:=hy.cap.2.1
 have HC:Hid (∀W,Grew w W→Calls Tryz.prog 83 #[.slice pb y.length cb,.func (.func 84) #[] #[]] W fun e w'=>e=.returned (.int .i64 (sumF zSm y:Nat))∧Grew W w') :=
  zh (fun W hW=>totalS_any 84 #[] en_ss y zSm B W pb cb (hy.kept hW) (by rw [← zS_sum];omega) (fun z hz a1 a2 a3 a4 a5 a6 W2 q1 q2 q3 q4 hW2=>ssize_any z B W2 a1 a2 a3 a4 a5 a6 q1 q2 q3 (by have:=nSs_mem hz;omega) (by have:=mSs_mem hz;omega)))
 generalize sumF zSm y=k at HC ⊢
 clear hy hn hm
 go_enter Tryz.func82,Tryz.ntmps82
 go_wp2_with (go_at_call 83;(with_reducible refine(HC.out _ ((Grew.refl _).alloc _)).mono ?_);rintro e w1 ⟨rfl,g1⟩;have HG1:=zh (((Grew.refl _).alloc _).trans g1);clear g1)
 go_ret
 exact⟨rfl,HG1.out⟩
set_option maxHeartbeats 8000000 in
theorem tdepth_any (t:Ta) (B:Nat→Prop) (w:World) (pb:Option Addr) (cb:Nat) (hy:SL B w pb cb t.b) (hn:nSs t.b≤1048576) (hm:mSs t.b≤1048576) :
 Calls Tryz.prog 86 #[tv t.s t.p t.d t.c t.m t.w pb t.b.length cb t.q] w fun e w'=>e=.returned (.int .i64 ((dSs t.b:Nat):Int))∧Grew w w':=by
 obtain ⟨s,i,d,h,m,n,y,q⟩:=t
 dsimp only at hy hn hm ⊢
 rw [dSs_max]
 have hcap:y.length≤cb:=hy.cap.1
 have hmax:=hy.cap.2.1
 have HC:Hid (∀W,Grew w W→Calls Tryz.prog 87 #[.slice pb y.length cb,.func (.func 88) #[] #[]] W fun e w'=>e=.returned (.int .i64 (maxF dS y:Nat))∧Grew W w') :=
  zh (fun W hW=>greatS_any 88 #[] en_sd y dS B W pb cb (hy.kept hW) (fun y hy=>by have h1:=nSs_mem hy;have h2:=mSs_mem hy;have h3:=dS_le y;omega) (fun z hz a1 a2 a3 a4 a5 a6 W2 q1 q2 q3 q4 hW2=>sdepth_any z B W2 a1 a2 a3 a4 a5 a6 q1 q2 q3 (by have:=nSs_mem hz;omega) (by have:=mSs_mem hz;omega)))
 generalize maxF dS y=k at HC ⊢
 clear hy hn hm
 go_enter Tryz.func86,Tryz.ntmps86
 go_wp2_with (go_at_call 87;(with_reducible refine(HC.out _ ((Grew.refl _).alloc _)).mono ?_);rintro e w1 ⟨rfl,g1⟩;have HG1:=zh (((Grew.refl _).alloc _).trans g1);clear g1)
 go_ret
 exact⟨rfl,HG1.out⟩
set_option maxHeartbeats 8000000 in
theorem psize_any (P:Pg) (B:Nat→Prop) (w:World) (cp gp sp op hp tp:Option Addr) (cc gc sc oc hc tc:Nat) (hpg:PgIn B w P cp gp sp op hp tp cc gc sc oc hc tc) (hn:zT P.ts≤1048576) :
 Calls Tryz.prog 31 #[pgv P cp gp sp op hp tp cc gc sc oc hc tc] w fun e w'=>e=.returned (.int .i64 ((zT P.ts:Nat):Int))∧Grew w w':=by
 obtain ⟨hcaps,hmaxs⟩:=hpg.caps
 have hts:=hpg.ts
 obtain ⟨cs,gs,ss,os,hs,ts⟩:=P
 dsimp only at hcaps hts hn ⊢
 rw [zT_sum]
 have HC:Hid (∀W,Grew w W→Calls Tryz.prog 81 #[.slice tp ts.length tc,.func (.func 82) #[] #[]] W fun e w'=>e=.returned (.int .i64 (sumF (fun t:Ta=>nSs t.b+mSs t.b) ts:Nat))∧Grew W w') :=
  zh (fun W hW=>totalT_any 82 #[] en_ts ts (fun t:Ta=>nSs t.b+mSs t.b) B W tp tc (hts.kept hW) (by rw [← zT_sum];omega) (fun y hy a1 a2 W2 q1 q2 hW2=>tsize_any y B W2 a1 a2 q1 (by have:=zT_mem hy;omega) (by have:=zT_mem hy;omega)))
 generalize sumF (fun t:Ta=>nSs t.b+mSs t.b) ts=k at HC ⊢
 clear hpg hts hn
 go_enter Tryz.func31,Tryz.ntmps31
 go_wp2_with (go_at_call 81;(with_reducible refine(HC.out _ ((Grew.refl _).alloc _)).mono ?_);rintro e w1 ⟨rfl,g1⟩;have HG1:=zh (((Grew.refl _).alloc _).trans g1);clear g1)
 go_ret
 exact⟨rfl,HG1.out⟩
set_option maxHeartbeats 8000000 in
theorem pdepth_any (P:Pg) (B:Nat→Prop) (w:World) (cp gp sp op hp tp:Option Addr) (cc gc sc oc hc tc:Nat) (hpg:PgIn B w P cp gp sp op hp tp cc gc sc oc hc tc) (hn:zT P.ts≤1048576) :
 Calls Tryz.prog 33 #[pgv P cp gp sp op hp tp cc gc sc oc hc tc] w fun e w'=>e=.returned (.int .i64 ((dT P.ts:Nat):Int))∧Grew w w':=by
 obtain ⟨hcaps,hmaxs⟩:=hpg.caps
 have hts:=hpg.ts
 obtain ⟨cs,gs,ss,os,hs,ts⟩:=P
 dsimp only at hcaps hts hn ⊢
 rw [dT_max]
 have HC:Hid (∀W,Grew w W→Calls Tryz.prog 85 #[.slice tp ts.length tc,.func (.func 86) #[] #[]] W fun e w'=>e=.returned (.int .i64 (maxF (fun t:Ta=>dSs t.b) ts:Nat))∧Grew W w') :=
  zh (fun W hW=>greatT_any 86 #[] en_td ts (fun t:Ta=>dSs t.b) B W tp tc (hts.kept hW) (fun y hy=>by have h1:=zT_mem hy;have h2:=dSs_le y.b;show dSs y.b≤_;omega) (fun y hy a1 a2 W2 q1 q2 hW2=>tdepth_any y B W2 a1 a2 q1 (by have:=zT_mem hy;omega) (by have:=zT_mem hy;omega)))
 generalize maxF (fun t:Ta=>dSs t.b) ts=k at HC ⊢
 clear hpg hts hn
 go_enter Tryz.func33,Tryz.ntmps33
 go_wp2_with (go_at_call 85;(with_reducible refine(HC.out _ ((Grew.refl _).alloc _)).mono ?_);rintro e w1 ⟨rfl,g1⟩;have HG1:=zh (((Grew.refl _).alloc _).trans g1);clear g1)
 go_ret
 exact⟨rfl,HG1.out⟩

abbrev PtrTo (b:Nat):Value:=.pointer (some ⟨b,0,none⟩)
structure BT (T:TypeId) (k:Nat):Prop where
 lies:liesAt Tryz.prog Tryz.prog.depth T ((k+2) / Tryz.prog.cellsOf T) 0 70 1=true
 ne:T≠5
def BldT (T:TypeId) (rs:List Value) (N b:Nat) (xs:List UInt8) (w:World):Prop :=
 N≤b∧∃p v,(p=.pointer none∨p=PtrTo b)∧Blk b (p :: v :: rs) T w∧Own w N 5 v xs
def Wrote (N b:Nat) (w w':World):Prop:=Below N w w'∧Lib.OthersKept 5 (some b) w w'
theorem Wrote.bel {N b:Nat}{w w':World}(h:Wrote N b w w'):Below N w w':=h.1
theorem Wrote.refl (N b:Nat) (w:World):Wrote N b w w:=⟨Below.refl N w,Lib.OthersKept.refl _ _ w⟩
theorem Wrote.trans {N b:Nat}{u v w:World}(h:Wrote N b u v) (h':Wrote N b v w):Wrote N b u w:=⟨h.1.trans h'.1,h.2.trans h'.2⟩
theorem Wrote.grew {N b:Nat}{u v w:World}(h:Wrote N b u v) (hg:Grew v w) (hN:N≤u.heap.size):Wrote N b u w :=
 ⟨h.1.trans (hg.mono (Nat.le_trans hN h.1.size)),h.2.below hg⟩
theorem Wrote.of_grew {N b:Nat}{u v:World}(hg:Grew u v) (hN:N≤u.heap.size):Wrote N b u v:=(Wrote.refl N b u).grew hg hN
theorem Blk.wrote {N b S:Nat}{vs:List Value}{e:TypeId}{w w':World}(h:Blk S vs e w) (hw:Wrote N b w w') (hS:S≠b) (he:e≠5):Blk S vs e w' :=
 hw.2 S _ h (fun hh=>hS (Option.some.inj hh)) (fun c fz hh=>by cases hh;exact he rfl)
theorem OwR.wrote {α:Type}{k:Nat}{enc:α→List Value}(E:Enc k enc){N b base:Nat}{e:TypeId}{p:Option Addr}{n c:Nat}{xs:List α}{w w':World}(h:OwR w base e k enc (.slice p n c) xs) (hw:Wrote N b w w') (he:e≠5) (hb:∀a,p=some a→a.block≠b):OwR w' base e k enc (.slice p n c) xs:=by
 refine⟨h.1,?_⟩
 rcases h.2 with hn | ⟨g,cap,cur,hv,h1,hg,rest⟩
 ·exact .inl hn
 ·refine .inr ⟨g,cap,cur,hv,h1,hw.2 g _ hg (fun hh=>?_) (fun c fz hh=>by cases hh;exact he rfl),rest⟩
  simp only [Value.slice.injEq] at hv
  exact hb _ hv.1 (Option.some.inj hh)
section
variable {T:TypeId}{rs:List Value}{N b:Nat}{xs:List UInt8}{w w':World}
theorem BldT.made (N:Nat) (w:World) (hN:N≤w.heap.size) (cs:Array Value) (hc:cs=(.pointer none :: .slice none 0 0 :: rs).toArray):BldT T rs N w.heap.size [] (w.alloc (.cells cs T)) :=
 ⟨hN,.pointer none,.slice none 0 0,.inl rfl,by rw [hc];exact Blk.new w (.pointer none :: .slice none 0 0 :: rs) _,Own.empty _ _ _⟩
theorem BldT.grew (h:BldT T rs N b xs w) (hg:Grew w w'):BldT T rs N b xs w':=by
 obtain ⟨h1,p,v,h2,h3,h4⟩:=h
 exact⟨h1,p,v,h2,h3.grew hg,h4.gr hg⟩
theorem BldT.lt (h:BldT T rs N b xs w):b < w.heap.size:=by
 obtain ⟨h1,p,v,h2,h3,h4⟩:=h
 exact h3.lt
theorem BldT.ge (h:BldT T rs N b xs w):N≤b:=h.1
theorem BldT.rest (h:BldT T rs N b xs w){j:Nat}{v:Value}(hv:rs[j]?=some v):w.cell? ⟨b,j+2,none⟩=some v:=by
 obtain ⟨h1,p,v',h2,h3,h4⟩:=h
 have:=h3.cell (j+2)
 rw [this]
 simpa using hv
theorem BldT.free (h:BldT T rs N b xs w) (j:Nat):w.frozen? ⟨b,j,none⟩=false:=by
 obtain ⟨h1,p,v',h2,h3,h4⟩:=h
 exact h3.free j
end
def BldU (T:TypeId) (rs:List Value) (N b:Nat) (xs:List UInt8) (w:World):Prop:=N≤b∧∃v,Blk b (PtrTo b :: v :: rs) T w∧Own w N 5 v xs
theorem BldU.bld {T:TypeId}{rs:List Value}{N b:Nat}{xs:List UInt8}{w:World}(h:BldU T rs N b xs w):BldT T rs N b xs w:=by
 obtain ⟨h1,v,h3,h4⟩:=h
 exact⟨h1,_,v,.inr rfl,h3,h4⟩
theorem infoU8:(Tryz.prog.info? 5).map (fun i=>(i.zero,i.size,i.bytes))=some (some (.int .u8 0),1,1):=by kernel_rfl
theorem infoBd:∃j,Tryz.prog.info? 70=some j∧j.size=2:=by
 have h:(Tryz.prog.info? 70).map (fun i=>i.size)=some 2:=by kernel_rfl
 obtain ⟨j,h1,h2⟩:=Option.map_eq_some_iff.1 h
 exact⟨j,h1,h2⟩
theorem infoPb:∃j,Tryz.prog.info? 67=some j:=by
 have h:(Tryz.prog.info? 67).map (fun i=>i.size)=some 1:=by kernel_rfl
 obtain ⟨j,h1,h2⟩:=Option.map_eq_some_iff.1 h
 exact⟨j,h1⟩
theorem Own.set_other {w:World}{N:Nat}{e e':TypeId}{v:Value}{xs:List UInt8}(h:Own w N e v xs) (he:e≠e'){S i:Nat}{vs:List Value}(hb:Blk S vs e' w) (u:Value):Own (w.setCell ⟨S,i,none⟩ u) N e v xs:=by
 refine⟨h.1,?_⟩
 rcases h.2 with hn | ⟨g,cap,cur,hv,h1,hg,rest⟩
 ·exact .inl hn
 ·refine .inr ⟨g,cap,cur,hv,h1,?_,rest⟩
  have hne:g≠S:=fun hh=>by
   have h2:w.heap[S]?=_:=hb
   rw [hh,h2] at hg
   simp at hg
   exact he hg.2.symm
  exact(heap_setCell_other w ⟨S,i,none⟩ g u hne).trans hg
theorem BldT.put {T:TypeId}{rs:List Value}{N b:Nat}{xs:List UInt8}{w:World}(hT:T≠5) (h:BldT T rs N b xs w) (j:Nat) (u:Value):BldT T (rs.set j u) N b xs (w.setCell ⟨b,j+2,none⟩ u):=by
 obtain ⟨h1,p,v,h2,h3,h4⟩:=h
 refine⟨h1,p,v,h2,?_,h4.set_other (Ne.symm hT) h3 _⟩
 have:=h3.set (j+2) u
 simpa using this
set_option maxHeartbeats 1000000 in
set_option maxRecDepth 100000 in
theorem check_any {T:TypeId}{rs:List Value}(hT:BT T rs.length) (N b:Nat) (xs:List UInt8) (w:World) (h:BldT T rs N b xs w) :
 Calls Tryz.prog 133 #[PtrTo b] w fun e w'=>e=.returned (.tuple #[])∧BldU T rs N b xs w'∧Wrote N b w w'∧w'.heap.size=w.heap.size:=by
 obtain ⟨hN,p,v,hp,hb,ho⟩:=h
 obtain ⟨j,hj,hjs⟩:=infoBd
 have c0:w.cell? ⟨b,0,none⟩=some p:=hb.cell 0
 have f0:=hb.free 0
 have hsh:w.shape? b=some (T,rs.length+2):=by
  have h2:w.heap[b]?=_:=hb
  simp [World.shape?,h2]
 rcases hp with rfl | rfl
 ·have h1:=Lib.run_to_unsafe (P:=Tryz.prog) w ⟨b,0,none⟩ (src:=67) (dst:=170) Tryz.underlying67 Tryz.underlying170 hj (by rw [hjs];decide) hsh (Nat.zero_lt_succ _)
  have h2:=Lib.run_from_unsafe (P:=Tryz.prog) w ⟨b,0,none⟩ (src:=170) (dst:=67) Tryz.underlying170 Tryz.underlying67 hj hsh hT.lies
  have HF:Hid (BldU T rs N b xs (w.setCell ⟨b,0,none⟩ (PtrTo b))∧Wrote N b w (w.setCell ⟨b,0,none⟩ (PtrTo b))) :=
   zh ⟨⟨hN,v,hb.set 0 _,ho.set_other (Ne.symm hT.ne) hb _⟩,(Below.refl N w).setCell (p:=⟨b,0,none⟩) hN _,(Lib.OthersKept.refl _ _ w).setCell ⟨b,0,none⟩ rfl _⟩
  clear hb ho hsh hT
  go_enter Tryz.func133,Tryz.ntmps133
  go_wp2
  rw [run_callFunc_extern Tryz.func154 (by kernel_rfl) (by kernel_rfl) (by kernel_rfl) (e:=Extern.AbiNoEscape.same) (by kernel_rfl)]
  rw [Lib.run_noEscape]
  simp only [Result.andThen]
  rw [Oper.upon_value]
  go_wp2
  go_end0
  exact⟨rfl,HF.out.1,HF.out.2,by simp⟩
 ·obtain ⟨jp,hjp⟩:=infoPb
  have hne:=Lib.run_neq_ptr_same (P:=Tryz.prog) w (tp:=67) ⟨b,0,none⟩ Tryz.underlying67 hj
  have HF:Hid (BldU T rs N b xs w):=zh ⟨hN,v,hb,ho⟩
  clear hb ho hsh hT
  go_enter Tryz.func133,Tryz.ntmps133
  go_wp2
  go_end0
  exact⟨rfl,HF.out,Wrote.refl _ _ _,rfl⟩
theorem BldU.put {T:TypeId}{rs:List Value}{N b:Nat}{v v':Value}{xs:List UInt8}{w:World}(hT:T≠5) (hN:N≤b) (hb:Blk b (PtrTo b :: v :: rs) T w) (ho:Own w N 5 v' xs):BldU T rs N b xs (w.setCell ⟨b,1,none⟩ v') :=
 ⟨hN,v',hb.set 1 _,ho.set_other (Ne.symm hT) hb _⟩
theorem wrote_put {N b:Nat}{v v':Value}{xs:List UInt8}{u w w':World}(hN:N≤b) (hu:N≤u.heap.size) (h:Wrote N b u w) (ho:Own w N 5 v xs) (hb:Below N w w') (hc:Chg w w' (fun j=>v.ownBlock=some j)):Wrote N b u (w'.setCell ⟨b,1,none⟩ v'):=by
 refine⟨(h.1.trans hb).setCell (p:=⟨b,1,none⟩) hN _,Lib.OthersKept.setCell (h.2.trans fun k o hk hne hno=>?_) ⟨b,1,none⟩ rfl _⟩
 refine(hc.block k (lt_of_heap hk) fun hs=>?_).trans hk
 rcases ho.2 with ⟨hv,_⟩ | ⟨g,cap,cur,hv,_,hg,_⟩
 ·rw [hv] at hs
  cases hs
 ·rw [hv,ownBlock_sl] at hs
  obtain rfl:g=k:=Option.some.inj hs
  rw [hk] at hg
  exact hno _ _ (Option.some.inj hg)
set_option maxHeartbeats 2000000 in
set_option maxRecDepth 100000 in
theorem wstr_any {T:TypeId}{rs:List Value}(hT:BT T rs.length) (N b:Nat) (xs l:List UInt8) (w:World) (h:BldT T rs N b xs w) (hl:xs.length+l.length≤140737488355328) (hN:N≤w.heap.size) :
 Calls Tryz.prog 93 #[PtrTo b,.string ⟨l.toArray⟩] w fun e w'=>(∃v,e=.returned v)∧BldT T rs N b (xs++l) w'∧Wrote N b w w':=by
 have HC:=zh (check_any hT N b xs w h)
 have hsz:(⟨l.toArray⟩:ByteArray).size=l.length:=rfl
 have HT:=zh hT.ne
 clear h hT
 go_enter Tryz.func93,Tryz.ntmps93
 go_wp2_with (go_at_call 133;(with_reducible refine(HC.out).mono ?_))
 rintro e w1 ⟨rfl,⟨hNb,v,hb1,ho1⟩,hw1,hz1⟩
 have c0:w1.cell? ⟨b,0,none⟩=some (PtrTo b):=hb1.cell 0
 have c1:w1.cell? ⟨b,1,none⟩=some v:=hb1.cell 1
 have HO:=zh ho1
 have HB:=zh hb1
 have HW:=zh hw1
 have HN:=zh hNb
 have hN1:N≤w1.heap.size:=by omega
 clear ho1 hb1 hw1 hNb
 go_wp2_with (at_builtin;refine wpList_append_str rfl _ _ 68 9 rfl N 5 Tryz.underlying68 Tryz.underlying9 infoU8 _ xs rfl HO.out l rfl hl hN1 ?_)
 intro p2 c2 zs2 w2 hz2 ho2 hb2 hc2
 have hbk:Blk b (PtrTo b :: v :: rs) T w2:=HB.out.chg hc2 (fun hs=>by
  obtain ⟨p',c',hv,_⟩:=HO.out.shape
  rw [hv] at hs
  exact Own.apart (hv ▸ HO.out) (Ne.symm HT.out) HB.out hs)
 have d0:w2.cell? ⟨b,0,none⟩=some (PtrTo b):=hbk.cell 0
 have d1:w2.cell? ⟨b,1,none⟩=some v:=hbk.cell 1
 have f1:w2.frozen? ⟨b,1,none⟩=false:=hbk.free 1
 obtain rfl:=hz2.out
 have HP:=zh (BldU.put HT.out HN.out hbk ho2)
 have HQ:=zh (wrote_put (v':=.slice p2 (xs++l).length c2) HN.out hN HW.out HO.out hb2 hc2)
 rw [List.length_append] at HP HQ
 clear hbk ho2 hb2 hc2 hz2
 go_wp2
 refine bodyPost_ret (v:=.tuple #[.int .i64 (l.length:Int),.nilIface]) (by simp [results,Tryz.results93,go_sem,hsz]) rfl ?_
 exact⟨⟨_,rfl⟩,HP.out.bld,HQ.out⟩
theorem btB:BT 70 0:=⟨by kernel_rfl,by decide⟩
theorem btP:BT 72 1:=⟨by kernel_rfl,by decide⟩
theorem BldT.isF {N b:Nat}{xs:List UInt8}{w:World}(h:BldT 70 [] N b xs w):Lib.IsBuilderF 70 5 N b (Lib.byteCells xs) w:=by
 obtain ⟨h1,p,v,hp,hb,ho⟩:=h
 have key:Lib.BuilderAtF 70 5 N b p (Lib.byteCells xs) w:=by
  refine⟨h1,v,hb,?_,fun hs=>?_⟩
  ·have e1:Lib.byteCells xs=bvs xs:=rfl
   rw [e1,bvs_len]
   exact World.ownsRowF_of ho
  ·obtain ⟨p',c',hv,_⟩:=ho.shape
   rw [hv] at hs
   exact Own.apart (hv ▸ ho) (by decide) hb hs
 rcases hp with rfl | rfl
 ·exact .inl key
 ·exact .inr key
theorem str_any (N b:Nat) (xs:List UInt8) (w:World) (h:BldT 70 [] N b xs w) (hN:N≤w.heap.size) :
 Calls Tryz.prog 45 #[PtrTo b] w fun e w'=>e=.returned (.string ⟨xs.toArray⟩)∧Below N w w' :=
 (Tryz.Builder_String_any_k N b xs w h.isF hN).mono fun _ _ ⟨h1,_,h2,_⟩=>⟨h1,h2⟩
set_option maxHeartbeats 4000000 in
set_option maxRecDepth 100000 in
theorem strT_raw (b:Nat) (p:Option Addr) (n cap:Nat) (q:Value) (y:ByteArray) (w w2:World) (c1:w.drew.cell? ⟨b,1,none⟩=some (.slice p n cap))
 (hSD:(Builtin.unsafeSliceData_ #[68] 114 #[.slice p n cap]).run Tryz.prog w.drew=.ok q w.drew)
 (hUS:(Builtin.unsafeString_ #[114,3] 9 #[q,.int .i64 n]).run Tryz.prog w.drew=.ok (.string y) w2) :
 Calls Tryz.prog 45 #[PtrTo b] w fun e w'=>e=.returned (.string y)∧w'=w2:=by
 have mixed:Tryz.prog.follows Departure.mixedOrders=true:=by kernel_rfl
 go_enter Tryz.func45,Tryz.ntmps45
 go_wp2
 go_region_o
 all_goals (go_wp2;go_ret;exact⟨rfl,rfl⟩)
theorem strP_any {T:TypeId}{rs:List Value}(N b:Nat) (xs:List UInt8) (w:World) (h:BldT T rs N b xs w) (hn:xs≠[]) :
 Calls Tryz.prog 45 #[PtrTo b] w fun e w'=>e=.returned (.string ⟨xs.toArray⟩)∧Below N w w':=by
 obtain ⟨h1,p,v,hp,hb,ho⟩:=h
 have hl0:xs.length≠0:=by simpa using hn
 rcases ho.2 with ⟨_,hz⟩ | ⟨g,cap,cur,rfl,hbg,hg,hnc,hcm,hcs,htake⟩
 ·exact absurd hz hl0
 ·have c1:w.drew.cell? ⟨b,1,none⟩=some (.slice (some ⟨g,0,none⟩) xs.length cap):=hb.cell 1
  have hSD:(Builtin.unsafeSliceData_ #[68] 114 #[.slice (some ⟨g,0,none⟩) xs.length cap]).run Tryz.prog w.drew=.ok (.pointer (some ⟨g,0,none⟩)) w.drew :=
   Lib.run_unsafeSliceData_row _ _ _ _ _ _ (by omega)
  have hUS:(Builtin.unsafeString_ #[114,3] 9 #[.pointer (some ⟨g,0,none⟩),.int .i64 xs.length]).run Tryz.prog w.drew=.ok (.string ⟨xs.toArray⟩) (w.drew.freeze ⟨g,0,none⟩ xs.length):=by
   refine Lib.run_unsafeString_row w.drew 114 3 9 5 Tryz.underlying114 (by kernel_rfl) g cur.size (by have hg':w.drew.heap[g]?=some (.cells cur 5):=hg;simp [World.shape?,hg']) xs hn (by omega) (by unfold maxLen at hcm;omega) ?_
   intro j x hx
   exact World.ownsRow.cells (w:=w) ho (g:=g) rfl j (.int .u8 x.toNat) (by simp [bvs,bv,hx])
  exact(strT_raw b _ _ _ _ _ w _ c1 hSD hUS).mono fun e w' hh=>by
   obtain ⟨rfl,rfl⟩:=hh
   exact⟨rfl,Lib.below_freeze (Below.drew (Below.refl N w)) (p:=⟨g,0,none⟩) hbg _⟩
theorem strP_nil (b:Nat) (w:World) (c1:w.cell? ⟨b,1,none⟩=some (.slice none 0 0)) :
 Calls Tryz.prog 45 #[PtrTo b] w fun e w'=>e=.returned (.string ⟨#[]⟩)∧Grew w w' :=
 (strT_raw b none 0 0 (.pointer none) ⟨#[]⟩ w w.drew c1 (Lib.run_unsafeSliceData_nil _ _ _ _ _) (Lib.run_unsafeString_none _ _ _ _ _)).mono fun e w' hh=>by
   obtain ⟨rfl,rfl⟩:=hh
   exact⟨rfl,(Grew.refl w).drw⟩
theorem runs_c3 {P:Program}{dst:Option Tmp}{ty:TypeId}{pos:String}{after:Array Edge}{g:Option (Nat × Bool)}{a:Act}{w:World}{T:Value→World→Prop}{f:FuncId}{x y z:Operand}{ts:Array TypeId}{v u t:Value}(hf:Enters P f) (hx:a.eval x=v) (hy:a.eval y=u) (hz:a.eval z=t) (h:Calls P f #[v,u,t] w fun e w''=>∃v,e=.returned v∧T v w''):Runs P ⟨dst,.call { callee:=.value (.func f),args:=#[x,y,z],argTypes:=ts },ty,pos,after,g⟩ a w T :=
 runs_call hf (by simp [hx,hy,hz]) h
def Gs:List Nat:=[2,0,3,1,4]
theorem var?_lt {P:Program}{w:World}{n:String}{g:Nat}{cs:Array Value}(hg:P.globalNamed n=some g) (h:w.var? P n=some cs):g < w.heap.size:=by
 unfold World.var? at h
 simp only [hg,Option.bind_some] at h
 rcases Nat.lt_or_ge g w.heap.size with h' | h'
 ·exact h'
 ·simp [Array.getElem?_eq_none h'] at h
theorem var?_below {P:Program}{w w':World}{n:String}{g N:Nat}{cs:Array Value}(hg:P.globalNamed n=some g) (hN:g < N) (hb:Below N w w') (h:w.var? P n=some cs):w'.var? P n=some cs:=by
 unfold World.var? at h ⊢
 simp only [hg,Option.bind_some] at h ⊢
 rw [hb.block g hN]
 exact h
theorem Env.lts {w:World}(h:Env w):∀g ∈ Gs,g < w.heap.size:=by
 obtain ⟨h1,h2,h3,h4,h5⟩:=h
 intro g hg
 simp only [Gs,List.mem_cons,List.not_mem_nil,or_false] at hg
 rcases hg with rfl | rfl | rfl | rfl | rfl
 ·exact var?_lt (by kernel_rfl) h1
 ·exact var?_lt (by kernel_rfl) h2
 ·exact var?_lt (by kernel_rfl) h3
 ·exact var?_lt (by kernel_rfl) h4
 ·exact var?_lt (n := "internal/strconv.uint64pow10") (by kernel_rfl) h5
def EnvB (N:Nat) (w:World):Prop:=Env w∧∀g ∈ Gs,g < N
theorem EnvB.of {w:World}(h:Env w):EnvB w.heap.size w:=⟨h,h.lts⟩
theorem EnvB.below {N:Nat}{w w':World}(h:EnvB N w) (hb:Below N w w'):EnvB N w':=by
 obtain ⟨⟨h1,h2,h3,h4,h5⟩,hN⟩:=h
 refine ⟨⟨var?_below (by kernel_rfl) (hN 2 (by decide)) hb h1, var?_below (by kernel_rfl) (hN 0 (by decide)) hb h2, var?_below (by kernel_rfl) (hN 3 (by decide)) hb h3, var?_below (by kernel_rfl) (hN 1 (by decide)) hb h4, var?_below (n := "internal/strconv.uint64pow10") (by kernel_rfl) (hN 4 (by decide)) hb h5⟩, hN⟩
theorem EnvB.wrote {N b:Nat}{w w':World}(h:EnvB N w) (hw:Wrote N b w w'):EnvB N w':=h.below hw.1
theorem EnvB.grew {N:Nat}{w w':World}(h:EnvB N w) (hg:Grew w w'):EnvB N w':=⟨h.1.grew hg,h.2⟩
theorem below_cell {N:Nat}{w w':World}{b j:Nat}{v:Value}(hb:Below N w w') (hlt:b < N) (h:w.cell? ⟨b,j,none⟩=some v):w'.cell? ⟨b,j,none⟩=some v:=by
 unfold World.cell? at h ⊢
 rw [hb.block b hlt]
 exact h
theorem str_eta (s:ByteArray):∃l:List UInt8,s=⟨l.toArray⟩:=⟨s.data.toList,by cases s;simp⟩
theorem lit_cat (l:List UInt8) (s:ByteArray):(⟨l.toArray⟩:ByteArray)++s=⟨(l++s.data.toList).toArray⟩:=by
 obtain ⟨m,rfl⟩:=str_eta s
 exact str_append l m
theorem en_wo:Enters Tryz.prog 142:=fun args w=>by go_simp
theorem en_ll:Enters Tryz.prog 143:=fun args w=>by go_simp
theorem en_it:Enters Tryz.prog 40:=fun args w=>by go_simp
theorem en_ws:Enters Tryz.prog 93:=fun args w=>by go_simp
set_option maxHeartbeats 4000000 in
theorem lev_any (k:Int) (s:ByteArray) (z o:Int) (p:Option Addr) (n c:Nat) (q:Int) (w:World) (hE:Env w) (hok:(k=5→o=1∨o=2)∧(k=6→3≤o∧o≤15)) :
 Calls Tryz.prog 165 #[xv k s z o p n c q] w fun e w'=>e=.returned (.int .i64 (lvX k o))∧Grew w w':=by
 by_cases hk:k=5∨k=6
 ·have ho:1≤o∧o≤15:=by
   rcases hk with h | h
   ·have:=hok.1 h;omega
   ·have:=hok.2 h;omega
  obtain ⟨on,rfl⟩:∃m:Nat,o=(m:Int):=⟨o.toNat,by omega⟩
  have hv:lvX k (on:Int)=lvO (on:Int):=by
   rcases hk with rfl | rfl
   ·have:=hok.1 rfl
    rw [lvX,if_pos rfl,lvO,if_pos (by omega)]
   ·have:=hok.2 rfl
    rw [lvX,if_neg (by decide),if_pos rfl,lvO,if_neg (by omega)]
  rw [hv]
  have h1:w.cell? ⟨1,on * 2+1,none⟩=some (.int .i64 (lvO (on:Int))):=hE.op on (by omega) (by omega) 1 rfl
  have b1:(on:Int) < 16:=by omega
  have b2:(0:Int)≤(on:Int):=by omega
  have b3:1 < w.heap.size:=World.block_lt_of_cell? _ _ h1
  generalize lvO (on:Int)=l at h1 ⊢
  clear hE hok hv ho
  rcases hk with rfl | rfl
  ·go_enter Tryz.func165,Tryz.ntmps165
   go_wp2
   go_ret
   exact⟨rfl,(Grew.refl _).alloc _⟩
  ·go_enter Tryz.func165,Tryz.ntmps165
   go_wp2
   go_ret
   exact⟨rfl,(Grew.refl _).alloc _⟩
 ·have h5:(k==5)=false:=beq_eq_false_iff_ne.2 fun h=>hk (.inl h)
  have h6:(k==6)=false:=beq_eq_false_iff_ne.2 fun h=>hk (.inr h)
  have hv:lvX k o=7:=by rw [lvX,if_neg (fun h=>hk (.inl h)),if_neg (fun h=>hk (.inr h))]
  rw [hv]
  clear hE hok hv hk
  go_enter Tryz.func165,Tryz.ntmps165
  go_wp2
  go_ret
  exact⟨rfl,(Grew.refl _).alloc _⟩
theorem least_any (t:ByteArray) (l:Int) (w:World) (hl:l≤100):Calls Tryz.prog 143 #[.agg #[.string t,.int .i64 l]] w fun e w'=>e=.returned (.int .i64 (if l=3 then 4 else l))∧Grew w w':=by
 by_cases h:l=3
 ·subst h
  go_enter Tryz.func143,Tryz.ntmps143
  go_wp2
  go_ret
  exact⟨rfl,(Grew.refl _).alloc _⟩
 ·have h3:(l==3)=false:=beq_eq_false_iff_ne.2 h
  rw [if_neg h]
  clear h
  go_enter Tryz.func143,Tryz.ntmps143
  go_wp2
  go_ret
  exact⟨rfl,(Grew.refl _).alloc _⟩
abbrev WxC (x:Xp):Prop:=∀(N b:Nat) (xs:List UInt8) (B:Nat→Prop) (w:World) (p:Option Addr) (c:Nat),BldT 70 [] N b xs w→N≤w.heap.size→(∀i,B i→i < N)→XL B w p c x.ar→(x.s.size≤1048576∧x.v≤32767)→EnvB N w→okX x=true→xs.length+(txX x).length≤140737488355328 →
 Calls Tryz.prog 101 #[PtrTo b,xv x.k x.s x.v x.o p x.ar.length c x.q] w fun e w'=>e=.returned (.tuple #[])∧BldT 70 [] N b (xs++txX x) w'∧Wrote N b w w'
abbrev OpC (x:Xp):Prop:=∀(least:Int) (N b:Nat) (xs:List UInt8) (B:Nat→Prop) (w:World) (p:Option Addr) (c:Nat),BldT 70 [] N b xs w→N≤w.heap.size→(∀i,B i→i < N)→XL B w p c x.ar→(x.s.size≤1048576∧x.v≤32767)→EnvB N w→okX x=true→xs.length+(opd least x.k x.o (txX x)).length≤140737488355328 →
 Calls Tryz.prog 142 #[PtrTo b,xv x.k x.s x.v x.o p x.ar.length c x.q,.int .i64 least] w fun e w'=>e=.returned (.tuple #[])∧BldT 70 [] N b (xs++opd least x.k x.o (txX x)) w'∧Wrote N b w w'
theorem ok_op {x:Xp}(h:okX x=true):(x.k=5→x.o=1∨x.o=2)∧(x.k=6→3≤x.o∧x.o≤15):=by
 match x,h with
 | ⟨k,s,v,o,ar,q⟩,h =>
   show (k=5→o=1∨o=2)∧(k=6→3≤o∧o≤15)
   rcases ok_cases h with ⟨rfl,_⟩ | ⟨hk,_⟩ | ⟨rfl,_⟩ | ⟨rfl,a,_,_,_,ho,_⟩ | ⟨rfl,a,b,_,_,_,ho,_⟩
   ·exact⟨fun h=>by omega,fun h=>by omega⟩
   ·exact⟨fun h=>by omega,fun h=>by omega⟩
   ·exact⟨fun h=>by omega,fun h=>by omega⟩
   ·exact⟨fun _=>ho,fun h=>by omega⟩
   ·exact⟨fun h=>by omega,fun _=>ho⟩
set_option maxHeartbeats 8000000 in
theorem operand_wx (x:Xp) (hx:WxC x):OpC x:=by
 intro least N b xs B w p c hb hN hB hX hz hE hok hlen
 have HX:=zh hx
 have hcap:=hX.cap.1
 have hmax:=hX.cap.2.1
 have HXL:=zh hX
 have HB:=zh hb
 have HE:=zh hE
 have HBN:=zh hB
 have HOK:=zh hok
 have HZ:=zh hz
 have HLV:=zh (fun W (hW:Grew w W)=>lev_any x.k x.s x.v x.o p x.ar.length c x.q W (HE.out.grew hW).1 (ok_op hok))
 have HLN:=zh hlen
 have HNw:=zh hN
 clear hx hb hE hB hX hlen hz hok
 by_cases hlt:lvX x.k x.o < least
 ·have hopd:opd least x.k x.o (txX x)=[40]++(txX x++[41]):=by rw [opd,if_pos hlt];rfl
  rw [hopd] at HLN ⊢
  have HL2:Hid (xs.length+(txX x).length+2≤140737488355328):=zh (by have:=HLN.out;simp only [List.length_append,List.length_cons,List.length_nil] at this;omega)
  clear hopd HLN
  have hcmp:¬ least≤lvX x.k x.o:=by omega
  have HG1:=zh ((Grew.refl w).alloc (Obj.cells #[.int .i64 x.k,.string x.s,.int .i16 x.v,.int .i64 x.o,.slice p x.ar.length c,.int .i64 x.q] 35))
  go_enter Tryz.func142,Tryz.ntmps142
  go_wp2_with (first
   | (go_at_call 165;(with_reducible refine(HLV.out _ HG1.out).mono ?_);rintro e w1 ⟨rfl,g1⟩;generalize lvX x.k x.o=lv_ at hlt hcmp;have HG:=zh (HG1.out.trans g1);have hbx:=(Blk.new w [.int .i64 x.k,.string x.s,.int .i16 x.v,.int .i64 x.o,.slice p x.ar.length c,.int .i64 x.q] 35).grew g1;have HBX:=zh hbx;clear g1 hbx;have q0w1:w1.cell? ⟨w.heap.size,0,none⟩=some (.int .i64 x.k):=HBX.out.cell 0;have q1w1:w1.cell? ⟨w.heap.size,1,none⟩=some (.string x.s):=HBX.out.cell 1;have q2w1:w1.cell? ⟨w.heap.size,2,none⟩=some (.int .i16 x.v):=HBX.out.cell 2;have q3w1:w1.cell? ⟨w.heap.size,3,none⟩=some (.int .i64 x.o):=HBX.out.cell 3;have q4w1:w1.cell? ⟨w.heap.size,4,none⟩=some (.slice p x.ar.length c):=HBX.out.cell 4;have q5w1:w1.cell? ⟨w.heap.size,5,none⟩=some (.int .i64 x.q):=HBX.out.cell 5)
   | (go_at_call_of 93 (Value.string (⟨#[40]⟩:ByteArray));(with_reducible refine(wstr_any btB N b xs [40] w1 (HB.out.grew HG.out) (by have:=HL2.out;simp;omega) (Nat.le_trans HNw.out HG.out.sz)).mono ?_);rintro e w2 ⟨⟨v2,rfl⟩,hb2,hw2⟩;have HW2:=zh ((Wrote.of_grew (N:=N) (b:=b) HG.out HNw.out).trans hw2);have HB2:=zh hb2;have HN2:=zh (Nat.le_trans (Nat.le_trans HNw.out HG.out.sz) hw2.1.size);have HBX2:=zh (HBX.out.wrote hw2 (by have:=HB.out.lt;omega) (by decide));clear hb2 hw2;have q0w2:w2.cell? ⟨w.heap.size,0,none⟩=some (.int .i64 x.k):=HBX2.out.cell 0;have q1w2:w2.cell? ⟨w.heap.size,1,none⟩=some (.string x.s):=HBX2.out.cell 1;have q2w2:w2.cell? ⟨w.heap.size,2,none⟩=some (.int .i16 x.v):=HBX2.out.cell 2;have q3w2:w2.cell? ⟨w.heap.size,3,none⟩=some (.int .i64 x.o):=HBX2.out.cell 3;have q4w2:w2.cell? ⟨w.heap.size,4,none⟩=some (.slice p x.ar.length c):=HBX2.out.cell 4;have q5w2:w2.cell? ⟨w.heap.size,5,none⟩=some (.int .i64 x.q):=HBX2.out.cell 5)
   | (go_at_call 101;(with_reducible refine(HX.out N b (xs++[40]) B w2 p c HB2.out HN2.out HBN.out (HXL.out.below HBN.out HW2.out.bel) HZ.out (HE.out.wrote HW2.out) HOK.out (by have:=HL2.out;simp only [List.length_append,List.length_cons,List.length_nil];omega)).mono ?_);rintro e w3 ⟨rfl,hb3,hw3⟩;have HW3:=zh (HW2.out.trans hw3);have HB3:=zh hb3;have HN3:=zh (Nat.le_trans HN2.out hw3.1.size);clear hb3 hw3)
   | (go_at_call_of 93 (Value.string (⟨#[41]⟩:ByteArray));(with_reducible refine(wstr_any btB N b _ [41] w3 HB3.out (by have:=HL2.out;simp only [List.length_append,List.length_cons,List.length_nil];omega) HN3.out).mono ?_);rintro e w4 ⟨⟨v4,rfl⟩,hb4,hw4⟩;have HW4:=zh (HW3.out.trans hw4);have HB4:=zh hb4;clear hb4 hw4))
  go_end0
  exact⟨rfl,by have:=HB4.out;simpa [List.append_assoc] using this,HW4.out⟩
 ·have hopd:opd least x.k x.o (txX x)=txX x:=by rw [opd,if_neg hlt]
  rw [hopd] at HLN ⊢
  clear hopd
  have hcmp:least≤lvX x.k x.o:=by omega
  have HG1:=zh ((Grew.refl w).alloc (Obj.cells #[.int .i64 x.k,.string x.s,.int .i16 x.v,.int .i64 x.o,.slice p x.ar.length c,.int .i64 x.q] 35))
  go_enter Tryz.func142,Tryz.ntmps142
  go_wp2_with (first
   | (go_at_call 165;(with_reducible refine(HLV.out _ HG1.out).mono ?_);rintro e w1 ⟨rfl,g1⟩;generalize lvX x.k x.o=lv_ at hlt hcmp;have HG:=zh (HG1.out.trans g1);have hbx:=(Blk.new w [.int .i64 x.k,.string x.s,.int .i16 x.v,.int .i64 x.o,.slice p x.ar.length c,.int .i64 x.q] 35).grew g1;have HBX:=zh hbx;clear g1 hbx;have q0w1:w1.cell? ⟨w.heap.size,0,none⟩=some (.int .i64 x.k):=HBX.out.cell 0;have q1w1:w1.cell? ⟨w.heap.size,1,none⟩=some (.string x.s):=HBX.out.cell 1;have q2w1:w1.cell? ⟨w.heap.size,2,none⟩=some (.int .i16 x.v):=HBX.out.cell 2;have q3w1:w1.cell? ⟨w.heap.size,3,none⟩=some (.int .i64 x.o):=HBX.out.cell 3;have q4w1:w1.cell? ⟨w.heap.size,4,none⟩=some (.slice p x.ar.length c):=HBX.out.cell 4;have q5w1:w1.cell? ⟨w.heap.size,5,none⟩=some (.int .i64 x.q):=HBX.out.cell 5)
   | (go_at_call 101;(with_reducible refine(HX.out N b xs B w1 p c (HB.out.grew HG.out) (Nat.le_trans HNw.out HG.out.sz) HBN.out (HXL.out.kept HG.out) HZ.out (HE.out.grew HG.out) HOK.out HLN.out).mono ?_);rintro e w3 ⟨rfl,hb3,hw3⟩;have HW3:=zh ((Wrote.of_grew (N:=N) (b:=b) HG.out HNw.out).trans hw3);have HB3:=zh hb3;clear hb3 hw3))
  (try simp only [Exit.inBlock,Exit.then]);refine bodyPost_ret (results_none rfl _ _ _) rfl ?_
  exact⟨rfl,HB3.out,HW3.out⟩
section
variable {dst:Option Tmp}{ty:TypeId}{pos:String}{after:Array Edge}{g:Option (Nat × Bool)}{a:Act}{w:World}{T:Value→World→Prop}
end
set_option maxHeartbeats 4000000 in
theorem eqC_any (sa sb:ByteArray) (za zb:Int) (qa qb:Int) (w:World) :
 Calls Tryz.prog 66 #[.agg #[.string sa,.int .i16 za,.int .i64 qa],.agg #[.string sb,.int .i16 zb,.int .i64 qb]] w fun e w'=>e=.returned (.bool (decide (sa=sb)&&(za==zb)))∧Grew w w':=by
 have HEQ:Hid (((decide ((sa)=(sb)))&&((za)==(zb)))=(decide (sa=sb)&&(za==zb))):=zh (rfl)
 go_enter Tryz.func66,Tryz.ntmps66
 go_upto_region 1 with fail
 have hb1:Blk w.heap.size [.string sa,.int .i16 za,.int .i64 qa] 60 (w.alloc (Obj.cells #[.string sa,.int .i16 za,.int .i64 qa] 60)):=Blk.new w _ _
 have hb2:Blk (w.alloc (Obj.cells #[.string sa,.int .i16 za,.int .i64 qa] 60)).heap.size [.string sb,.int .i16 zb,.int .i64 qb] 60 ((w.alloc (Obj.cells #[.string sa,.int .i16 za,.int .i64 qa] 60)).alloc (Obj.cells #[.string sb,.int .i16 zb,.int .i64 qb] 60)):=Blk.new _ _ _
 have hb3:=hb1.grew ((Grew.refl _).alloc (Obj.cells #[.string sb,.int .i16 zb,.int .i64 qb] 60))
 have hgV:Grew w ((w.alloc (Obj.cells #[.string sa,.int .i16 za,.int .i64 qa] 60)).alloc (Obj.cells #[.string sb,.int .i16 zb,.int .i64 qb] 60)):=((Grew.refl w).alloc _).alloc _
 rw [alloc_sz] at hb2
 try rw [alloc_sz]
 generalize ((w.alloc (Obj.cells #[.string sa,.int .i16 za,.int .i64 qa] 60)).alloc (Obj.cells #[.string sb,.int .i16 zb,.int .i64 qb] 60))=V at hb2 hb3 hgV ⊢
 generalize w.heap.size+1=U at hb2 ⊢
 generalize w.heap.size=T at hb3 ⊢
 have HGV:=zh hgV
 have d0:Atv ⟨T,0,none⟩ (.string sa) V:=hb3.atv 0 rfl
 have d1:Atv ⟨T,1,none⟩ (.int .i16 za) V:=hb3.atv 1 rfl
 have d2:Atv ⟨T,2,none⟩ (.int .i64 qa) V:=hb3.atv 2 rfl
 have e0:Atv ⟨U,0,none⟩ (.string sb) V:=hb2.atv 0 rfl
 have e1:Atv ⟨U,1,none⟩ (.int .i16 zb) V:=hb2.atv 1 rfl
 have e2:Atv ⟨U,2,none⟩ (.int .i64 qb) V:=hb2.atv 2 rfl
 clear hb1 hb2 hb3 hgV
 refine wp_postsL [some 5,some 6,some 7,some 8,some 9,some 10,some 11,some 12,some 13,some 14,some 15,some 16,some 4] (Zfc (Ztd (Ztc (Zta [])))) [fun v _=>v=.pointer (some ⟨T,0,none⟩),fun v _=>v=.string sa,fun v _=>v=.pointer (some ⟨U,0,none⟩),fun v _=>v=.string sb,fun v _=>v=.bool (decide ((sa)=(sb))),fun v _=>v=.bool (decide ((sa)=(sb))),fun v _=>Zg ((decide ((sa)=(sb)))=true) (.pointer (some ⟨T,1,none⟩)) v,fun v _=>Zg ((decide ((sa)=(sb)))=true) (.int .i16 (za)) v,fun v _=>Zg ((decide ((sa)=(sb)))=true) (.pointer (some ⟨U,1,none⟩)) v,fun v _=>Zg ((decide ((sa)=(sb)))=true) (.int .i16 (zb)) v,fun v _=>Zg ((decide ((sa)=(sb)))=true) (.bool ((za)==(zb))) v,fun v _=>v=.bool ((decide ((sa)=(sb)))&&((za)==(zb))),fun v _=>v=.bool ((decide ((sa)=(sb)))&&((za)==(zb)))] (by kernel_rfl) rfl ?_ ⟨?_,?_,?_,?_,?_,?_,?_,?_,?_,?_,?_,?_,?_,trivial⟩ ?_
 ·exact⟨Zi,Zi,Zi,Zi,Zi,Zi,Zi,Zi,Zi,Zi,Zi,Zi,Zi,trivial⟩
 ·intro u w hR hd;exact rn_fld_60_0 (ev rfl) Zr
 ·intro u w hR hd;exact rn_ld_9 (ev (hd.1 rfl)) (d0.kept hR) Zr
 ·intro u w hR hd;exact rn_fld_60_0 (ev rfl) Zr
 ·intro u w hR hd;exact rn_ld_9 (ev (hd.1 rfl)) (e0.kept hR) Zr
 ·intro u w hR hd;exact rn_eqs_9 (ev (hd.1 rfl)) (ev (hd.2.1 rfl)) Zr
 ·intro u w hR hd;exact runs_mv (ev (hd.1 rfl)) Zr
 ·intro u w hR hd;exact⟨fun hg=>have hG:=Zh (hd.1 rfl) hg;rn_fld_60_1 (ev rfl) (Zs hG),Zn (hd.1 rfl)⟩
 ·intro u w hR hd;exact⟨fun hg=>have hG:=Zh (hd.2.1 rfl) hg;rn_ld_32 (ev ((hd.1 rfl).1 hG)) (d1.kept hR) (Zs hG),Zn (hd.2.1 rfl)⟩
 ·intro u w hR hd;exact⟨fun hg=>have hG:=Zh (hd.1 rfl) hg;rn_fld_60_1 (ev rfl) (Zs hG),Zn (hd.1 rfl)⟩
 ·intro u w hR hd;exact⟨fun hg=>have hG:=Zh (hd.2.1 rfl) hg;rn_ld_32 (ev ((hd.1 rfl).1 hG)) (e1.kept hR) (Zs hG),Zn (hd.2.1 rfl)⟩
 ·intro u w hR hd;exact⟨fun hg=>have hG:=Zh (hd.2.2.1 rfl) hg;rn_eql_32 (ev ((hd.1 rfl).1 hG)) (ev ((hd.2.1 rfl).1 hG)) (Zs hG),Zn (hd.2.2.1 rfl)⟩
 ·intro u w hR hd;exact runs_an (ev (hd.1 rfl)) (fun hb=>ev ((hd.2.1 rfl).1 hb)) Zr
 ·intro u w hR hd;exact runs_mva (ev (hd.1 rfl)) Zr
 ·intro u w4 hR hh
  have he:u 4=.bool ((decide ((sa)=(sb)))&&((za)==(zb))):=hh 12 (by decide)
  rw [HEQ.out] at he
  simp only [mixA,mixL,zz9,zz0,he]
  have HG4:Hid (Grew w w4):=zh (HGV.out.trans hR)
  clear hh he hR d0 d1 d2 e0 e1 e2 HGV
  go_wp2
  go_ret
  exact⟨rfl,HG4.out⟩
set_option maxHeartbeats 4000000 in
theorem eqH_any (sa sb:ByteArray) (za zb:Int) (qa qb:Int) (w:World) :
 Calls Tryz.prog 71 #[.agg #[.string sa,.int .i64 za,.int .i64 qa],.agg #[.string sb,.int .i64 zb,.int .i64 qb]] w fun e w'=>e=.returned (.bool (decide (sa=sb)&&(za==zb)))∧Grew w w':=by
 have HEQ:Hid (((decide ((sa)=(sb)))&&((za)==(zb)))=(decide (sa=sb)&&(za==zb))):=zh (rfl)
 go_enter Tryz.func71,Tryz.ntmps71
 go_upto_region 1 with fail
 have hb1:Blk w.heap.size [.string sa,.int .i64 za,.int .i64 qa] 64 (w.alloc (Obj.cells #[.string sa,.int .i64 za,.int .i64 qa] 64)):=Blk.new w _ _
 have hb2:Blk (w.alloc (Obj.cells #[.string sa,.int .i64 za,.int .i64 qa] 64)).heap.size [.string sb,.int .i64 zb,.int .i64 qb] 64 ((w.alloc (Obj.cells #[.string sa,.int .i64 za,.int .i64 qa] 64)).alloc (Obj.cells #[.string sb,.int .i64 zb,.int .i64 qb] 64)):=Blk.new _ _ _
 have hb3:=hb1.grew ((Grew.refl _).alloc (Obj.cells #[.string sb,.int .i64 zb,.int .i64 qb] 64))
 have hgV:Grew w ((w.alloc (Obj.cells #[.string sa,.int .i64 za,.int .i64 qa] 64)).alloc (Obj.cells #[.string sb,.int .i64 zb,.int .i64 qb] 64)):=((Grew.refl w).alloc _).alloc _
 rw [alloc_sz] at hb2
 try rw [alloc_sz]
 generalize ((w.alloc (Obj.cells #[.string sa,.int .i64 za,.int .i64 qa] 64)).alloc (Obj.cells #[.string sb,.int .i64 zb,.int .i64 qb] 64))=V at hb2 hb3 hgV ⊢
 generalize w.heap.size+1=U at hb2 ⊢
 generalize w.heap.size=T at hb3 ⊢
 have HGV:=zh hgV
 have d0:Atv ⟨T,0,none⟩ (.string sa) V:=hb3.atv 0 rfl
 have d1:Atv ⟨T,1,none⟩ (.int .i64 za) V:=hb3.atv 1 rfl
 have d2:Atv ⟨T,2,none⟩ (.int .i64 qa) V:=hb3.atv 2 rfl
 have e0:Atv ⟨U,0,none⟩ (.string sb) V:=hb2.atv 0 rfl
 have e1:Atv ⟨U,1,none⟩ (.int .i64 zb) V:=hb2.atv 1 rfl
 have e2:Atv ⟨U,2,none⟩ (.int .i64 qb) V:=hb2.atv 2 rfl
 clear hb1 hb2 hb3 hgV
 refine wp_postsL [some 5,some 6,some 7,some 8,some 9,some 10,some 11,some 12,some 13,some 14,some 15,some 16,some 4] (Zfc (Ztd (Ztc (Zta [])))) [fun v _=>v=.pointer (some ⟨T,0,none⟩),fun v _=>v=.string sa,fun v _=>v=.pointer (some ⟨U,0,none⟩),fun v _=>v=.string sb,fun v _=>v=.bool (decide ((sa)=(sb))),fun v _=>v=.bool (decide ((sa)=(sb))),fun v _=>Zg ((decide ((sa)=(sb)))=true) (.pointer (some ⟨T,1,none⟩)) v,fun v _=>Zg ((decide ((sa)=(sb)))=true) (.int .i64 (za)) v,fun v _=>Zg ((decide ((sa)=(sb)))=true) (.pointer (some ⟨U,1,none⟩)) v,fun v _=>Zg ((decide ((sa)=(sb)))=true) (.int .i64 (zb)) v,fun v _=>Zg ((decide ((sa)=(sb)))=true) (.bool ((za)==(zb))) v,fun v _=>v=.bool ((decide ((sa)=(sb)))&&((za)==(zb))),fun v _=>v=.bool ((decide ((sa)=(sb)))&&((za)==(zb)))] (by kernel_rfl) rfl ?_ ⟨?_,?_,?_,?_,?_,?_,?_,?_,?_,?_,?_,?_,?_,trivial⟩ ?_
 ·exact⟨Zi,Zi,Zi,Zi,Zi,Zi,Zi,Zi,Zi,Zi,Zi,Zi,Zi,trivial⟩
 ·intro u w hR hd;exact rn_fld_64_0 (ev rfl) Zr
 ·intro u w hR hd;exact rn_ld_9 (ev (hd.1 rfl)) (d0.kept hR) Zr
 ·intro u w hR hd;exact rn_fld_64_0 (ev rfl) Zr
 ·intro u w hR hd;exact rn_ld_9 (ev (hd.1 rfl)) (e0.kept hR) Zr
 ·intro u w hR hd;exact rn_eqs_9 (ev (hd.1 rfl)) (ev (hd.2.1 rfl)) Zr
 ·intro u w hR hd;exact runs_mv (ev (hd.1 rfl)) Zr
 ·intro u w hR hd;exact⟨fun hg=>have hG:=Zh (hd.1 rfl) hg;rn_fld_64_1 (ev rfl) (Zs hG),Zn (hd.1 rfl)⟩
 ·intro u w hR hd;exact⟨fun hg=>have hG:=Zh (hd.2.1 rfl) hg;rn_ld_3 (ev ((hd.1 rfl).1 hG)) (d1.kept hR) (Zs hG),Zn (hd.2.1 rfl)⟩
 ·intro u w hR hd;exact⟨fun hg=>have hG:=Zh (hd.1 rfl) hg;rn_fld_64_1 (ev rfl) (Zs hG),Zn (hd.1 rfl)⟩
 ·intro u w hR hd;exact⟨fun hg=>have hG:=Zh (hd.2.1 rfl) hg;rn_ld_3 (ev ((hd.1 rfl).1 hG)) (e1.kept hR) (Zs hG),Zn (hd.2.1 rfl)⟩
 ·intro u w hR hd;exact⟨fun hg=>have hG:=Zh (hd.2.2.1 rfl) hg;rn_eql_3 (ev ((hd.1 rfl).1 hG)) (ev ((hd.2.1 rfl).1 hG)) (Zs hG),Zn (hd.2.2.1 rfl)⟩
 ·intro u w hR hd;exact runs_an (ev (hd.1 rfl)) (fun hb=>ev ((hd.2.1 rfl).1 hb)) Zr
 ·intro u w hR hd;exact runs_mva (ev (hd.1 rfl)) Zr
 ·intro u w4 hR hh
  have he:u 4=.bool ((decide ((sa)=(sb)))&&((za)==(zb))):=hh 12 (by decide)
  rw [HEQ.out] at he
  simp only [mixA,mixL,zz9,zz0,he]
  have HG4:Hid (Grew w w4):=zh (HGV.out.trans hR)
  clear hh he hR d0 d1 d2 e0 e1 e2 HGV
  go_wp2
  go_ret
  exact⟨rfl,HG4.out⟩
set_option maxHeartbeats 4000000 in
theorem eqG_any (sa sb:ByteArray) (la lb:Int) (ia ib:Int) (qa qb:Int) (w:World) :
 Calls Tryz.prog 68 #[.agg #[.string sa,.int .i64 la,.int .i16 ia,.int .i64 qa],.agg #[.string sb,.int .i64 lb,.int .i16 ib,.int .i64 qb]] w fun e w'=>e=.returned (.bool ((decide (sa=sb)&&(la==lb))&&(ia==ib)))∧Grew w w':=by
 have HEQ:Hid ((((decide ((sa)=(sb)))&&((la)==(lb)))&&((ia)==(ib)))=((decide (sa=sb)&&(la==lb))&&(ia==ib))):=zh (rfl)
 go_enter Tryz.func68,Tryz.ntmps68
 go_upto_region 1 with fail
 have hb1:Blk w.heap.size [.string sa,.int .i64 la,.int .i16 ia,.int .i64 qa] 62 (w.alloc (Obj.cells #[.string sa,.int .i64 la,.int .i16 ia,.int .i64 qa] 62)):=Blk.new w _ _
 have hb2:Blk (w.alloc (Obj.cells #[.string sa,.int .i64 la,.int .i16 ia,.int .i64 qa] 62)).heap.size [.string sb,.int .i64 lb,.int .i16 ib,.int .i64 qb] 62 ((w.alloc (Obj.cells #[.string sa,.int .i64 la,.int .i16 ia,.int .i64 qa] 62)).alloc (Obj.cells #[.string sb,.int .i64 lb,.int .i16 ib,.int .i64 qb] 62)):=Blk.new _ _ _
 have hb3:=hb1.grew ((Grew.refl _).alloc (Obj.cells #[.string sb,.int .i64 lb,.int .i16 ib,.int .i64 qb] 62))
 have hgV:Grew w ((w.alloc (Obj.cells #[.string sa,.int .i64 la,.int .i16 ia,.int .i64 qa] 62)).alloc (Obj.cells #[.string sb,.int .i64 lb,.int .i16 ib,.int .i64 qb] 62)):=((Grew.refl w).alloc _).alloc _
 rw [alloc_sz] at hb2
 try rw [alloc_sz]
 generalize ((w.alloc (Obj.cells #[.string sa,.int .i64 la,.int .i16 ia,.int .i64 qa] 62)).alloc (Obj.cells #[.string sb,.int .i64 lb,.int .i16 ib,.int .i64 qb] 62))=V at hb2 hb3 hgV ⊢
 generalize w.heap.size+1=U at hb2 ⊢
 generalize w.heap.size=T at hb3 ⊢
 have HGV:=zh hgV
 have d0:Atv ⟨T,0,none⟩ (.string sa) V:=hb3.atv 0 rfl
 have d1:Atv ⟨T,1,none⟩ (.int .i64 la) V:=hb3.atv 1 rfl
 have d2:Atv ⟨T,2,none⟩ (.int .i16 ia) V:=hb3.atv 2 rfl
 have d3:Atv ⟨T,3,none⟩ (.int .i64 qa) V:=hb3.atv 3 rfl
 have e0:Atv ⟨U,0,none⟩ (.string sb) V:=hb2.atv 0 rfl
 have e1:Atv ⟨U,1,none⟩ (.int .i64 lb) V:=hb2.atv 1 rfl
 have e2:Atv ⟨U,2,none⟩ (.int .i16 ib) V:=hb2.atv 2 rfl
 have e3:Atv ⟨U,3,none⟩ (.int .i64 qb) V:=hb2.atv 3 rfl
 clear hb1 hb2 hb3 hgV
 refine wp_postsL [some 5,some 6,some 7,some 8,some 9,some 10,some 11,some 12,some 13,some 14,some 15,some 16,some 17,some 18,some 19,some 20,some 21,some 22,some 23,some 4] (Zfc (Zte (Ztc []))) [fun v _=>v=.pointer (some ⟨T,0,none⟩),fun v _=>v=.string sa,fun v _=>v=.pointer (some ⟨U,0,none⟩),fun v _=>v=.string sb,fun v _=>v=.bool (decide ((sa)=(sb))),fun v _=>v=.bool (decide ((sa)=(sb))),fun v _=>Zg ((decide ((sa)=(sb)))=true) (.pointer (some ⟨T,1,none⟩)) v,fun v _=>Zg ((decide ((sa)=(sb)))=true) (.int .i64 (la)) v,fun v _=>Zg ((decide ((sa)=(sb)))=true) (.pointer (some ⟨U,1,none⟩)) v,fun v _=>Zg ((decide ((sa)=(sb)))=true) (.int .i64 (lb)) v,fun v _=>Zg ((decide ((sa)=(sb)))=true) (.bool ((la)==(lb))) v,fun v _=>v=.bool ((decide ((sa)=(sb)))&&((la)==(lb))),fun v _=>v=.bool ((decide ((sa)=(sb)))&&((la)==(lb))),fun v _=>Zg (((decide ((sa)=(sb)))&&((la)==(lb)))=true) (.pointer (some ⟨T,2,none⟩)) v,fun v _=>Zg (((decide ((sa)=(sb)))&&((la)==(lb)))=true) (.int .i16 (ia)) v,fun v _=>Zg (((decide ((sa)=(sb)))&&((la)==(lb)))=true) (.pointer (some ⟨U,2,none⟩)) v,fun v _=>Zg (((decide ((sa)=(sb)))&&((la)==(lb)))=true) (.int .i16 (ib)) v,fun v _=>Zg (((decide ((sa)=(sb)))&&((la)==(lb)))=true) (.bool ((ia)==(ib))) v,fun v _=>v=.bool (((decide ((sa)=(sb)))&&((la)==(lb)))&&((ia)==(ib))),fun v _=>v=.bool (((decide ((sa)=(sb)))&&((la)==(lb)))&&((ia)==(ib)))] (by kernel_rfl) rfl ?_ ⟨?_,?_,?_,?_,?_,?_,?_,?_,?_,?_,?_,?_,?_,?_,?_,?_,?_,?_,?_,?_,trivial⟩ ?_
 ·exact⟨Zi,Zi,Zi,Zi,Zi,Zi,Zi,Zi,Zi,Zi,Zi,Zi,Zi,Zi,Zi,Zi,Zi,Zi,Zi,Zi,trivial⟩
 ·intro u w hR hd;exact rn_fld_62_0 (ev rfl) Zr
 ·intro u w hR hd;exact rn_ld_9 (ev (hd.1 rfl)) (d0.kept hR) Zr
 ·intro u w hR hd;exact rn_fld_62_0 (ev rfl) Zr
 ·intro u w hR hd;exact rn_ld_9 (ev (hd.1 rfl)) (e0.kept hR) Zr
 ·intro u w hR hd;exact rn_eqs_9 (ev (hd.1 rfl)) (ev (hd.2.1 rfl)) Zr
 ·intro u w hR hd;exact runs_mv (ev (hd.1 rfl)) Zr
 ·intro u w hR hd;exact⟨fun hg=>have hG:=Zh (hd.1 rfl) hg;rn_fld_62_1 (ev rfl) (Zs hG),Zn (hd.1 rfl)⟩
 ·intro u w hR hd;exact⟨fun hg=>have hG:=Zh (hd.2.1 rfl) hg;rn_ld_3 (ev ((hd.1 rfl).1 hG)) (d1.kept hR) (Zs hG),Zn (hd.2.1 rfl)⟩
 ·intro u w hR hd;exact⟨fun hg=>have hG:=Zh (hd.1 rfl) hg;rn_fld_62_1 (ev rfl) (Zs hG),Zn (hd.1 rfl)⟩
 ·intro u w hR hd;exact⟨fun hg=>have hG:=Zh (hd.2.1 rfl) hg;rn_ld_3 (ev ((hd.1 rfl).1 hG)) (e1.kept hR) (Zs hG),Zn (hd.2.1 rfl)⟩
 ·intro u w hR hd;exact⟨fun hg=>have hG:=Zh (hd.2.2.1 rfl) hg;rn_eql_3 (ev ((hd.1 rfl).1 hG)) (ev ((hd.2.1 rfl).1 hG)) (Zs hG),Zn (hd.2.2.1 rfl)⟩
 ·intro u w hR hd;exact runs_an (ev (hd.1 rfl)) (fun hb=>ev ((hd.2.1 rfl).1 hb)) Zr
 ·intro u w hR hd;exact runs_mv (ev (hd.1 rfl)) Zr
 ·intro u w hR hd;exact⟨fun hg=>have hG:=Zh (hd.1 rfl) hg;rn_fld_62_2 (ev rfl) (Zs hG),Zn (hd.1 rfl)⟩
 ·intro u w hR hd;exact⟨fun hg=>have hG:=Zh (hd.2.1 rfl) hg;rn_ld_32 (ev ((hd.1 rfl).1 hG)) (d2.kept hR) (Zs hG),Zn (hd.2.1 rfl)⟩
 ·intro u w hR hd;exact⟨fun hg=>have hG:=Zh (hd.1 rfl) hg;rn_fld_62_2 (ev rfl) (Zs hG),Zn (hd.1 rfl)⟩
 ·intro u w hR hd;exact⟨fun hg=>have hG:=Zh (hd.2.1 rfl) hg;rn_ld_32 (ev ((hd.1 rfl).1 hG)) (e2.kept hR) (Zs hG),Zn (hd.2.1 rfl)⟩
 ·intro u w hR hd;exact⟨fun hg=>have hG:=Zh (hd.2.2.1 rfl) hg;rn_eql_32 (ev ((hd.1 rfl).1 hG)) (ev ((hd.2.1 rfl).1 hG)) (Zs hG),Zn (hd.2.2.1 rfl)⟩
 ·intro u w hR hd;exact runs_an (ev (hd.1 rfl)) (fun hb=>ev ((hd.2.1 rfl).1 hb)) Zr
 ·intro u w hR hd;exact runs_mva (ev (hd.1 rfl)) Zr
 ·intro u w4 hR hh
  have he:u 4=.bool (((decide ((sa)=(sb)))&&((la)==(lb)))&&((ia)==(ib))):=hh 19 (by decide)
  rw [HEQ.out] at he
  simp only [mixA,mixL,zz9,zz0,he]
  have HG4:Hid (Grew w w4):=zh (HGV.out.trans hR)
  clear hh he hR d0 d1 d2 d3 e0 e1 e2 e3 HGV
  go_wp2
  go_ret
  exact⟨rfl,HG4.out⟩
theorem eqX_eq (ka:Int) (sa:ByteArray) (va oa:Int) (ra:List Xp) (qa kb:Int) (sb:ByteArray) (vb ob:Int) (rb:List Xp) (qb:Int):((((((ka)==(kb))&&(decide ((sa)=(sb))))&&((va)==(vb)))&&((oa)==(ob)))&&(eqL eqX ra rb))=eqX ⟨ka,sa,va,oa,ra,qa⟩ ⟨kb,sb,vb,ob,rb,qb⟩:=by
 rw [eqX,eqH,eqXs_all2,eqL]
 simp only [beq_dec,bne_dec]
 have hl:decide ((ra.length:Int)=(rb.length:Int))=decide (ra.length=rb.length):=by rw [decide_eq_decide];omega
 rw [hl]
 cases decide (ka=kb) <;> cases decide (sa=sb) <;> cases decide (va=vb) <;> cases decide (oa=ob) <;> cases decide (ra.length=rb.length) <;> rfl
set_option maxHeartbeats 8000000 in
theorem eqXP_any:∀(x y:Xp) (A B:Nat→Prop) (w:World) (p p':Option Addr) (c c':Nat),XL A w p c x.ar→XL B w p' c' y.ar →
 Calls Tryz.prog 23 #[xv x.k x.s x.v x.o p x.ar.length c x.q,xv y.k y.s y.v y.o p' y.ar.length c' y.q] w fun e w'=>e=.returned (.bool (eqX x y))∧Grew w w':=by
 intro x
 induction x using Xp.ind with
 | h ka sa va oa ra qa ih =>
 intro y A B w pa pb ca cb hx hy
 obtain ⟨kb,sb,vb,ob,rb,qb⟩:=y
 replace hx:XL A w pa ca ra:=hx
 replace hy:XL B w pb cb rb:=hy
 show Calls Tryz.prog 23 #[xv ka sa va oa pa ra.length ca qa,xv kb sb vb ob pb rb.length cb qb] w fun e w'=>e=.returned (.bool (eqX ⟨ka,sa,va,oa,ra,qa⟩ ⟨kb,sb,vb,ob,rb,qb⟩))∧Grew w w'
 have hcap:ra.length≤ca∧rb.length≤cb:=⟨hx.cap.1,hy.cap.1⟩
 have hmax:=And.intro hx.cap.2.1 hy.cap.2.1
 have HEQ:=zh (eqX_eq ka sa va oa ra qa kb sb vb ob rb qb)
 have HEX:Hid (∀W,Grew w W→Calls Tryz.prog 75 #[.slice pa ra.length ca,.slice pb rb.length cb,.func (.func 23) #[] #[]] W fun e w'=>e=.returned (.bool (eqL eqX ra rb))∧Grew W w') :=
  zh (fun W hW=>eqfX_any 23 #[] en_eX ra rb eqX A B W pa pb ca cb (hx.kept hW) (hy.kept hW) (fun x hx' y hy' a1 a2 b1 b2 W2 h1 _ h2 _ hW2=>ih x hx' y A B W2 a1 b1 a2 b2 h1 h2))
 clear ih hx hy
 go_enter Tryz.func23,Tryz.ntmps23
 go_upto_region 1 with fail
 have hb1:Blk w.heap.size [.int .i64 ka,.string sa,.int .i16 va,.int .i64 oa,.slice pa ra.length ca,.int .i64 qa] 35 (w.alloc (Obj.cells #[.int .i64 ka,.string sa,.int .i16 va,.int .i64 oa,.slice pa ra.length ca,.int .i64 qa] 35)):=Blk.new w _ _
 have hb2:Blk (w.alloc (Obj.cells #[.int .i64 ka,.string sa,.int .i16 va,.int .i64 oa,.slice pa ra.length ca,.int .i64 qa] 35)).heap.size [.int .i64 kb,.string sb,.int .i16 vb,.int .i64 ob,.slice pb rb.length cb,.int .i64 qb] 35 ((w.alloc (Obj.cells #[.int .i64 ka,.string sa,.int .i16 va,.int .i64 oa,.slice pa ra.length ca,.int .i64 qa] 35)).alloc (Obj.cells #[.int .i64 kb,.string sb,.int .i16 vb,.int .i64 ob,.slice pb rb.length cb,.int .i64 qb] 35)):=Blk.new _ _ _
 have hb3:=hb1.grew ((Grew.refl _).alloc (Obj.cells #[.int .i64 kb,.string sb,.int .i16 vb,.int .i64 ob,.slice pb rb.length cb,.int .i64 qb] 35))
 have hgV:Grew w ((w.alloc (Obj.cells #[.int .i64 ka,.string sa,.int .i16 va,.int .i64 oa,.slice pa ra.length ca,.int .i64 qa] 35)).alloc (Obj.cells #[.int .i64 kb,.string sb,.int .i16 vb,.int .i64 ob,.slice pb rb.length cb,.int .i64 qb] 35)):=((Grew.refl w).alloc _).alloc _
 rw [alloc_sz] at hb2
 try rw [alloc_sz]
 generalize ((w.alloc (Obj.cells #[.int .i64 ka,.string sa,.int .i16 va,.int .i64 oa,.slice pa ra.length ca,.int .i64 qa] 35)).alloc (Obj.cells #[.int .i64 kb,.string sb,.int .i16 vb,.int .i64 ob,.slice pb rb.length cb,.int .i64 qb] 35))=V at hb2 hb3 hgV ⊢
 generalize w.heap.size+1=U at hb2 ⊢
 generalize w.heap.size=T at hb3 ⊢
 have HGV:=zh hgV
 have d0:Atv ⟨T,0,none⟩ (.int .i64 ka) V:=hb3.atv 0 rfl
 have d1:Atv ⟨T,1,none⟩ (.string sa) V:=hb3.atv 1 rfl
 have d2:Atv ⟨T,2,none⟩ (.int .i16 va) V:=hb3.atv 2 rfl
 have d3:Atv ⟨T,3,none⟩ (.int .i64 oa) V:=hb3.atv 3 rfl
 have d4:Atv ⟨T,4,none⟩ (.slice pa ra.length ca) V:=hb3.atv 4 rfl
 have d5:Atv ⟨T,5,none⟩ (.int .i64 qa) V:=hb3.atv 5 rfl
 have e0:Atv ⟨U,0,none⟩ (.int .i64 kb) V:=hb2.atv 0 rfl
 have e1:Atv ⟨U,1,none⟩ (.string sb) V:=hb2.atv 1 rfl
 have e2:Atv ⟨U,2,none⟩ (.int .i16 vb) V:=hb2.atv 2 rfl
 have e3:Atv ⟨U,3,none⟩ (.int .i64 ob) V:=hb2.atv 3 rfl
 have e4:Atv ⟨U,4,none⟩ (.slice pb rb.length cb) V:=hb2.atv 4 rfl
 have e5:Atv ⟨U,5,none⟩ (.int .i64 qb) V:=hb2.atv 5 rfl
 clear hb1 hb2 hb3 hgV
 refine wp_postsL [some 5,some 6,some 7,some 8,some 9,some 10,some 11,some 12,some 13,some 14,some 15,some 16,some 17,some 18,some 19,some 20,some 21,some 22,some 23,some 24,some 25,some 26,some 27,some 28,some 29,some 30,some 31,some 32,some 33,some 34,some 35,some 36,some 37,some 4] (Zfc (Ztg (Ztb []))) [fun v _=>v=.pointer (some ⟨T,0,none⟩),fun v _=>v=.int .i64 (ka),fun v _=>v=.pointer (some ⟨U,0,none⟩),fun v _=>v=.int .i64 (kb),fun v _=>v=.bool ((ka)==(kb)),fun v _=>v=.bool ((ka)==(kb)),fun v _=>Zg (((ka)==(kb))=true) (.pointer (some ⟨T,1,none⟩)) v,fun v _=>Zg (((ka)==(kb))=true) (.string sa) v,fun v _=>Zg (((ka)==(kb))=true) (.pointer (some ⟨U,1,none⟩)) v,fun v _=>Zg (((ka)==(kb))=true) (.string sb) v,fun v _=>Zg (((ka)==(kb))=true) (.bool (decide ((sa)=(sb)))) v,fun v _=>v=.bool (((ka)==(kb))&&(decide ((sa)=(sb)))),fun v _=>v=.bool (((ka)==(kb))&&(decide ((sa)=(sb)))),fun v _=>Zg ((((ka)==(kb))&&(decide ((sa)=(sb))))=true) (.pointer (some ⟨T,2,none⟩)) v,fun v _=>Zg ((((ka)==(kb))&&(decide ((sa)=(sb))))=true) (.int .i16 (va)) v,fun v _=>Zg ((((ka)==(kb))&&(decide ((sa)=(sb))))=true) (.pointer (some ⟨U,2,none⟩)) v,fun v _=>Zg ((((ka)==(kb))&&(decide ((sa)=(sb))))=true) (.int .i16 (vb)) v,fun v _=>Zg ((((ka)==(kb))&&(decide ((sa)=(sb))))=true) (.bool ((va)==(vb))) v,fun v _=>v=.bool ((((ka)==(kb))&&(decide ((sa)=(sb))))&&((va)==(vb))),fun v _=>v=.bool ((((ka)==(kb))&&(decide ((sa)=(sb))))&&((va)==(vb))),fun v _=>Zg (((((ka)==(kb))&&(decide ((sa)=(sb))))&&((va)==(vb)))=true) (.pointer (some ⟨T,3,none⟩)) v,fun v _=>Zg (((((ka)==(kb))&&(decide ((sa)=(sb))))&&((va)==(vb)))=true) (.int .i64 (oa)) v,fun v _=>Zg (((((ka)==(kb))&&(decide ((sa)=(sb))))&&((va)==(vb)))=true) (.pointer (some ⟨U,3,none⟩)) v,fun v _=>Zg (((((ka)==(kb))&&(decide ((sa)=(sb))))&&((va)==(vb)))=true) (.int .i64 (ob)) v,fun v _=>Zg (((((ka)==(kb))&&(decide ((sa)=(sb))))&&((va)==(vb)))=true) (.bool ((oa)==(ob))) v,fun v _=>v=.bool (((((ka)==(kb))&&(decide ((sa)=(sb))))&&((va)==(vb)))&&((oa)==(ob))),fun v _=>v=.bool (((((ka)==(kb))&&(decide ((sa)=(sb))))&&((va)==(vb)))&&((oa)==(ob))),fun v _=>Zg ((((((ka)==(kb))&&(decide ((sa)=(sb))))&&((va)==(vb)))&&((oa)==(ob)))=true) (.pointer (some ⟨T,4,none⟩)) v,fun v _=>Zg ((((((ka)==(kb))&&(decide ((sa)=(sb))))&&((va)==(vb)))&&((oa)==(ob)))=true) (.slice pa (ra.length) (ca)) v,fun v _=>Zg ((((((ka)==(kb))&&(decide ((sa)=(sb))))&&((va)==(vb)))&&((oa)==(ob)))=true) (.pointer (some ⟨U,4,none⟩)) v,fun v _=>Zg ((((((ka)==(kb))&&(decide ((sa)=(sb))))&&((va)==(vb)))&&((oa)==(ob)))=true) (.slice pb (rb.length) (cb)) v,fun v _=>Zg ((((((ka)==(kb))&&(decide ((sa)=(sb))))&&((va)==(vb)))&&((oa)==(ob)))=true) (.bool (eqL eqX ra rb)) v,fun v _=>v=.bool ((((((ka)==(kb))&&(decide ((sa)=(sb))))&&((va)==(vb)))&&((oa)==(ob)))&&(eqL eqX ra rb)),fun v _=>v=.bool ((((((ka)==(kb))&&(decide ((sa)=(sb))))&&((va)==(vb)))&&((oa)==(ob)))&&(eqL eqX ra rb))] (by kernel_rfl) rfl ?_ ⟨?_,?_,?_,?_,?_,?_,?_,?_,?_,?_,?_,?_,?_,?_,?_,?_,?_,?_,?_,?_,?_,?_,?_,?_,?_,?_,?_,?_,?_,?_,?_,?_,?_,?_,trivial⟩ ?_
 ·exact⟨Zi,Zi,Zi,Zi,Zi,Zi,Zi,Zi,Zi,Zi,Zi,Zi,Zi,Zi,Zi,Zi,Zi,Zi,Zi,Zi,Zi,Zi,Zi,Zi,Zi,Zi,Zi,Zi,Zi,Zi,Zi,Zi,Zi,Zi,trivial⟩
 ·intro u w hR hd;exact rn_fld_35_0 (ev rfl) Zr
 ·intro u w hR hd;exact rn_ld_3 (ev (hd.1 rfl)) (d0.kept hR) Zr
 ·intro u w hR hd;exact rn_fld_35_0 (ev rfl) Zr
 ·intro u w hR hd;exact rn_ld_3 (ev (hd.1 rfl)) (e0.kept hR) Zr
 ·intro u w hR hd;exact rn_eql_3 (ev (hd.1 rfl)) (ev (hd.2.1 rfl)) Zr
 ·intro u w hR hd;exact runs_mv (ev (hd.1 rfl)) Zr
 ·intro u w hR hd;exact⟨fun hg=>have hG:=Zh (hd.1 rfl) hg;rn_fld_35_1 (ev rfl) (Zs hG),Zn (hd.1 rfl)⟩
 ·intro u w hR hd;exact⟨fun hg=>have hG:=Zh (hd.2.1 rfl) hg;rn_ld_9 (ev ((hd.1 rfl).1 hG)) (d1.kept hR) (Zs hG),Zn (hd.2.1 rfl)⟩
 ·intro u w hR hd;exact⟨fun hg=>have hG:=Zh (hd.1 rfl) hg;rn_fld_35_1 (ev rfl) (Zs hG),Zn (hd.1 rfl)⟩
 ·intro u w hR hd;exact⟨fun hg=>have hG:=Zh (hd.2.1 rfl) hg;rn_ld_9 (ev ((hd.1 rfl).1 hG)) (e1.kept hR) (Zs hG),Zn (hd.2.1 rfl)⟩
 ·intro u w hR hd;exact⟨fun hg=>have hG:=Zh (hd.2.2.1 rfl) hg;rn_eqs_9 (ev ((hd.1 rfl).1 hG)) (ev ((hd.2.1 rfl).1 hG)) (Zs hG),Zn (hd.2.2.1 rfl)⟩
 ·intro u w hR hd;exact runs_an (ev (hd.1 rfl)) (fun hb=>ev ((hd.2.1 rfl).1 hb)) Zr
 ·intro u w hR hd;exact runs_mv (ev (hd.1 rfl)) Zr
 ·intro u w hR hd;exact⟨fun hg=>have hG:=Zh (hd.1 rfl) hg;rn_fld_35_2 (ev rfl) (Zs hG),Zn (hd.1 rfl)⟩
 ·intro u w hR hd;exact⟨fun hg=>have hG:=Zh (hd.2.1 rfl) hg;rn_ld_32 (ev ((hd.1 rfl).1 hG)) (d2.kept hR) (Zs hG),Zn (hd.2.1 rfl)⟩
 ·intro u w hR hd;exact⟨fun hg=>have hG:=Zh (hd.1 rfl) hg;rn_fld_35_2 (ev rfl) (Zs hG),Zn (hd.1 rfl)⟩
 ·intro u w hR hd;exact⟨fun hg=>have hG:=Zh (hd.2.1 rfl) hg;rn_ld_32 (ev ((hd.1 rfl).1 hG)) (e2.kept hR) (Zs hG),Zn (hd.2.1 rfl)⟩
 ·intro u w hR hd;exact⟨fun hg=>have hG:=Zh (hd.2.2.1 rfl) hg;rn_eql_32 (ev ((hd.1 rfl).1 hG)) (ev ((hd.2.1 rfl).1 hG)) (Zs hG),Zn (hd.2.2.1 rfl)⟩
 ·intro u w hR hd;exact runs_an (ev (hd.1 rfl)) (fun hb=>ev ((hd.2.1 rfl).1 hb)) Zr
 ·intro u w hR hd;exact runs_mv (ev (hd.1 rfl)) Zr
 ·intro u w hR hd;exact⟨fun hg=>have hG:=Zh (hd.1 rfl) hg;rn_fld_35_3 (ev rfl) (Zs hG),Zn (hd.1 rfl)⟩
 ·intro u w hR hd;exact⟨fun hg=>have hG:=Zh (hd.2.1 rfl) hg;rn_ld_3 (ev ((hd.1 rfl).1 hG)) (d3.kept hR) (Zs hG),Zn (hd.2.1 rfl)⟩
 ·intro u w hR hd;exact⟨fun hg=>have hG:=Zh (hd.1 rfl) hg;rn_fld_35_3 (ev rfl) (Zs hG),Zn (hd.1 rfl)⟩
 ·intro u w hR hd;exact⟨fun hg=>have hG:=Zh (hd.2.1 rfl) hg;rn_ld_3 (ev ((hd.1 rfl).1 hG)) (e3.kept hR) (Zs hG),Zn (hd.2.1 rfl)⟩
 ·intro u w hR hd;exact⟨fun hg=>have hG:=Zh (hd.2.2.1 rfl) hg;rn_eql_3 (ev ((hd.1 rfl).1 hG)) (ev ((hd.2.1 rfl).1 hG)) (Zs hG),Zn (hd.2.2.1 rfl)⟩
 ·intro u w hR hd;exact runs_an (ev (hd.1 rfl)) (fun hb=>ev ((hd.2.1 rfl).1 hb)) Zr
 ·intro u w hR hd;exact runs_mv (ev (hd.1 rfl)) Zr
 ·intro u w hR hd;exact⟨fun hg=>have hG:=Zh (hd.1 rfl) hg;rn_fld_35_4 (ev rfl) (Zs hG),Zn (hd.1 rfl)⟩
 ·intro u w hR hd;exact⟨fun hg=>have hG:=Zh (hd.2.1 rfl) hg;rn_ld_33 (ev ((hd.1 rfl).1 hG)) (d4.kept hR) (Zs hG),Zn (hd.2.1 rfl)⟩
 ·intro u w hR hd;exact⟨fun hg=>have hG:=Zh (hd.1 rfl) hg;rn_fld_35_4 (ev rfl) (Zs hG),Zn (hd.1 rfl)⟩
 ·intro u w hR hd;exact⟨fun hg=>have hG:=Zh (hd.2.1 rfl) hg;rn_ld_33 (ev ((hd.1 rfl).1 hG)) (e4.kept hR) (Zs hG),Zn (hd.2.1 rfl)⟩
 ·intro u w hR hd;exact⟨fun hg=>have hG:=Zh (hd.2.2.1 rfl) hg;runs_c3 en_efX (ev ((hd.1 rfl).1 hG)) (ev ((hd.2.1 rfl).1 hG)) rfl (callp (fun _ e=>⟨fun _=>e,fun hn=>absurd hG hn⟩) (HEX.out _ (HGV.out.trans hR))),Zn (hd.2.2.1 rfl)⟩
 ·intro u w hR hd;exact runs_an (ev (hd.1 rfl)) (fun hb=>ev ((hd.2.1 rfl).1 hb)) Zr
 ·intro u w hR hd;exact runs_mva (ev (hd.1 rfl)) Zr
 ·intro u w4 hR hh
  have he:u 4=.bool ((((((ka)==(kb))&&(decide ((sa)=(sb))))&&((va)==(vb)))&&((oa)==(ob)))&&(eqL eqX ra rb)):=hh 33 (by decide)
  rw [HEQ.out] at he
  simp only [mixA,mixL,zz9,zz0,he]
  have HG4:Hid (Grew w w4):=zh (HGV.out.trans hR)
  clear hh he hR d0 d1 d2 d3 d4 d5 e0 e1 e2 e3 e4 e5 HGV
  go_wp2
  go_ret
  exact⟨rfl,HG4.out⟩
set_option maxHeartbeats 8000000 in
theorem eqfS_any (g:FuncId) (cb:Array Value) (eg:∀args w,(callFunc g args).run Tryz.prog w=.ok (.enter g args) w) (l m:List Sm) (R:Sm→Sm→Bool) (A B2:Nat→Prop) (w:World) (p p2:Option Addr) (c c2:Nat) (hx:SL A w p c l) (hy:SL B2 w p2 c2 m)
 (hf:∀x ∈ l,∀y ∈ m,∀(pa_:Option Addr) (ca_:Nat) (pb_:Option Addr) (cb_:Nat) (pe_:Option Addr) (ce_:Nat) (pa2_:Option Addr) (ca2_:Nat) (pb2_:Option Addr) (cb2_:Nat) (pe2_:Option Addr) (ce2_:Nat) (W:World),XL A W pa_ ca_ x.ar→SL A W pb_ cb_ x.b→SL A W pe_ ce_ x.e→x.s.size≤1048576→XL B2 W pa2_ ca2_ y.ar→SL B2 W pb2_ cb2_ y.b→SL B2 W pe2_ ce2_ y.e→y.s.size≤1048576→Grew w W→Calls Tryz.prog g (#[sv x.k x.s x.n pa_ x.ar.length ca_ pb_ x.b.length cb_ pe_ x.e.length ce_ x.q,sv y.k y.s y.n pa2_ y.ar.length ca2_ pb2_ y.b.length cb2_ pe2_ y.e.length ce2_ y.q]++cb) W fun e w'=>e=.returned (.bool (R x y))∧Grew W w') :
 Calls Tryz.prog 117 #[.slice p l.length c,.slice p2 m.length c2,.func (.func g) #[] cb] w fun e w'=>e=.returned (.bool (eqL R l m))∧Grew w w':=by
 have hcap:l.length≤c∧m.length≤c2:=⟨hx.cap.1,hy.cap.1⟩
 have hmax:=And.intro hx.cap.2.1 hy.cap.2.1
 by_cases hlen:l.length=m.length
 ·have HX:=zh hx
  have HY:=zh hy
  have HF:=zh hf
  rw [eqL,decide_eq_true hlen,Bool.true_and]
  obtain ⟨b,hb⟩:∃b,all2 R l m=b:=⟨_,rfl⟩
  have HOK:=zh hb
  have HLE:=zh hlen
  have HFALSE:=zh (fun(j:Nat) (hj:j < l.length) (hj':j < m.length) (h:R l[j] m[j]=false)=>(show b=false from hb ▸ all2_no l m j hj hj' h))
  rw [hb]
  have hle2:(((l.length:Nat):Int) != ((m.length:Nat):Int))=false:=by rw [hlen];simp
  clear hx hy hf hb hlen
  go_enter Tryz.func117,Tryz.ntmps117
  go_wp2
  go_loopg [7,8,9,17] l.length (fun gg iv7 xv_ yv_ iv wr=>∃(j:Nat),iv=.int .i64 (j:Int)∧j≤l.length∧gg=l.length - j∧Hid (all2 R (l.take j) (m.take j)=true)∧Hid (Grew w wr))
  case atStart=>exact⟨0,rfl,Nat.zero_le _,rfl,zh rfl,zh (Grew.refl _)⟩
  case round =>
   obtain ⟨j,rfl,hj,rfl,HI,HG⟩:=hrel
   by_cases hlt:j < l.length
   ·have hlt2:j < m.length:=by rw [← HLE.out];exact hlt
    have HFJ:=zh (HFALSE.out j hlt hlt2)
    have HTL:Hid ((l.take j).length=(m.take j).length):=zh (by rw [List.length_take,List.length_take,HLE.out])
    obtain ⟨bz,oz,paz,caz,pbz,cbz,pez,cez,rfl,hbz,haz,hboz,helz,hcz⟩:=HX.out.get j hlt
    have hmz:=List.getElem_mem hlt
    have hnz:=nSs_mem hmz
    have htz:=List.take_succ_eq_append_getElem hlt
    have HLz:=zh (Nat.succ_le_of_lt hlt)
    generalize l[j]=xz at *
    obtain ⟨kz,sz,nz,rz,yz,ez,qz⟩:=xz
    replace hbz:sz.size≤1048576:=hbz.2
    have HTz:=zh htz
    have HAz:Hid (XL A w paz caz rz):=zh haz
    have HYz:Hid (SL A w pbz cbz yz):=zh hboz
    have HEz:Hid (SL A w pez cez ez):=zh helz
    have hcapz:rz.length≤caz∧yz.length≤cbz∧ez.length≤cez:=⟨haz.cap.1,hboz.cap.1,helz.cap.1⟩
    have hmaxz:=And.intro haz.cap.2.1 (And.intro hboz.cap.2.1 helz.cap.2.1)
    replace hcz:∀i_ u_,(sdc ⟨kz,sz,nz,paz,rz.length,caz,pbz,yz.length,cbz,pez,ez.length,cez,qz⟩)[i_]?=some u_→wr.cell? ⟨bz,oz+j * 7+i_,none⟩=some u_:=fun i_ u_ h_=>Atv.kept (hcz i_ u_ h_) HG.out
    have cz0:wr.cell? ⟨bz,oz+j * 7,none⟩=some (.int .i64 kz):=by simpa using hcz 0 _ rfl
    have cz1:wr.cell? ⟨bz,oz+j * 7+1,none⟩=some (.string sz):=hcz 1 _ rfl
    have cz2:wr.cell? ⟨bz,oz+j * 7+2,none⟩=some (.int .i64 nz):=hcz 2 _ rfl
    have cz3:wr.cell? ⟨bz,oz+j * 7+3,none⟩=some (.slice paz rz.length caz):=hcz 3 _ rfl
    have cz4:wr.cell? ⟨bz,oz+j * 7+4,none⟩=some (.slice pbz yz.length cbz):=hcz 4 _ rfl
    have cz5:wr.cell? ⟨bz,oz+j * 7+5,none⟩=some (.slice pez ez.length cez):=hcz 5 _ rfl
    have cz6:wr.cell? ⟨bz,oz+j * 7+6,none⟩=some (.int .i64 qz):=hcz 6 _ rfl
    clear hcz haz hboz helz htz
    obtain ⟨bu,ou,pau,cau,pbu,cbu,peu,ceu,rfl,hbu,hau,hbou,helu,hcu⟩:=HY.out.get j hlt2
    have hmu:=List.getElem_mem hlt2
    have hnu:=nSs_mem hmu
    have htu:=List.take_succ_eq_append_getElem hlt2
    have HLu:=zh (Nat.succ_le_of_lt hlt2)
    generalize m[j]=xu at *
    obtain ⟨ku,su,nu,ru,yu,eu,qu⟩:=xu
    replace hbu:su.size≤1048576:=hbu.2
    have HTu:=zh htu
    have HAu:Hid (XL B2 w pau cau ru):=zh hau
    have HYu:Hid (SL B2 w pbu cbu yu):=zh hbou
    have HEu:Hid (SL B2 w peu ceu eu):=zh helu
    have hcapu:ru.length≤cau∧yu.length≤cbu∧eu.length≤ceu:=⟨hau.cap.1,hbou.cap.1,helu.cap.1⟩
    have hmaxu:=And.intro hau.cap.2.1 (And.intro hbou.cap.2.1 helu.cap.2.1)
    replace hcu:∀i_ u_,(sdc ⟨ku,su,nu,pau,ru.length,cau,pbu,yu.length,cbu,peu,eu.length,ceu,qu⟩)[i_]?=some u_→wr.cell? ⟨bu,ou+j * 7+i_,none⟩=some u_:=fun i_ u_ h_=>Atv.kept (hcu i_ u_ h_) HG.out
    have cu0:wr.cell? ⟨bu,ou+j * 7,none⟩=some (.int .i64 ku):=by simpa using hcu 0 _ rfl
    have cu1:wr.cell? ⟨bu,ou+j * 7+1,none⟩=some (.string su):=hcu 1 _ rfl
    have cu2:wr.cell? ⟨bu,ou+j * 7+2,none⟩=some (.int .i64 nu):=hcu 2 _ rfl
    have cu3:wr.cell? ⟨bu,ou+j * 7+3,none⟩=some (.slice pau ru.length cau):=hcu 3 _ rfl
    have cu4:wr.cell? ⟨bu,ou+j * 7+4,none⟩=some (.slice pbu yu.length cbu):=hcu 4 _ rfl
    have cu5:wr.cell? ⟨bu,ou+j * 7+5,none⟩=some (.slice peu eu.length ceu):=hcu 5 _ rfl
    have cu6:wr.cell? ⟨bu,ou+j * 7+6,none⟩=some (.int .i64 qu):=hcu 6 _ rfl
    clear hcu hau hbou helu htu
    have hblu:bu < wr.heap.size:=World.block_lt_of_cell? _ _ cu0
    obtain ⟨d,hd⟩:∃d,R ⟨kz,sz,nz,rz,yz,ez,qz⟩ ⟨ku,su,nu,ru,yu,eu,qu⟩=d:=⟨_,rfl⟩
    have HD:=zh hd
    have HC:=zh (fun W (hW:Grew w W)=>(show Calls Tryz.prog g (#[sv kz sz nz paz rz.length caz pbz yz.length cbz pez ez.length cez qz,sv ku su nu pau ru.length cau pbu yu.length cbu peu eu.length ceu qu]++cb) W fun e w'=>e=.returned (.bool d)∧Grew W w' from hd ▸ HF.out ⟨kz,sz,nz,rz,yz,ez,qz⟩ hmz ⟨ku,su,nu,ru,yu,eu,qu⟩ hmu paz caz pbz cbz pez cez pau cau pbu cbu peu ceu _ (HAz.out.kept hW) (HYz.out.kept hW) (HEz.out.kept hW) hbz (HAu.out.kept hW) (HYu.out.kept hW) (HEu.out.kept hW) hbu hW))
    have HNO:=zh (fun(h:d=false)=>HFJ.out (hd.trans h))
    have hltu:(j:Int) < (m.length:Int):=by omega
    clear hmz hmu hd HF HFALSE HFJ
    cases d with
    | false =>
      have HN2:Hid (b=false):=zh (HNO.out rfl)
      clear HNO
      go_wp2_with (go_at_fn g;refine(HC.out _ ((HG.out.alloc _).alloc _)).mono ?_;rintro e w1 ⟨rfl,g1⟩;have HG1:=zh (((HG.out.alloc _).alloc _).trans g1);clear g1)
      go_ret
      exact⟨ret_bool HN2.out.symm,HG1.out⟩
    | true =>
      go_wp2_with (go_at_fn g;refine(HC.out _ ((HG.out.alloc _).alloc _)).mono ?_;rintro e w1 ⟨rfl,g1⟩;have HG1:=zh (((HG.out.alloc _).alloc _).trans g1);clear g1)
      go_roundg (l.length - (j+1))
      case measure=>have:=HLz.out;omega
      case rel=>exact⟨j+1,by go_num,HLz.out,rfl,zh (by rw [HTz.out,HTu.out,all2_snoc _ _ _ _ HTL.out,HI.out,Bool.true_and];exact HD.out),HG1⟩
   ·obtain rfl:j=l.length:=by omega
    rw [List.take_length,HLE.out,List.take_length] at HI
    go_wp2
    go_ret
    exact⟨ret_bool (HI.out.symm.trans HOK.out),HG.out⟩
 ·have he:eqL R l m=false:=by rw [eqL,decide_eq_false hlen,Bool.false_and]
  rw [he]
  have hle2:(((l.length:Nat):Int) != ((m.length:Nat):Int))=true:=by rw [bne_iff_ne];omega
  clear he hx hy hf hlen
  go_enter Tryz.func117,Tryz.ntmps117
  go_wp2
  go_ret
  exact⟨rfl,Grew.refl _⟩
set_option maxHeartbeats 8000000 in
theorem eqfT_any (g:FuncId) (cb:Array Value) (eg:∀args w,(callFunc g args).run Tryz.prog w=.ok (.enter g args) w) (l m:List Ta) (R:Ta→Ta→Bool) (A B2:Nat→Prop) (w:World) (p p2:Option Addr) (c c2:Nat) (hx:TL A w p c l) (hy:TL B2 w p2 c2 m)
 (hf:∀x ∈ l,∀y ∈ m,∀(pb_:Option Addr) (cb_:Nat) (pb2_:Option Addr) (cb2_:Nat) (W:World),SL A W pb_ cb_ x.b→x.s.size≤1048576∧x.c.size≤1048576∧x.m.size≤1048576→SL B2 W pb2_ cb2_ y.b→y.s.size≤1048576∧y.c.size≤1048576∧y.m.size≤1048576→Grew w W→Calls Tryz.prog g (#[tv x.s x.p x.d x.c x.m x.w pb_ x.b.length cb_ x.q,tv y.s y.p y.d y.c y.m y.w pb2_ y.b.length cb2_ y.q]++cb) W fun e w'=>e=.returned (.bool (R x y))∧Grew W w') :
 Calls Tryz.prog 72 #[.slice p l.length c,.slice p2 m.length c2,.func (.func g) #[] cb] w fun e w'=>e=.returned (.bool (eqL R l m))∧Grew w w':=by
 have hcap:l.length≤c∧m.length≤c2:=⟨hx.cap.1,hy.cap.1⟩
 have hmax:=And.intro hx.cap.2.1 hy.cap.2.1
 by_cases hlen:l.length=m.length
 ·have HX:=zh hx
  have HY:=zh hy
  have HF:=zh hf
  rw [eqL,decide_eq_true hlen,Bool.true_and]
  obtain ⟨b,hb⟩:∃b,all2 R l m=b:=⟨_,rfl⟩
  have HOK:=zh hb
  have HLE:=zh hlen
  have HFALSE:=zh (fun(j:Nat) (hj:j < l.length) (hj':j < m.length) (h:R l[j] m[j]=false)=>(show b=false from hb ▸ all2_no l m j hj hj' h))
  rw [hb]
  have hle2:(((l.length:Nat):Int) != ((m.length:Nat):Int))=false:=by rw [hlen];simp
  clear hx hy hf hb hlen
  go_enter Tryz.func72,Tryz.ntmps72
  go_wp2
  go_loopg [7,8,9,17] l.length (fun gg iv7 xv_ yv_ iv wr=>∃(j:Nat),iv=.int .i64 (j:Int)∧j≤l.length∧gg=l.length - j∧Hid (all2 R (l.take j) (m.take j)=true)∧Hid (Grew w wr))
  case atStart=>exact⟨0,rfl,Nat.zero_le _,rfl,zh rfl,zh (Grew.refl _)⟩
  case round =>
   obtain ⟨j,rfl,hj,rfl,HI,HG⟩:=hrel
   by_cases hlt:j < l.length
   ·have hlt2:j < m.length:=by rw [← HLE.out];exact hlt
    have HFJ:=zh (HFALSE.out j hlt hlt2)
    have HTL:Hid ((l.take j).length=(m.take j).length):=zh (by rw [List.length_take,List.length_take,HLE.out])
    obtain ⟨bz,oz,pbz,cbz,rfl,hbz,hboz,hcz⟩:=HX.out.get j hlt
    have hmz:=List.getElem_mem hlt
    have htz:=List.take_succ_eq_append_getElem hlt
    have HLz:=zh (Nat.succ_le_of_lt hlt)
    generalize l[j]=xz at *
    obtain ⟨sz,iz,dz,hz,mz,nz,yz,qz⟩:=xz
    replace hbz:sz.size≤1048576∧hz.size≤1048576∧mz.size≤1048576:=hbz.2
    have HTz:=zh htz
    have HYz:Hid (SL A w pbz cbz yz):=zh hboz
    have hcapz:yz.length≤cbz:=hboz.cap.1
    have hmaxz:=hboz.cap.2.1
    replace hcz:∀i_ u_,(tdc ⟨sz,iz,dz,hz,mz,nz,pbz,yz.length,cbz,qz⟩)[i_]?=some u_→wr.cell? ⟨bz,oz+j * 8+i_,none⟩=some u_:=fun i_ u_ h_=>Atv.kept (hcz i_ u_ h_) HG.out
    have cz0:wr.cell? ⟨bz,oz+j * 8,none⟩=some (.string sz):=by simpa using hcz 0 _ rfl
    have cz1:wr.cell? ⟨bz,oz+j * 8+1,none⟩=some (.int .i64 iz):=hcz 1 _ rfl
    have cz2:wr.cell? ⟨bz,oz+j * 8+2,none⟩=some (.int .i64 dz):=hcz 2 _ rfl
    have cz3:wr.cell? ⟨bz,oz+j * 8+3,none⟩=some (.string hz):=hcz 3 _ rfl
    have cz4:wr.cell? ⟨bz,oz+j * 8+4,none⟩=some (.string mz):=hcz 4 _ rfl
    have cz5:wr.cell? ⟨bz,oz+j * 8+5,none⟩=some (.int .i64 nz):=hcz 5 _ rfl
    have cz6:wr.cell? ⟨bz,oz+j * 8+6,none⟩=some (.slice pbz yz.length cbz):=hcz 6 _ rfl
    have cz7:wr.cell? ⟨bz,oz+j * 8+7,none⟩=some (.int .i64 qz):=hcz 7 _ rfl
    clear hcz hboz htz
    obtain ⟨bu,ou,pbu,cbu,rfl,hbu,hbou,hcu⟩:=HY.out.get j hlt2
    have hmu:=List.getElem_mem hlt2
    have htu:=List.take_succ_eq_append_getElem hlt2
    have HLu:=zh (Nat.succ_le_of_lt hlt2)
    generalize m[j]=xu at *
    obtain ⟨su,iu,du,hu,mu,nu,yu,qu⟩:=xu
    replace hbu:su.size≤1048576∧hu.size≤1048576∧mu.size≤1048576:=hbu.2
    have HTu:=zh htu
    have HYu:Hid (SL B2 w pbu cbu yu):=zh hbou
    have hcapu:yu.length≤cbu:=hbou.cap.1
    have hmaxu:=hbou.cap.2.1
    replace hcu:∀i_ u_,(tdc ⟨su,iu,du,hu,mu,nu,pbu,yu.length,cbu,qu⟩)[i_]?=some u_→wr.cell? ⟨bu,ou+j * 8+i_,none⟩=some u_:=fun i_ u_ h_=>Atv.kept (hcu i_ u_ h_) HG.out
    have cu0:wr.cell? ⟨bu,ou+j * 8,none⟩=some (.string su):=by simpa using hcu 0 _ rfl
    have cu1:wr.cell? ⟨bu,ou+j * 8+1,none⟩=some (.int .i64 iu):=hcu 1 _ rfl
    have cu2:wr.cell? ⟨bu,ou+j * 8+2,none⟩=some (.int .i64 du):=hcu 2 _ rfl
    have cu3:wr.cell? ⟨bu,ou+j * 8+3,none⟩=some (.string hu):=hcu 3 _ rfl
    have cu4:wr.cell? ⟨bu,ou+j * 8+4,none⟩=some (.string mu):=hcu 4 _ rfl
    have cu5:wr.cell? ⟨bu,ou+j * 8+5,none⟩=some (.int .i64 nu):=hcu 5 _ rfl
    have cu6:wr.cell? ⟨bu,ou+j * 8+6,none⟩=some (.slice pbu yu.length cbu):=hcu 6 _ rfl
    have cu7:wr.cell? ⟨bu,ou+j * 8+7,none⟩=some (.int .i64 qu):=hcu 7 _ rfl
    clear hcu hbou htu
    have hblu:bu < wr.heap.size:=World.block_lt_of_cell? _ _ cu0
    obtain ⟨d,hd⟩:∃d,R ⟨sz,iz,dz,hz,mz,nz,yz,qz⟩ ⟨su,iu,du,hu,mu,nu,yu,qu⟩=d:=⟨_,rfl⟩
    have HD:=zh hd
    have HC:=zh (fun W (hW:Grew w W)=>(show Calls Tryz.prog g (#[tv sz iz dz hz mz nz pbz yz.length cbz qz,tv su iu du hu mu nu pbu yu.length cbu qu]++cb) W fun e w'=>e=.returned (.bool d)∧Grew W w' from hd ▸ HF.out ⟨sz,iz,dz,hz,mz,nz,yz,qz⟩ hmz ⟨su,iu,du,hu,mu,nu,yu,qu⟩ hmu pbz cbz pbu cbu _ (HYz.out.kept hW) hbz (HYu.out.kept hW) hbu hW))
    have HNO:=zh (fun(h:d=false)=>HFJ.out (hd.trans h))
    have hltu:(j:Int) < (m.length:Int):=by omega
    clear hmz hmu hd HF HFALSE HFJ
    cases d with
    | false =>
      have HN2:Hid (b=false):=zh (HNO.out rfl)
      clear HNO
      go_wp2_with (go_at_fn g;refine(HC.out _ ((HG.out.alloc _).alloc _)).mono ?_;rintro e w1 ⟨rfl,g1⟩;have HG1:=zh (((HG.out.alloc _).alloc _).trans g1);clear g1)
      go_ret
      exact⟨ret_bool HN2.out.symm,HG1.out⟩
    | true =>
      go_wp2_with (go_at_fn g;refine(HC.out _ ((HG.out.alloc _).alloc _)).mono ?_;rintro e w1 ⟨rfl,g1⟩;have HG1:=zh (((HG.out.alloc _).alloc _).trans g1);clear g1)
      go_roundg (l.length - (j+1))
      case measure=>have:=HLz.out;omega
      case rel=>exact⟨j+1,by go_num,HLz.out,rfl,zh (by rw [HTz.out,HTu.out,all2_snoc _ _ _ _ HTL.out,HI.out,Bool.true_and];exact HD.out),HG1⟩
   ·obtain rfl:j=l.length:=by omega
    rw [List.take_length,HLE.out,List.take_length] at HI
    go_wp2
    go_ret
    exact⟨ret_bool (HI.out.symm.trans HOK.out),HG.out⟩
 ·have he:eqL R l m=false:=by rw [eqL,decide_eq_false hlen,Bool.false_and]
  rw [he]
  have hle2:(((l.length:Nat):Int) != ((m.length:Nat):Int))=true:=by rw [bne_iff_ne];omega
  clear he hx hy hf hlen
  go_enter Tryz.func72,Tryz.ntmps72
  go_wp2
  go_ret
  exact⟨rfl,Grew.refl _⟩
end Go.Proofs.YtcknpcbkofgdoaaGreatDoor
