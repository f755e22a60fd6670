/-
  THE REFERENCE OF LAYER 16: Equal.
-/
import Derived.Test.YtcknpcbkofgdoaaGreatDoorZdShort
import Derived.Test.YtcknpcbkofgdoaaGreatDoorZd03
import Derived.Test.YtcknpcbkofgdoaaGreatDoorZd07
import Derived.Test.YtcknpcbkofgdoaaGreatDoorZd02
import Derived.Test.YtcknpcbkofgdoaaGreatDoorZd00
import Derived.Deep.LoopGhost
import Derived.Deep.Cut
namespace Go.Proofs.YtcknpcbkofgdoaaGreatDoor
open Go Go.RowKit Go.IntWalk
set_option linter.unusedSimpArgs false
set_option linter.unusedVariables false
set_option maxRecDepth 8000
section
variable {dst:Option Tmp}{ty:TypeId}{pos:String}{after:Array Edge}{g:Option (Nat × Bool)}{a:Act}{w:World}{T:Value→World→Prop}
theorem rn_st_28 {x y:Operand}{S o:Nat}{v0p:Option Addr}{v0n v0c:Nat}{v1p:Option Addr}{v1n v1c:Nat}{v2p:Option Addr}{v2n v2c:Nat}{v3p:Option Addr}{v3n v3c:Nat}{v4p:Option Addr}{v4n v4c:Nat}{v5p:Option Addr}{v5n v5c:Nat}{u0 u1 u2 u3 u4 u5:Value}(hx:a.eval x=.pointer (some ⟨S,o,none⟩)) (hy:a.eval y=.agg #[.slice v0p v0n v0c,.slice v1p v1n v1c,.slice v2p v2n v2c,.slice v3p v3n v3c,.slice v4p v4n v4c,.slice v5p v5n v5c]) (h0:w.cell? ⟨S,o,none⟩=some u0) (h1:w.cell? ⟨S,o+1,none⟩=some u1) (h2:w.cell? ⟨S,o+2,none⟩=some u2) (h3:w.cell? ⟨S,o+3,none⟩=some u3) (h4:w.cell? ⟨S,o+4,none⟩=some u4) (h5:w.cell? ⟨S,o+5,none⟩=some u5) (hf:∀i,w.frozen? ⟨S,i,none⟩=false) (h:T undef ((((((w.setCell ⟨S,o,none⟩ (.slice v0p v0n v0c)).setCell ⟨S,o+1,none⟩ (.slice v1p v1n v1c)).setCell ⟨S,o+2,none⟩ (.slice v2p v2n v2c)).setCell ⟨S,o+3,none⟩ (.slice v3p v3n v3c)).setCell ⟨S,o+4,none⟩ (.slice v4p v4n v4c)).setCell ⟨S,o+5,none⟩ (.slice v5p v5n v5c))):Runs Tryz.prog ⟨dst,.store 28 x y,ty,pos,after,g⟩ a w T:=by
 have hf0:=hf o
 have hf1:=hf (o+1)
 have hf2:=hf (o+2)
 have hf3:=hf (o+3)
 have hf4:=hf (o+4)
 have hf5:=hf (o+5)
 refine Runs.skip (w':=((((((w.setCell ⟨S,o,none⟩ (.slice v0p v0n v0c)).setCell ⟨S,o+1,none⟩ (.slice v1p v1n v1c)).setCell ⟨S,o+2,none⟩ (.slice v2p v2n v2c)).setCell ⟨S,o+3,none⟩ (.slice v3p v3n v3c)).setCell ⟨S,o+4,none⟩ (.slice v4p v4n v4c)).setCell ⟨S,o+5,none⟩ (.slice v5p v5n v5c))) ?_ h
 simp only [execOp,hx,hy]
 go_simp
theorem rn_ret_c28 {fn:Func}{p0:Tmp}(h:fn.results=#[.cell p0 28]){tmps:Array Value}{w:World}{S0:Nat}{v0_0 v0_1 v0_2 v0_3 v0_4 v0_5:Value}{R:Ending→World→Prop}(hp0:tmps.getD p0 undef=.pointer (some ⟨S0,0,none⟩)) (h0_0:w.cell? ⟨S0,0,none⟩=some v0_0) (h0_1:w.cell? ⟨S0,1,none⟩=some v0_1) (h0_2:w.cell? ⟨S0,2,none⟩=some v0_2) (h0_3:w.cell? ⟨S0,3,none⟩=some v0_3) (h0_4:w.cell? ⟨S0,4,none⟩=some v0_4) (h0_5:w.cell? ⟨S0,5,none⟩=some v0_5) (hR:R (.returned (.agg #[v0_0,v0_1,v0_2,v0_3,v0_4,v0_5])) w):bodyPost Tryz.prog fn R .ret { tmps:=tmps,defers:=[] } w:=by
 refine bodyPost_ret (v:=.agg #[v0_0,v0_1,v0_2,v0_3,v0_4,v0_5]) ?_ rfl hR
 rw [Array.getD_eq_getD_getElem?] at hp0
 simp [results,h,hp0,h0_0,h0_1,h0_2,h0_3,h0_4,h0_5,go_sem]
theorem rn_ld_28 {x:Operand}{S o:Nat}{v0 v1 v2 v3 v4 v5:Value}(hx:a.eval x=.pointer (some ⟨S,o,none⟩)) (h0:w.cell? ⟨S,o,none⟩=some v0) (h1:w.cell? ⟨S,o+1,none⟩=some v1) (h2:w.cell? ⟨S,o+2,none⟩=some v2) (h3:w.cell? ⟨S,o+3,none⟩=some v3) (h4:w.cell? ⟨S,o+4,none⟩=some v4) (h5:w.cell? ⟨S,o+5,none⟩=some v5) (h:T (.agg #[v0,v1,v2,v3,v4,v5]) w):Runs Tryz.prog ⟨dst,.load 28 x,ty,pos,after,g⟩ a w T:=by
 refine Runs.value (v:=.agg #[v0,v1,v2,v3,v4,v5]) (w':=w) ?_ h
 simp only [execOp,hx]
 go_simp
theorem rn_len_22 {x:Operand}{p:Option Addr}{n c:Nat}(hx:a.eval x=.slice p n c) (h:T (.int .i64 (n:Nat)) w):Runs Tryz.prog ⟨dst,.call { callee:=.builtin .len,args:=#[x],argTypes:=#[22] },ty,pos,after,g⟩ a w T:=by
 refine Runs.value (v:=.int .i64 (n:Nat)) (w':=w) ?_ h
 simp [execOp,resolve,invoke,builtin,hx,Result.andThen]
 go_simp
theorem rn_len_23 {x:Operand}{p:Option Addr}{n c:Nat}(hx:a.eval x=.slice p n c) (h:T (.int .i64 (n:Nat)) w):Runs Tryz.prog ⟨dst,.call { callee:=.builtin .len,args:=#[x],argTypes:=#[23] },ty,pos,after,g⟩ a w T:=by
 refine Runs.value (v:=.int .i64 (n:Nat)) (w':=w) ?_ h
 simp [execOp,resolve,invoke,builtin,hx,Result.andThen]
 go_simp
theorem rn_len_25 {x:Operand}{p:Option Addr}{n c:Nat}(hx:a.eval x=.slice p n c) (h:T (.int .i64 (n:Nat)) w):Runs Tryz.prog ⟨dst,.call { callee:=.builtin .len,args:=#[x],argTypes:=#[25] },ty,pos,after,g⟩ a w T:=by
 refine Runs.value (v:=.int .i64 (n:Nat)) (w':=w) ?_ h
 simp [execOp,resolve,invoke,builtin,hx,Result.andThen]
 go_simp
theorem rn_len_26 {x:Operand}{p:Option Addr}{n c:Nat}(hx:a.eval x=.slice p n c) (h:T (.int .i64 (n:Nat)) w):Runs Tryz.prog ⟨dst,.call { callee:=.builtin .len,args:=#[x],argTypes:=#[26] },ty,pos,after,g⟩ a w T:=by
 refine Runs.value (v:=.int .i64 (n:Nat)) (w':=w) ?_ h
 simp [execOp,resolve,invoke,builtin,hx,Result.andThen]
 go_simp
theorem rn_idx_22 {x y:Operand}{b o n c:Nat}(i:Nat) (hx:a.eval x=.slice (some ⟨b,o,none⟩) n c) (hy:a.eval y=.int .i64 (i:Int)) (hi:i < n) (h:T (.pointer (some ⟨b,o+i * 3,none⟩)) w):Runs Tryz.prog ⟨dst,.indexAddr 22 x y,ty,pos,after,g⟩ a w T:=by
 have hi2:(i:Int) < (n:Int):=by omega
 refine Runs.value (v:=.pointer (some ⟨b,o+i * 3,none⟩)) (w':=w) ?_ h
 simp only [execOp,hx,hy]
 go_simp
theorem rn_ld_60 {x:Operand}{S o:Nat}{v0 v1 v2:Value}(hx:a.eval x=.pointer (some ⟨S,o,none⟩)) (h0:w.cell? ⟨S,o,none⟩=some v0) (h1:w.cell? ⟨S,o+1,none⟩=some v1) (h2:w.cell? ⟨S,o+2,none⟩=some v2) (h:T (.agg #[v0,v1,v2]) w):Runs Tryz.prog ⟨dst,.load 60 x,ty,pos,after,g⟩ a w T:=by
 refine Runs.value (v:=.agg #[v0,v1,v2]) (w':=w) ?_ h
 simp only [execOp,hx]
 go_simp
theorem rn_neq_60 {o1 o2:Operand}{b0 c0:ByteArray}{b1 c1:Int}{b2 c2:Int}(hx:a.eval o1=.agg #[.string b0,.int .i16 b1,.int .i64 b2]) (hy:a.eval o2=.agg #[.string c0,.int .i16 c1,.int .i64 c2]) (h:T (.bool (!(decide (b0=c0)&&(b1==c1)&&(b2==c2)))) w):Runs Tryz.prog ⟨dst,.binOp .neq 60 o1 o2 60,ty,pos,after,g⟩ a w T:=by
 have hs0:¬ b0=c0→¬ b0.toList=c0.toList:=fun h g=>h (by
  rw [ByteArray.toList_eq,ByteArray.toList_eq] at g
  cases b0;cases c0;simp at g;rw [g])
 refine Runs.value (v:=.bool (!(decide (b0=c0)&&(b1==c1)&&(b2==c2)))) (w':=w) ?_ h
 simp only [execOp,hx,hy]
 go_simp
 by_cases e0:b0=c0 <;> by_cases e1:b1=c1 <;> by_cases e2:b2=c2 <;> simp [e0,e1,e2]
 exact hs0 e0
theorem rn_idx_23 {x y:Operand}{b o n c:Nat}(i:Nat) (hx:a.eval x=.slice (some ⟨b,o,none⟩) n c) (hy:a.eval y=.int .i64 (i:Int)) (hi:i < n) (h:T (.pointer (some ⟨b,o+i * 4,none⟩)) w):Runs Tryz.prog ⟨dst,.indexAddr 23 x y,ty,pos,after,g⟩ a w T:=by
 have hi2:(i:Int) < (n:Int):=by omega
 refine Runs.value (v:=.pointer (some ⟨b,o+i * 4,none⟩)) (w':=w) ?_ h
 simp only [execOp,hx,hy]
 go_simp
theorem rn_ld_62 {x:Operand}{S o:Nat}{v0 v1 v2 v3:Value}(hx:a.eval x=.pointer (some ⟨S,o,none⟩)) (h0:w.cell? ⟨S,o,none⟩=some v0) (h1:w.cell? ⟨S,o+1,none⟩=some v1) (h2:w.cell? ⟨S,o+2,none⟩=some v2) (h3:w.cell? ⟨S,o+3,none⟩=some v3) (h:T (.agg #[v0,v1,v2,v3]) w):Runs Tryz.prog ⟨dst,.load 62 x,ty,pos,after,g⟩ a w T:=by
 refine Runs.value (v:=.agg #[v0,v1,v2,v3]) (w':=w) ?_ h
 simp only [execOp,hx]
 go_simp
theorem rn_neq_62 {o1 o2:Operand}{b0 c0:ByteArray}{b1 c1:Int}{b2 c2:Int}{b3 c3:Int}(hx:a.eval o1=.agg #[.string b0,.int .i64 b1,.int .i16 b2,.int .i64 b3]) (hy:a.eval o2=.agg #[.string c0,.int .i64 c1,.int .i16 c2,.int .i64 c3]) (h:T (.bool (!(decide (b0=c0)&&(b1==c1)&&(b2==c2)&&(b3==c3)))) w):Runs Tryz.prog ⟨dst,.binOp .neq 62 o1 o2 62,ty,pos,after,g⟩ a w T:=by
 have hs0:¬ b0=c0→¬ b0.toList=c0.toList:=fun h g=>h (by
  rw [ByteArray.toList_eq,ByteArray.toList_eq] at g
  cases b0;cases c0;simp at g;rw [g])
 refine Runs.value (v:=.bool (!(decide (b0=c0)&&(b1==c1)&&(b2==c2)&&(b3==c3)))) (w':=w) ?_ h
 simp only [execOp,hx,hy]
 go_simp
 by_cases e0:b0=c0 <;> by_cases e1:b1=c1 <;> by_cases e2:b2=c2 <;> by_cases e3:b3=c3 <;> simp [e0,e1,e2,e3]
 exact hs0 e0
theorem rn_idx_25 {x y:Operand}{b o n c:Nat}(i:Nat) (hx:a.eval x=.slice (some ⟨b,o,none⟩) n c) (hy:a.eval y=.int .i64 (i:Int)) (hi:i < n) (h:T (.pointer (some ⟨b,o+i * 3,none⟩)) w):Runs Tryz.prog ⟨dst,.indexAddr 25 x y,ty,pos,after,g⟩ a w T:=by
 have hi2:(i:Int) < (n:Int):=by omega
 refine Runs.value (v:=.pointer (some ⟨b,o+i * 3,none⟩)) (w':=w) ?_ h
 simp only [execOp,hx,hy]
 go_simp
theorem rn_ld_64 {x:Operand}{S o:Nat}{v0 v1 v2:Value}(hx:a.eval x=.pointer (some ⟨S,o,none⟩)) (h0:w.cell? ⟨S,o,none⟩=some v0) (h1:w.cell? ⟨S,o+1,none⟩=some v1) (h2:w.cell? ⟨S,o+2,none⟩=some v2) (h:T (.agg #[v0,v1,v2]) w):Runs Tryz.prog ⟨dst,.load 64 x,ty,pos,after,g⟩ a w T:=by
 refine Runs.value (v:=.agg #[v0,v1,v2]) (w':=w) ?_ h
 simp only [execOp,hx]
 go_simp
theorem rn_neq_64 {o1 o2:Operand}{b0 c0:ByteArray}{b1 c1:Int}{b2 c2:Int}(hx:a.eval o1=.agg #[.string b0,.int .i64 b1,.int .i64 b2]) (hy:a.eval o2=.agg #[.string c0,.int .i64 c1,.int .i64 c2]) (h:T (.bool (!(decide (b0=c0)&&(b1==c1)&&(b2==c2)))) w):Runs Tryz.prog ⟨dst,.binOp .neq 64 o1 o2 64,ty,pos,after,g⟩ a w T:=by
 have hs0:¬ b0=c0→¬ b0.toList=c0.toList:=fun h g=>h (by
  rw [ByteArray.toList_eq,ByteArray.toList_eq] at g
  cases b0;cases c0;simp at g;rw [g])
 refine Runs.value (v:=.bool (!(decide (b0=c0)&&(b1==c1)&&(b2==c2)))) (w':=w) ?_ h
 simp only [execOp,hx,hy]
 go_simp
 by_cases e0:b0=c0 <;> by_cases e1:b1=c1 <;> by_cases e2:b2=c2 <;> simp [e0,e1,e2]
 exact hs0 e0
end
theorem PgIn.mono {B B':Nat→Prop}{w:World}{P:Pg}{cp gp sp op hp tp:Option Addr}{cc gc sc oc hc tc:Nat}(h:PgIn B w P cp gp sp op hp tp cc gc sc oc hc tc) (hB:∀b,B b→B' b):PgIn B' w P cp gp sp op hp tp cc gc sc oc hc tc :=
 ⟨⟨fun hn a ha=>hB _ (h.cs.1 hn a ha),h.cs.2.mono (hangsF encCn) hB⟩,⟨fun hn a ha=>hB _ (h.gs.1 hn a ha),h.gs.2.mono (hangsF encGl) hB⟩,⟨fun hn a ha=>hB _ (h.ss.1 hn a ha),h.ss.2.mono (hangsF encStr) hB⟩,⟨fun hn a ha=>hB _ (h.os.1 hn a ha),h.os.2.mono (hangsF encStr) hB⟩,⟨fun hn a ha=>hB _ (h.hs.1 hn a ha),h.hs.2.mono (hangsF encCh) hB⟩,h.ts.keep hB (fun _ _ _=>rfl),h.sz⟩
def NewP (S:Nat) (P:Pg) (v:Value) (w:World):Prop:=∃(cp gp sp op hp tp:Option Addr) (cc gc sc oc hc tc:Nat),v=pgv (stP P) cp gp sp op hp tp cc gc sc oc hc tc∧PgIn (Fresh S w.heap.size) w (stP P) cp gp sp op hp tp cc gc sc oc hc tc
theorem NewP.grew {S:Nat}{P:Pg}{v:Value}{w w':World}(h:NewP S P v w) (hg:Grew w w'):NewP S P v w':=by
 obtain ⟨cp,gp,sp,op,hp,tp,cc,gc,sc,oc,hc,tc,h1,h2⟩:=h
 exact⟨cp,gp,sp,op,hp,tp,cc,gc,sc,oc,hc,tc,h1,(h2.kept hg).mono fun b hb=>⟨hb.1,Nat.lt_of_lt_of_le hb.2 hg.sz⟩⟩
theorem NewP.of {S:Nat}{P:Pg}{W w':World}{e:Ending}(hS:S≤W.heap.size) (h:∃cp gp sp op hp tp cc gc sc oc hc tc,e=.returned (.agg #[.slice cp P.cs.length cc,.slice gp P.gs.length gc,.slice sp P.ss.length sc,.slice op P.os.length oc,.slice hp P.hs.length hc,.slice tp P.ts.length tc])∧PgIn (Fresh W.heap.size w'.heap.size) w' (stP P) cp gp sp op hp tp cc gc sc oc hc tc∧Grew W w'):∃v,e=.returned v∧Grew W w'∧NewP S P v w':=by
 obtain ⟨cp,gp,sp,op,hp,tp,cc,gc,sc,oc,hc,tc,h1,h2,h3⟩:=h
 exact⟨_,h1,h3,cp,gp,sp,op,hp,tp,cc,gc,sc,oc,hc,tc,by simp [stP],h2.mono fun b hb=>⟨Nat.le_trans hS hb.1,hb.2⟩⟩
theorem stP_q (P:Pg):(∀c ∈ (stP P).cs,c.q=0)∧(∀c ∈ (stP P).gs,c.q=0)∧(∀c ∈ (stP P).hs,c.q=0):=by
 refine⟨fun c hc=>?_,fun c hc=>?_,fun c hc=>?_⟩
 all_goals (obtain ⟨x,_,rfl⟩:=List.mem_map.1 hc;rfl)
theorem stTa_st (t:Ta):stTa (stTa t)=stTa t:=by rw [stTa,stTa,stSs_st]
theorem eqPg_st (P Q:Pg):eqPg (stP P) (stP Q)=eqPg P Q:=by
 rw [Bool.eq_iff_iff,eqPg_maps,eqPg_maps]
 have h1:∀l:List Cn,(l.map stCn).map stCn=l.map stCn:=fun l=>by rw [List.map_map];rfl
 have h2:∀l:List Gl,(l.map stGl).map stGl=l.map stGl:=fun l=>by rw [List.map_map];rfl
 have h3:∀l:List Ta,(l.map stTa).map stTa=l.map stTa:=fun l=>by rw [List.map_map];exact List.map_congr_left fun t _=>stTa_st t
 show ((P.cs.map stCn).map stCn=(Q.cs.map stCn).map stCn∧(P.gs.map stGl).map stGl=(Q.gs.map stGl).map stGl∧P.ss=Q.ss∧P.os=Q.os∧(P.hs.map stCn).map stCn=(Q.hs.map stCn).map stCn∧(P.ts.map stTa).map stTa=(Q.ts.map stTa).map stTa)↔_
 rw [h1,h1,h2,h2,h1,h1,h3,h3]
theorem en_spR:Enters Tryz.prog 36:=fun args w=>by go_simp
theorem en_nmR:Enters Tryz.prog 74:=fun args w=>by go_simp
theorem en_eqR:Enters Tryz.prog 30:=fun args w=>by go_simp
set_option maxHeartbeats 32000000 in
theorem eqR_any (P Q:Pg) (A B:Nat→Prop) (w:World) (cpa gpa spa opa hpa tpa:Option Addr) (cca gca sca oca hca tca:Nat) (cpb gpb spb opb hpb tpb:Option Addr) (ccb gcb scb ocb hcb tcb:Nat) (hp:PgIn A w P cpa gpa spa opa hpa tpa cca gca sca oca hca tca) (hq:PgIn B w Q cpb gpb spb opb hpb tpb ccb gcb scb ocb hcb tcb)
 (hnP:P.cs.length≤1048576∧P.gs.length≤1048576∧P.ss.length≤1048576∧P.os.length≤1048576∧P.hs.length≤1048576∧P.ts.length≤1048576∧zT P.ts≤1048576) (hnQ:Q.cs.length≤1048576∧Q.gs.length≤1048576∧Q.ss.length≤1048576∧Q.os.length≤1048576∧Q.hs.length≤1048576∧Q.ts.length≤1048576∧zT Q.ts≤1048576) :
 Calls Tryz.prog 21 #[pgv P cpa gpa spa opa hpa tpa cca gca sca oca hca tca,pgv Q cpb gpb spb opb hpb tpb ccb gcb scb ocb hcb tcb] w fun e w'=>e=.returned (.bool (eqPg P Q))∧Grew w w':=by
 have hcaps:=And.intro hp.caps hq.caps
 obtain ⟨b,hb⟩:∃b,eqPg P Q=b:=⟨_,rfl⟩
 rw [hb]
 have HSA:Hid (∀W,Grew w W→Calls Tryz.prog 36 #[.agg #[.slice cpa P.cs.length cca,.slice gpa P.gs.length gca,.slice spa P.ss.length sca,.slice opa P.os.length oca,.slice hpa P.hs.length hca,.slice tpa P.ts.length tca]] W fun e w'=>∃cp' gp' sp' op' hp' tp' cc' gc' sc' oc' hc' tc',e=.returned (.agg #[.slice cp' P.cs.length cc',.slice gp' P.gs.length gc',.slice sp' P.ss.length sc',.slice op' P.os.length oc',.slice hp' P.hs.length hc',.slice tp' P.ts.length tc'])∧PgIn (Fresh W.heap.size w'.heap.size) w' (stP P) cp' gp' sp' op' hp' tp' cc' gc' sc' oc' hc' tc'∧Grew W w'):=zh (fun W hW=>stripP_any P A W cpa gpa spa opa hpa tpa cca gca sca oca hca tca (hp.kept hW) hnP)
 have HSB:Hid (∀W,Grew w W→Calls Tryz.prog 36 #[.agg #[.slice cpb Q.cs.length ccb,.slice gpb Q.gs.length gcb,.slice spb Q.ss.length scb,.slice opb Q.os.length ocb,.slice hpb Q.hs.length hcb,.slice tpb Q.ts.length tcb]] W fun e w'=>∃cp' gp' sp' op' hp' tp' cc' gc' sc' oc' hc' tc',e=.returned (.agg #[.slice cp' Q.cs.length cc',.slice gp' Q.gs.length gc',.slice sp' Q.ss.length sc',.slice op' Q.os.length oc',.slice hp' Q.hs.length hc',.slice tp' Q.ts.length tc'])∧PgIn (Fresh W.heap.size w'.heap.size) w' (stP Q) cp' gp' sp' op' hp' tp' cc' gc' sc' oc' hc' tc'∧Grew W w'):=zh (fun W hW=>stripP_any Q B W cpb gpb spb opb hpb tpb ccb gcb scb ocb hcb tcb (hq.kept hW) hnQ)
 clear hp hq hnP hnQ
 show Calls Tryz.prog 21 #[.agg #[.slice cpa P.cs.length cca,.slice gpa P.gs.length gca,.slice spa P.ss.length sca,.slice opa P.os.length oca,.slice hpa P.hs.length hca,.slice tpa P.ts.length tca],.agg #[.slice cpb Q.cs.length ccb,.slice gpb Q.gs.length gcb,.slice spb Q.ss.length scb,.slice opb Q.os.length ocb,.slice hpb Q.hs.length hcb,.slice tpb Q.ts.length tcb]] w fun e w'=>e=.returned (.bool b)∧Grew w w'
 go_enter Tryz.func21,Tryz.ntmps21
 go_upto_region 1 with fail
 have hb1:Blk w.heap.size [.slice cpa P.cs.length cca,.slice gpa P.gs.length gca,.slice spa P.ss.length sca,.slice opa P.os.length oca,.slice hpa P.hs.length hca,.slice tpa P.ts.length tca] 28 (w.alloc (Obj.cells #[.slice cpa P.cs.length cca,.slice gpa P.gs.length gca,.slice spa P.ss.length sca,.slice opa P.os.length oca,.slice hpa P.hs.length hca,.slice tpa P.ts.length tca] 28)):=Blk.new w _ _
 have hb2:Blk (w.alloc (Obj.cells #[.slice cpa P.cs.length cca,.slice gpa P.gs.length gca,.slice spa P.ss.length sca,.slice opa P.os.length oca,.slice hpa P.hs.length hca,.slice tpa P.ts.length tca] 28)).heap.size [.slice cpb Q.cs.length ccb,.slice gpb Q.gs.length gcb,.slice spb Q.ss.length scb,.slice opb Q.os.length ocb,.slice hpb Q.hs.length hcb,.slice tpb Q.ts.length tcb] 28 ((w.alloc (Obj.cells #[.slice cpa P.cs.length cca,.slice gpa P.gs.length gca,.slice spa P.ss.length sca,.slice opa P.os.length oca,.slice hpa P.hs.length hca,.slice tpa P.ts.length tca] 28)).alloc (Obj.cells #[.slice cpb Q.cs.length ccb,.slice gpb Q.gs.length gcb,.slice spb Q.ss.length scb,.slice opb Q.os.length ocb,.slice hpb Q.hs.length hcb,.slice tpb Q.ts.length tcb] 28)):=Blk.new _ _ _
 have hb3:=hb1.grew ((Grew.refl _).alloc (Obj.cells #[.slice cpb Q.cs.length ccb,.slice gpb Q.gs.length gcb,.slice spb Q.ss.length scb,.slice opb Q.os.length ocb,.slice hpb Q.hs.length hcb,.slice tpb Q.ts.length tcb] 28))
 have hgV:Grew w ((w.alloc (Obj.cells #[.slice cpa P.cs.length cca,.slice gpa P.gs.length gca,.slice spa P.ss.length sca,.slice opa P.os.length oca,.slice hpa P.hs.length hca,.slice tpa P.ts.length tca] 28)).alloc (Obj.cells #[.slice cpb Q.cs.length ccb,.slice gpb Q.gs.length gcb,.slice spb Q.ss.length scb,.slice opb Q.os.length ocb,.slice hpb Q.hs.length hcb,.slice tpb Q.ts.length tcb] 28)):=((Grew.refl w).alloc _).alloc _
 rw [alloc_sz] at hb2
 try rw [alloc_sz]
 generalize ((w.alloc (Obj.cells #[.slice cpa P.cs.length cca,.slice gpa P.gs.length gca,.slice spa P.ss.length sca,.slice opa P.os.length oca,.slice hpa P.hs.length hca,.slice tpa P.ts.length tca] 28)).alloc (Obj.cells #[.slice cpb Q.cs.length ccb,.slice gpb Q.gs.length gcb,.slice spb Q.ss.length scb,.slice opb Q.os.length ocb,.slice hpb Q.hs.length hcb,.slice tpb Q.ts.length tcb] 28))=V at hb2 hb3 hgV ⊢
 have HTU:Hid (w.heap.size≠w.heap.size+1):=zh (by omega)
 have HTW:Hid (w.heap.size≤w.heap.size):=zh (Nat.le_refl _)
 have HUW:Hid (w.heap.size≤w.heap.size+1):=zh (Nat.le_succ _)
 obtain ⟨T,hT⟩:∃T,T=w.heap.size:=⟨_,rfl⟩
 obtain ⟨U,hU⟩:∃U,U=w.heap.size+1:=⟨_,rfl⟩
 rw [← hU] at hb2 ⊢
 rw [← hT] at hb3 ⊢
 replace HTU:Hid (T≠U):=zh (by omega)
 replace HTW:Hid (w.heap.size≤T):=zh (by omega)
 replace HUW:Hid (w.heap.size≤U):=zh (by omega)
 clear hT hU hb1
 have HGV:=zh hgV
 have HBT:=zh hb3
 have HBU:=zh hb2
 have d0:Atv ⟨T,0,none⟩ (.slice cpa P.cs.length cca) V.drew:=(hb3.grew (Grew.refl _).drw).atv 0 rfl
 have d1:Atv ⟨T,1,none⟩ (.slice gpa P.gs.length gca) V.drew:=(hb3.grew (Grew.refl _).drw).atv 1 rfl
 have d2:Atv ⟨T,2,none⟩ (.slice spa P.ss.length sca) V.drew:=(hb3.grew (Grew.refl _).drw).atv 2 rfl
 have d3:Atv ⟨T,3,none⟩ (.slice opa P.os.length oca) V.drew:=(hb3.grew (Grew.refl _).drw).atv 3 rfl
 have d4:Atv ⟨T,4,none⟩ (.slice hpa P.hs.length hca) V.drew:=(hb3.grew (Grew.refl _).drw).atv 4 rfl
 have d5:Atv ⟨T,5,none⟩ (.slice tpa P.ts.length tca) V.drew:=(hb3.grew (Grew.refl _).drw).atv 5 rfl
 have e0:Atv ⟨U,0,none⟩ (.slice cpb Q.cs.length ccb) V.drew:=(hb2.grew (Grew.refl _).drw).atv 0 rfl
 have e1:Atv ⟨U,1,none⟩ (.slice gpb Q.gs.length gcb) V.drew:=(hb2.grew (Grew.refl _).drw).atv 1 rfl
 have e2:Atv ⟨U,2,none⟩ (.slice spb Q.ss.length scb) V.drew:=(hb2.grew (Grew.refl _).drw).atv 2 rfl
 have e3:Atv ⟨U,3,none⟩ (.slice opb Q.os.length ocb) V.drew:=(hb2.grew (Grew.refl _).drw).atv 3 rfl
 have e4:Atv ⟨U,4,none⟩ (.slice hpb Q.hs.length hcb) V.drew:=(hb2.grew (Grew.refl _).drw).atv 4 rfl
 have e5:Atv ⟨U,5,none⟩ (.slice tpb Q.ts.length tcb) V.drew:=(hb2.grew (Grew.refl _).drw).atv 5 rfl
 clear hb2 hb3 hgV
 refine wp_grew_tail 4 [some 11,some 12,some 13,some 14] (Zfd (Zfb (Zfa (Ztc (Zfg (Zfg (Zfg (Zfg (Zfg (Zfc (Zfb []))))))))))) [fun v _=>v=.agg #[.slice cpa P.cs.length cca,.slice gpa P.gs.length gca,.slice spa P.ss.length sca,.slice opa P.os.length oca,.slice hpa P.hs.length hca,.slice tpa P.ts.length tca],fun v w=>NewP V.drew.heap.size P v w,fun v _=>v=.agg #[.slice cpb Q.cs.length ccb,.slice gpb Q.gs.length gcb,.slice spb Q.ss.length scb,.slice opb Q.os.length ocb,.slice hpb Q.hs.length hcb,.slice tpb Q.ts.length tcb],fun v w=>NewP V.drew.heap.size Q v w] (by kernel_rfl) (by kernel_rfl) (by kernel_rfl) rfl ?_ ⟨?_,?_,?_,?_,trivial⟩ ?_
 ·exact⟨Zi,fun _ _ _ hg h=>h.grew hg,Zi,fun _ _ _ hg h=>h.grew hg,trivial⟩
 ·intro u w9 hR hd;exact rn_ld_28 (ev rfl) (d0.kept hR) (d1.kept hR) (d2.kept hR) (d3.kept hR) (d4.kept hR) (d5.kept hR) Zr
 ·intro u w9 hR hd;exact runs_c1 en_spR (ev (hd.1 rfl)) ((HSA.out _ (HGV.out.trans ((Grew.refl _).drw.trans hR))).mono fun e w8 h=>NewP.of hR.sz h)
 ·intro u w9 hR hd;exact rn_ld_28 (ev rfl) (e0.kept hR) (e1.kept hR) (e2.kept hR) (e3.kept hR) (e4.kept hR) (e5.kept hR) Zr
 ·intro u w9 hR hd;exact runs_c1 en_spR (ev (hd.1 rfl)) ((HSB.out _ (HGV.out.trans ((Grew.refl _).drw.trans hR))).mono fun e w8 h=>NewP.of hR.sz h)
 ·intro u W hR hh
  obtain ⟨cpx,gpx,spx,opx,hpx,tpx,ccx,gcx,scx,ocx,hcx,tcx,hva,hpa⟩:=hh 1 (by decide)
  obtain ⟨cpy,gpy,spy,opy,hpy,tpy,ccy,gcy,scy,ocy,hcy,tcy,hvb,hpb⟩:=hh 3 (by decide)
  have hbT:=HBT.out.grew ((Grew.refl _).drw.trans hR)
  have hbU:=HBU.out.grew ((Grew.refl _).drw.trans hR)
  have hTU:=HTU.out
  have hTS:T < V.drew.heap.size:=HBT.out.lt
  have hUS:U < V.drew.heap.size:=HBU.out.lt
  refine wpAny_one (i:=4) none (by kernel_rfl) rfl rfl rfl (rn_st_28 (S:=T) (o:=0) (ev rfl) (ev hva) (hbT.atv 0 rfl) (hbT.atv 1 rfl) (hbT.atv 2 rfl) (hbT.atv 3 rfl) (hbT.atv 4 rfl) (hbT.atv 5 rfl) hbT.free ?_)
  have hT4:=((((((hbT.set 0 (.slice cpx (stP P).cs.length ccx)).set 1 (.slice gpx (stP P).gs.length gcx)).set 2 (.slice spx (stP P).ss.length scx)).set 3 (.slice opx (stP P).os.length ocx)).set 4 (.slice hpx (stP P).hs.length hcx)).set 5 (.slice tpx (stP P).ts.length tcx))
  have hc4:=(((((((Chg.refl W (fun k=>k=T∨k=U)).then_set ⟨T,0,none⟩ (.slice cpx (stP P).cs.length ccx) (by first | rfl | exact .inl rfl | exact .inr rfl)).then_set ⟨T,1,none⟩ (.slice gpx (stP P).gs.length gcx) (by first | rfl | exact .inl rfl | exact .inr rfl)).then_set ⟨T,2,none⟩ (.slice spx (stP P).ss.length scx) (by first | rfl | exact .inl rfl | exact .inr rfl)).then_set ⟨T,3,none⟩ (.slice opx (stP P).os.length ocx) (by first | rfl | exact .inl rfl | exact .inr rfl)).then_set ⟨T,4,none⟩ (.slice hpx (stP P).hs.length hcx) (by first | rfl | exact .inl rfl | exact .inr rfl)).then_set ⟨T,5,none⟩ (.slice tpx (stP P).ts.length tcx) (by first | rfl | exact .inl rfl | exact .inr rfl))
  have hc4':=(((((((Chg.refl W (fun k=>k=T)).then_set ⟨T,0,none⟩ (.slice cpx (stP P).cs.length ccx) (by first | rfl | exact .inl rfl | exact .inr rfl)).then_set ⟨T,1,none⟩ (.slice gpx (stP P).gs.length gcx) (by first | rfl | exact .inl rfl | exact .inr rfl)).then_set ⟨T,2,none⟩ (.slice spx (stP P).ss.length scx) (by first | rfl | exact .inl rfl | exact .inr rfl)).then_set ⟨T,3,none⟩ (.slice opx (stP P).os.length ocx) (by first | rfl | exact .inl rfl | exact .inr rfl)).then_set ⟨T,4,none⟩ (.slice hpx (stP P).hs.length hcx) (by first | rfl | exact .inl rfl | exact .inr rfl)).then_set ⟨T,5,none⟩ (.slice tpx (stP P).ts.length tcx) (by first | rfl | exact .inl rfl | exact .inr rfl))
  simp only [zz6,zz5] at hT4
  generalize hW4:World.setCell (World.setCell (World.setCell (World.setCell (World.setCell (World.setCell W _ _) _ _) _ _) _ _) _ _) _ _=W4
  have hW4':((((((W.setCell ⟨T,0,none⟩ (.slice cpx (stP P).cs.length ccx)).setCell ⟨T,1,none⟩ (.slice gpx (stP P).gs.length gcx)).setCell ⟨T,2,none⟩ (.slice spx (stP P).ss.length scx)).setCell ⟨T,3,none⟩ (.slice opx (stP P).os.length ocx)).setCell ⟨T,4,none⟩ (.slice hpx (stP P).hs.length hcx)).setCell ⟨T,5,none⟩ (.slice tpx (stP P).ts.length tcx))=W4:=hW4
  rw [hW4'] at hT4 hc4 hc4'
  clear hW4'
  clear hW4
  have hU4:=hbU.chg hc4' (fun e=>hTU e.symm)
  refine wpAny_one (i:=5) none (by kernel_rfl) rfl rfl rfl (rn_st_28 (S:=U) (o:=0) (ev rfl) (ev hvb) (hU4.atv 0 rfl) (hU4.atv 1 rfl) (hU4.atv 2 rfl) (hU4.atv 3 rfl) (hU4.atv 4 rfl) (hU4.atv 5 rfl) hU4.free ?_)
  refine wpAny_done (by kernel_rfl) ?_ _
  have hU5:=((((((hU4.set 0 (.slice cpy (stP Q).cs.length ccy)).set 1 (.slice gpy (stP Q).gs.length gcy)).set 2 (.slice spy (stP Q).ss.length scy)).set 3 (.slice opy (stP Q).os.length ocy)).set 4 (.slice hpy (stP Q).hs.length hcy)).set 5 (.slice tpy (stP Q).ts.length tcy))
  have hc5:=(((((((Chg.refl W4 (fun k=>k=T∨k=U)).then_set ⟨U,0,none⟩ (.slice cpy (stP Q).cs.length ccy) (by first | rfl | exact .inl rfl | exact .inr rfl)).then_set ⟨U,1,none⟩ (.slice gpy (stP Q).gs.length gcy) (by first | rfl | exact .inl rfl | exact .inr rfl)).then_set ⟨U,2,none⟩ (.slice spy (stP Q).ss.length scy) (by first | rfl | exact .inl rfl | exact .inr rfl)).then_set ⟨U,3,none⟩ (.slice opy (stP Q).os.length ocy) (by first | rfl | exact .inl rfl | exact .inr rfl)).then_set ⟨U,4,none⟩ (.slice hpy (stP Q).hs.length hcy) (by first | rfl | exact .inl rfl | exact .inr rfl)).then_set ⟨U,5,none⟩ (.slice tpy (stP Q).ts.length tcy) (by first | rfl | exact .inl rfl | exact .inr rfl))
  have hc5':=(((((((Chg.refl W4 (fun k=>k=U)).then_set ⟨U,0,none⟩ (.slice cpy (stP Q).cs.length ccy) (by first | rfl | exact .inl rfl | exact .inr rfl)).then_set ⟨U,1,none⟩ (.slice gpy (stP Q).gs.length gcy) (by first | rfl | exact .inl rfl | exact .inr rfl)).then_set ⟨U,2,none⟩ (.slice spy (stP Q).ss.length scy) (by first | rfl | exact .inl rfl | exact .inr rfl)).then_set ⟨U,3,none⟩ (.slice opy (stP Q).os.length ocy) (by first | rfl | exact .inl rfl | exact .inr rfl)).then_set ⟨U,4,none⟩ (.slice hpy (stP Q).hs.length hcy) (by first | rfl | exact .inl rfl | exact .inr rfl)).then_set ⟨U,5,none⟩ (.slice tpy (stP Q).ts.length tcy) (by first | rfl | exact .inl rfl | exact .inr rfl))
  simp only [zz6,zz5] at hU5
  simp only [Act.put,mixA,mixL,zz9,zz0,zz4,zz6,zz5]
  generalize hW5:World.setCell (World.setCell (World.setCell (World.setCell (World.setCell (World.setCell W4 _ _) _ _) _ _) _ _) _ _) _ _=W0
  have hW5':((((((W4.setCell ⟨U,0,none⟩ (.slice cpy (stP Q).cs.length ccy)).setCell ⟨U,1,none⟩ (.slice gpy (stP Q).gs.length gcy)).setCell ⟨U,2,none⟩ (.slice spy (stP Q).ss.length scy)).setCell ⟨U,3,none⟩ (.slice opy (stP Q).os.length ocy)).setCell ⟨U,4,none⟩ (.slice hpy (stP Q).hs.length hcy)).setCell ⟨U,5,none⟩ (.slice tpy (stP Q).ts.length tcy))=W0:=hW5
  rw [hW5'] at hU5 hc5 hc5'
  clear hW5'
  clear hW5
  have hT5:=hT4.chg hc5' (fun e=>hTU e)
  have hC:=hc4.trans hc5
  have hgW:Grew w W0:=grew_lift (HGV.out.trans ((Grew.refl _).drw.trans hR)) hC (fun k hk=>by have h1:=HTW.out;have h2:=HUW.out;omega)
  have hpa5:=hpa.chg hC (fun b hb e=>by have:=hb.1;omega)
  have hpb5:=hpb.chg hC (fun b hb e=>by have:=hb.1;omega)
  have hzA:=stP_q P
  have hzB:=stP_q Q
  have hb1:=eqPg_st P Q
  clear hT4 hU4 hc4 hc4' hc5 hc5' hC hva hvb hpa hpb
  generalize stP P=P1 at hpa5 hT5 hzA hb1 ⊢
  generalize stP Q=Q1 at hpb5 hU5 hzB hb1 ⊢
  rw [hb] at hb1
  clear hbT hbU hR hh HSA HSB hb
  generalize hBA:Fresh V.drew.heap.size W.heap.size=BA at hpa5 hpb5
  clear hBA
  obtain ⟨csa,gsa,ssa,osa,hsa,tsa⟩:=P1
  obtain ⟨csb,gsb,ssb,osb,hsb,tsb⟩:=Q1
  have hcapx:=hpa5.caps
  have hcapy:=hpb5.caps
  have HGW:=zh hgW
  have HBT5:Hid (Blk T [.slice cpx csa.length ccx,.slice gpx gsa.length gcx,.slice spx ssa.length scx,.slice opx osa.length ocx,.slice hpx hsa.length hcx,.slice tpx tsa.length tcx] 28 W0):=zh hT5
  have HBU5:Hid (Blk U [.slice cpy csb.length ccy,.slice gpy gsb.length gcy,.slice spy ssb.length scy,.slice opy osb.length ocy,.slice hpy hsb.length hcy,.slice tpy tsb.length tcy] 28 W0):=zh hU5
  have HZA:Hid ((∀c ∈ csa,c.q=0)∧(∀c ∈ gsa,c.q=0)∧(∀c ∈ hsa,c.q=0)):=zh hzA
  have HZB:Hid ((∀c ∈ csb,c.q=0)∧(∀c ∈ gsb,c.q=0)∧(∀c ∈ hsb,c.q=0)):=zh hzB
  have HXc:Hid (InN FlatAt 3 cnc BA W0 cpx csa.length ccx csa):=zh hpa5.cs.2
  have HYc:Hid (InN FlatAt 3 cnc BA W0 cpy csb.length ccy csb):=zh hpb5.cs.2
  have HXg:Hid (InN FlatAt 4 glc BA W0 gpx gsa.length gcx gsa):=zh hpa5.gs.2
  have HYg:Hid (InN FlatAt 4 glc BA W0 gpy gsb.length gcy gsb):=zh hpb5.gs.2
  have HXh:Hid (InN FlatAt 3 chc BA W0 hpx hsa.length hcx hsa):=zh hpa5.hs.2
  have HYh:Hid (InN FlatAt 3 chc BA W0 hpy hsb.length hcy hsb):=zh hpb5.hs.2
  have HXt:Hid (TL BA W0 tpx tcx tsa):=zh hpa5.ts
  have HYt:Hid (TL BA W0 tpy tcy tsb):=zh hpb5.ts
  have HN1:Hid (∀W,Grew W0 W→Calls Tryz.prog 74 #[.slice spx ssa.length scx,.slice spy ssb.length scy] W fun e w'=>e=.returned (.bool (decide (ssa=ssb)))∧Grew W w'):=zh (fun W hW=>names_any BA BA W ssa ssb spx spy scx scy (hpa5.ss.2.kept (hangsF encStr) hW) (hpb5.ss.2.kept (hangsF encStr) hW))
  have HN2:Hid (∀W,Grew W0 W→Calls Tryz.prog 74 #[.slice opx osa.length ocx,.slice opy osb.length ocy] W fun e w'=>e=.returned (.bool (decide (osa=osb)))∧Grew W w'):=zh (fun W hW=>names_any BA BA W osa osb opx opy ocx ocy (hpa5.os.2.kept (hangsF encStr) hW) (hpb5.os.2.kept (hangsF encStr) hW))
  have HM0:=zh hb1
  dsimp only at hcapx hcapy
  clear hgW hpa5 hpb5 hU5 hT5 hzA hzB hb1 hTS hUS hTU
  clear d0 e0 d1 e1 d2 e2 d3 e3 d4 e4 d5 e5
  have hT9:=HBT5.out
  have hU9:=HBU5.out
  have d0:Atv ⟨T,0,none⟩ (.slice cpx csa.length ccx) W0:=hT9.atv 0 rfl
  have d1:Atv ⟨T,1,none⟩ (.slice gpx gsa.length gcx) W0:=hT9.atv 1 rfl
  have d2:Atv ⟨T,2,none⟩ (.slice spx ssa.length scx) W0:=hT9.atv 2 rfl
  have d3:Atv ⟨T,3,none⟩ (.slice opx osa.length ocx) W0:=hT9.atv 3 rfl
  have d4:Atv ⟨T,4,none⟩ (.slice hpx hsa.length hcx) W0:=hT9.atv 4 rfl
  have d5:Atv ⟨T,5,none⟩ (.slice tpx tsa.length tcx) W0:=hT9.atv 5 rfl
  have e0:Atv ⟨U,0,none⟩ (.slice cpy csb.length ccy) W0:=hU9.atv 0 rfl
  have e1:Atv ⟨U,1,none⟩ (.slice gpy gsb.length gcy) W0:=hU9.atv 1 rfl
  have e2:Atv ⟨U,2,none⟩ (.slice spy ssb.length scy) W0:=hU9.atv 2 rfl
  have e3:Atv ⟨U,3,none⟩ (.slice opy osb.length ocy) W0:=hU9.atv 3 rfl
  have e4:Atv ⟨U,4,none⟩ (.slice hpy hsb.length hcy) W0:=hU9.atv 4 rfl
  have e5:Atv ⟨U,5,none⟩ (.slice tpy tsb.length tcy) W0:=hU9.atv 5 rfl
  clear hT9 hU9
  go_upto_region 2 with fail
  refine wp_postsL [some 15,some 16,some 17,some 18,some 19,some 20,some 21,some 22,some 23,some 24,some 25,some 26,some 27,some 28,some 29,some 30,some 31,some 32,some 33,some 34,some 35,some 36,some 37,some 38,some 39,some 40,some 41,some 42,some 43,some 44,some 45,some 46,some 47,some 48,some 49,some 50,some 51,some 52,some 53,some 54,some 55,some 56,some 57,some 58,some 59,some 60,some 61,some 62,some 63,some 64] (Zfd (Zfc (Zfb (Zfa (Ztg (Zte (Ztb (Zfg (Zfg (Zfg (Zfe (Zfc [])))))))))))) [fun v _=>v=.pointer (some ⟨T,0,none⟩),fun v _=>v=.slice cpx (csa.length) (ccx),fun v _=>v=.int .i64 (((csa.length:Nat):Int)),fun v _=>v=.pointer (some ⟨U,0,none⟩),fun v _=>v=.slice cpy (csb.length) (ccy),fun v _=>v=.int .i64 (((csb.length:Nat):Int)),fun v _=>v=.bool ((((csa.length:Nat):Int)) != (((csb.length:Nat):Int))),fun v _=>v=.bool ((((csa.length:Nat):Int)) != (((csb.length:Nat):Int))),fun v _=>Zg (((((csa.length:Nat):Int)) != (((csb.length:Nat):Int)))=false) (.pointer (some ⟨T,1,none⟩)) v,fun v _=>Zg (((((csa.length:Nat):Int)) != (((csb.length:Nat):Int)))=false) (.slice gpx (gsa.length) (gcx)) v,fun v _=>Zg (((((csa.length:Nat):Int)) != (((csb.length:Nat):Int)))=false) (.int .i64 (((gsa.length:Nat):Int))) v,fun v _=>Zg (((((csa.length:Nat):Int)) != (((csb.length:Nat):Int)))=false) (.pointer (some ⟨U,1,none⟩)) v,fun v _=>Zg (((((csa.length:Nat):Int)) != (((csb.length:Nat):Int)))=false) (.slice gpy (gsb.length) (gcy)) v,fun v _=>Zg (((((csa.length:Nat):Int)) != (((csb.length:Nat):Int)))=false) (.int .i64 (((gsb.length:Nat):Int))) v,fun v _=>Zg (((((csa.length:Nat):Int)) != (((csb.length:Nat):Int)))=false) (.bool ((((gsa.length:Nat):Int)) != (((gsb.length:Nat):Int)))) v,fun v _=>v=.bool (((((csa.length:Nat):Int)) != (((csb.length:Nat):Int)))||((((gsa.length:Nat):Int)) != (((gsb.length:Nat):Int)))),fun v _=>v=.bool (((((csa.length:Nat):Int)) != (((csb.length:Nat):Int)))||((((gsa.length:Nat):Int)) != (((gsb.length:Nat):Int)))),fun v _=>Zg ((((((csa.length:Nat):Int)) != (((csb.length:Nat):Int)))||((((gsa.length:Nat):Int)) != (((gsb.length:Nat):Int))))=false) (.pointer (some ⟨T,4,none⟩)) v,fun v _=>Zg ((((((csa.length:Nat):Int)) != (((csb.length:Nat):Int)))||((((gsa.length:Nat):Int)) != (((gsb.length:Nat):Int))))=false) (.slice hpx (hsa.length) (hcx)) v,fun v _=>Zg ((((((csa.length:Nat):Int)) != (((csb.length:Nat):Int)))||((((gsa.length:Nat):Int)) != (((gsb.length:Nat):Int))))=false) (.int .i64 (((hsa.length:Nat):Int))) v,fun v _=>Zg ((((((csa.length:Nat):Int)) != (((csb.length:Nat):Int)))||((((gsa.length:Nat):Int)) != (((gsb.length:Nat):Int))))=false) (.pointer (some ⟨U,4,none⟩)) v,fun v _=>Zg ((((((csa.length:Nat):Int)) != (((csb.length:Nat):Int)))||((((gsa.length:Nat):Int)) != (((gsb.length:Nat):Int))))=false) (.slice hpy (hsb.length) (hcy)) v,fun v _=>Zg ((((((csa.length:Nat):Int)) != (((csb.length:Nat):Int)))||((((gsa.length:Nat):Int)) != (((gsb.length:Nat):Int))))=false) (.int .i64 (((hsb.length:Nat):Int))) v,fun v _=>Zg ((((((csa.length:Nat):Int)) != (((csb.length:Nat):Int)))||((((gsa.length:Nat):Int)) != (((gsb.length:Nat):Int))))=false) (.bool ((((hsa.length:Nat):Int)) != (((hsb.length:Nat):Int)))) v,fun v _=>v=.bool ((((((csa.length:Nat):Int)) != (((csb.length:Nat):Int)))||((((gsa.length:Nat):Int)) != (((gsb.length:Nat):Int))))||((((hsa.length:Nat):Int)) != (((hsb.length:Nat):Int)))),fun v _=>v=.bool ((((((csa.length:Nat):Int)) != (((csb.length:Nat):Int)))||((((gsa.length:Nat):Int)) != (((gsb.length:Nat):Int))))||((((hsa.length:Nat):Int)) != (((hsb.length:Nat):Int)))),fun v _=>Zg (((((((csa.length:Nat):Int)) != (((csb.length:Nat):Int)))||((((gsa.length:Nat):Int)) != (((gsb.length:Nat):Int))))||((((hsa.length:Nat):Int)) != (((hsb.length:Nat):Int))))=false) (.pointer (some ⟨T,5,none⟩)) v,fun v _=>Zg (((((((csa.length:Nat):Int)) != (((csb.length:Nat):Int)))||((((gsa.length:Nat):Int)) != (((gsb.length:Nat):Int))))||((((hsa.length:Nat):Int)) != (((hsb.length:Nat):Int))))=false) (.slice tpx (tsa.length) (tcx)) v,fun v _=>Zg (((((((csa.length:Nat):Int)) != (((csb.length:Nat):Int)))||((((gsa.length:Nat):Int)) != (((gsb.length:Nat):Int))))||((((hsa.length:Nat):Int)) != (((hsb.length:Nat):Int))))=false) (.int .i64 (((tsa.length:Nat):Int))) v,fun v _=>Zg (((((((csa.length:Nat):Int)) != (((csb.length:Nat):Int)))||((((gsa.length:Nat):Int)) != (((gsb.length:Nat):Int))))||((((hsa.length:Nat):Int)) != (((hsb.length:Nat):Int))))=false) (.pointer (some ⟨U,5,none⟩)) v,fun v _=>Zg (((((((csa.length:Nat):Int)) != (((csb.length:Nat):Int)))||((((gsa.length:Nat):Int)) != (((gsb.length:Nat):Int))))||((((hsa.length:Nat):Int)) != (((hsb.length:Nat):Int))))=false) (.slice tpy (tsb.length) (tcy)) v,fun v _=>Zg (((((((csa.length:Nat):Int)) != (((csb.length:Nat):Int)))||((((gsa.length:Nat):Int)) != (((gsb.length:Nat):Int))))||((((hsa.length:Nat):Int)) != (((hsb.length:Nat):Int))))=false) (.int .i64 (((tsb.length:Nat):Int))) v,fun v _=>Zg (((((((csa.length:Nat):Int)) != (((csb.length:Nat):Int)))||((((gsa.length:Nat):Int)) != (((gsb.length:Nat):Int))))||((((hsa.length:Nat):Int)) != (((hsb.length:Nat):Int))))=false) (.bool ((((tsa.length:Nat):Int)) != (((tsb.length:Nat):Int)))) v,fun v _=>v=.bool (((((((csa.length:Nat):Int)) != (((csb.length:Nat):Int)))||((((gsa.length:Nat):Int)) != (((gsb.length:Nat):Int))))||((((hsa.length:Nat):Int)) != (((hsb.length:Nat):Int))))||((((tsa.length:Nat):Int)) != (((tsb.length:Nat):Int)))),fun v _=>v=.bool (((((((csa.length:Nat):Int)) != (((csb.length:Nat):Int)))||((((gsa.length:Nat):Int)) != (((gsb.length:Nat):Int))))||((((hsa.length:Nat):Int)) != (((hsb.length:Nat):Int))))||((((tsa.length:Nat):Int)) != (((tsb.length:Nat):Int)))),fun v _=>Zg ((((((((csa.length:Nat):Int)) != (((csb.length:Nat):Int)))||((((gsa.length:Nat):Int)) != (((gsb.length:Nat):Int))))||((((hsa.length:Nat):Int)) != (((hsb.length:Nat):Int))))||((((tsa.length:Nat):Int)) != (((tsb.length:Nat):Int))))=false) (.pointer (some ⟨T,2,none⟩)) v,fun v _=>Zg ((((((((csa.length:Nat):Int)) != (((csb.length:Nat):Int)))||((((gsa.length:Nat):Int)) != (((gsb.length:Nat):Int))))||((((hsa.length:Nat):Int)) != (((hsb.length:Nat):Int))))||((((tsa.length:Nat):Int)) != (((tsb.length:Nat):Int))))=false) (.slice spx (ssa.length) (scx)) v,fun v _=>Zg ((((((((csa.length:Nat):Int)) != (((csb.length:Nat):Int)))||((((gsa.length:Nat):Int)) != (((gsb.length:Nat):Int))))||((((hsa.length:Nat):Int)) != (((hsb.length:Nat):Int))))||((((tsa.length:Nat):Int)) != (((tsb.length:Nat):Int))))=false) (.pointer (some ⟨U,2,none⟩)) v,fun v _=>Zg ((((((((csa.length:Nat):Int)) != (((csb.length:Nat):Int)))||((((gsa.length:Nat):Int)) != (((gsb.length:Nat):Int))))||((((hsa.length:Nat):Int)) != (((hsb.length:Nat):Int))))||((((tsa.length:Nat):Int)) != (((tsb.length:Nat):Int))))=false) (.slice spy (ssb.length) (scy)) v,fun v _=>Zg ((((((((csa.length:Nat):Int)) != (((csb.length:Nat):Int)))||((((gsa.length:Nat):Int)) != (((gsb.length:Nat):Int))))||((((hsa.length:Nat):Int)) != (((hsb.length:Nat):Int))))||((((tsa.length:Nat):Int)) != (((tsb.length:Nat):Int))))=false) (.bool (decide (ssa=ssb))) v,fun v _=>Zg ((((((((csa.length:Nat):Int)) != (((csb.length:Nat):Int)))||((((gsa.length:Nat):Int)) != (((gsb.length:Nat):Int))))||((((hsa.length:Nat):Int)) != (((hsb.length:Nat):Int))))||((((tsa.length:Nat):Int)) != (((tsb.length:Nat):Int))))=false) (.bool (!(decide (ssa=ssb)))) v,fun v _=>v=.bool ((((((((csa.length:Nat):Int)) != (((csb.length:Nat):Int)))||((((gsa.length:Nat):Int)) != (((gsb.length:Nat):Int))))||((((hsa.length:Nat):Int)) != (((hsb.length:Nat):Int))))||((((tsa.length:Nat):Int)) != (((tsb.length:Nat):Int))))||(!(decide (ssa=ssb)))),fun v _=>v=.bool ((((((((csa.length:Nat):Int)) != (((csb.length:Nat):Int)))||((((gsa.length:Nat):Int)) != (((gsb.length:Nat):Int))))||((((hsa.length:Nat):Int)) != (((hsb.length:Nat):Int))))||((((tsa.length:Nat):Int)) != (((tsb.length:Nat):Int))))||(!(decide (ssa=ssb)))),fun v _=>Zg (((((((((csa.length:Nat):Int)) != (((csb.length:Nat):Int)))||((((gsa.length:Nat):Int)) != (((gsb.length:Nat):Int))))||((((hsa.length:Nat):Int)) != (((hsb.length:Nat):Int))))||((((tsa.length:Nat):Int)) != (((tsb.length:Nat):Int))))||(!(decide (ssa=ssb))))=false) (.pointer (some ⟨T,3,none⟩)) v,fun v _=>Zg (((((((((csa.length:Nat):Int)) != (((csb.length:Nat):Int)))||((((gsa.length:Nat):Int)) != (((gsb.length:Nat):Int))))||((((hsa.length:Nat):Int)) != (((hsb.length:Nat):Int))))||((((tsa.length:Nat):Int)) != (((tsb.length:Nat):Int))))||(!(decide (ssa=ssb))))=false) (.slice opx (osa.length) (ocx)) v,fun v _=>Zg (((((((((csa.length:Nat):Int)) != (((csb.length:Nat):Int)))||((((gsa.length:Nat):Int)) != (((gsb.length:Nat):Int))))||((((hsa.length:Nat):Int)) != (((hsb.length:Nat):Int))))||((((tsa.length:Nat):Int)) != (((tsb.length:Nat):Int))))||(!(decide (ssa=ssb))))=false) (.pointer (some ⟨U,3,none⟩)) v,fun v _=>Zg (((((((((csa.length:Nat):Int)) != (((csb.length:Nat):Int)))||((((gsa.length:Nat):Int)) != (((gsb.length:Nat):Int))))||((((hsa.length:Nat):Int)) != (((hsb.length:Nat):Int))))||((((tsa.length:Nat):Int)) != (((tsb.length:Nat):Int))))||(!(decide (ssa=ssb))))=false) (.slice opy (osb.length) (ocy)) v,fun v _=>Zg (((((((((csa.length:Nat):Int)) != (((csb.length:Nat):Int)))||((((gsa.length:Nat):Int)) != (((gsb.length:Nat):Int))))||((((hsa.length:Nat):Int)) != (((hsb.length:Nat):Int))))||((((tsa.length:Nat):Int)) != (((tsb.length:Nat):Int))))||(!(decide (ssa=ssb))))=false) (.bool (decide (osa=osb))) v,fun v _=>Zg (((((((((csa.length:Nat):Int)) != (((csb.length:Nat):Int)))||((((gsa.length:Nat):Int)) != (((gsb.length:Nat):Int))))||((((hsa.length:Nat):Int)) != (((hsb.length:Nat):Int))))||((((tsa.length:Nat):Int)) != (((tsb.length:Nat):Int))))||(!(decide (ssa=ssb))))=false) (.bool (!(decide (osa=osb)))) v,fun v _=>v=.bool (((((((((csa.length:Nat):Int)) != (((csb.length:Nat):Int)))||((((gsa.length:Nat):Int)) != (((gsb.length:Nat):Int))))||((((hsa.length:Nat):Int)) != (((hsb.length:Nat):Int))))||((((tsa.length:Nat):Int)) != (((tsb.length:Nat):Int))))||(!(decide (ssa=ssb))))||(!(decide (osa=osb))))] (by kernel_rfl) rfl ?_ ⟨?_,?_,?_,?_,?_,?_,?_,?_,?_,?_,?_,?_,?_,?_,?_,?_,?_,?_,?_,?_,?_,?_,?_,?_,?_,?_,?_,?_,?_,?_,?_,?_,?_,?_,?_,?_,?_,?_,?_,?_,?_,?_,?_,?_,?_,?_,?_,?_,?_,?_,trivial⟩ ?_
  ·exact⟨Zi,Zi,Zi,Zi,Zi,Zi,Zi,Zi,Zi,Zi,Zi,Zi,Zi,Zi,Zi,Zi,Zi,Zi,Zi,Zi,Zi,Zi,Zi,Zi,Zi,Zi,Zi,Zi,Zi,Zi,Zi,Zi,Zi,Zi,Zi,Zi,Zi,Zi,Zi,Zi,Zi,Zi,Zi,Zi,Zi,Zi,Zi,Zi,Zi,Zi,trivial⟩
  ·intro u w hR hd;exact rn_fld_28_0 (ev rfl) Zr
  ·intro u w hR hd;exact rn_ld_22 (ev (hd.1 rfl)) (d0.kept hR) Zr
  ·intro u w hR hd;exact rn_len_22 (ev (hd.1 rfl)) Zr
  ·intro u w hR hd;exact rn_fld_28_0 (ev rfl) Zr
  ·intro u w hR hd;exact rn_ld_22 (ev (hd.1 rfl)) (e0.kept hR) Zr
  ·intro u w hR hd;exact rn_len_22 (ev (hd.1 rfl)) Zr
  ·intro u w hR hd;exact rn_neq_3 (ev (hd.1 rfl)) (ev (hd.2.1 rfl)) Zr
  ·intro u w hR hd;exact runs_mv (ev (hd.1 rfl)) Zr
  ·intro u w hR hd;exact⟨fun hg=>have hG:=Zh (hd.1 rfl) hg;rn_fld_28_1 (ev rfl) (Zs hG),Zn (hd.1 rfl)⟩
  ·intro u w hR hd;exact⟨fun hg=>have hG:=Zh (hd.2.1 rfl) hg;rn_ld_23 (ev ((hd.1 rfl).1 hG)) (d1.kept hR) (Zs hG),Zn (hd.2.1 rfl)⟩
  ·intro u w hR hd;exact⟨fun hg=>have hG:=Zh (hd.2.1 rfl) hg;rn_len_23 (ev ((hd.1 rfl).1 hG)) (Zs hG),Zn (hd.2.1 rfl)⟩
  ·intro u w hR hd;exact⟨fun hg=>have hG:=Zh (hd.1 rfl) hg;rn_fld_28_1 (ev rfl) (Zs hG),Zn (hd.1 rfl)⟩
  ·intro u w hR hd;exact⟨fun hg=>have hG:=Zh (hd.2.1 rfl) hg;rn_ld_23 (ev ((hd.1 rfl).1 hG)) (e1.kept hR) (Zs hG),Zn (hd.2.1 rfl)⟩
  ·intro u w hR hd;exact⟨fun hg=>have hG:=Zh (hd.2.1 rfl) hg;rn_len_23 (ev ((hd.1 rfl).1 hG)) (Zs hG),Zn (hd.2.1 rfl)⟩
  ·intro u w hR hd;exact⟨fun hg=>have hG:=Zh (hd.2.2.1 rfl) hg;rn_neq_3 (ev ((hd.1 rfl).1 hG)) (ev ((hd.2.1 rfl).1 hG)) (Zs hG),Zn (hd.2.2.1 rfl)⟩
  ·intro u w hR hd;exact runs_or2 (ev (hd.1 rfl)) (fun hb=>ev ((hd.2.1 rfl).1 hb)) Zr
  ·intro u w hR hd;exact runs_mv (ev (hd.1 rfl)) Zr
  ·intro u w hR hd;exact⟨fun hg=>have hG:=Zh (hd.1 rfl) hg;rn_fld_28_4 (ev rfl) (Zs hG),Zn (hd.1 rfl)⟩
  ·intro u w hR hd;exact⟨fun hg=>have hG:=Zh (hd.2.1 rfl) hg;rn_ld_25 (ev ((hd.1 rfl).1 hG)) (d4.kept hR) (Zs hG),Zn (hd.2.1 rfl)⟩
  ·intro u w hR hd;exact⟨fun hg=>have hG:=Zh (hd.2.1 rfl) hg;rn_len_25 (ev ((hd.1 rfl).1 hG)) (Zs hG),Zn (hd.2.1 rfl)⟩
  ·intro u w hR hd;exact⟨fun hg=>have hG:=Zh (hd.1 rfl) hg;rn_fld_28_4 (ev rfl) (Zs hG),Zn (hd.1 rfl)⟩
  ·intro u w hR hd;exact⟨fun hg=>have hG:=Zh (hd.2.1 rfl) hg;rn_ld_25 (ev ((hd.1 rfl).1 hG)) (e4.kept hR) (Zs hG),Zn (hd.2.1 rfl)⟩
  ·intro u w hR hd;exact⟨fun hg=>have hG:=Zh (hd.2.1 rfl) hg;rn_len_25 (ev ((hd.1 rfl).1 hG)) (Zs hG),Zn (hd.2.1 rfl)⟩
  ·intro u w hR hd;exact⟨fun hg=>have hG:=Zh (hd.2.2.1 rfl) hg;rn_neq_3 (ev ((hd.1 rfl).1 hG)) (ev ((hd.2.1 rfl).1 hG)) (Zs hG),Zn (hd.2.2.1 rfl)⟩
  ·intro u w hR hd;exact runs_or2 (ev (hd.1 rfl)) (fun hb=>ev ((hd.2.1 rfl).1 hb)) Zr
  ·intro u w hR hd;exact runs_mv (ev (hd.1 rfl)) Zr
  ·intro u w hR hd;exact⟨fun hg=>have hG:=Zh (hd.1 rfl) hg;rn_fld_28_5 (ev rfl) (Zs hG),Zn (hd.1 rfl)⟩
  ·intro u w hR hd;exact⟨fun hg=>have hG:=Zh (hd.2.1 rfl) hg;rn_ld_26 (ev ((hd.1 rfl).1 hG)) (d5.kept hR) (Zs hG),Zn (hd.2.1 rfl)⟩
  ·intro u w hR hd;exact⟨fun hg=>have hG:=Zh (hd.2.1 rfl) hg;rn_len_26 (ev ((hd.1 rfl).1 hG)) (Zs hG),Zn (hd.2.1 rfl)⟩
  ·intro u w hR hd;exact⟨fun hg=>have hG:=Zh (hd.1 rfl) hg;rn_fld_28_5 (ev rfl) (Zs hG),Zn (hd.1 rfl)⟩
  ·intro u w hR hd;exact⟨fun hg=>have hG:=Zh (hd.2.1 rfl) hg;rn_ld_26 (ev ((hd.1 rfl).1 hG)) (e5.kept hR) (Zs hG),Zn (hd.2.1 rfl)⟩
  ·intro u w hR hd;exact⟨fun hg=>have hG:=Zh (hd.2.1 rfl) hg;rn_len_26 (ev ((hd.1 rfl).1 hG)) (Zs hG),Zn (hd.2.1 rfl)⟩
  ·intro u w hR hd;exact⟨fun hg=>have hG:=Zh (hd.2.2.1 rfl) hg;rn_neq_3 (ev ((hd.1 rfl).1 hG)) (ev ((hd.2.1 rfl).1 hG)) (Zs hG),Zn (hd.2.2.1 rfl)⟩
  ·intro u w hR hd;exact runs_or2 (ev (hd.1 rfl)) (fun hb=>ev ((hd.2.1 rfl).1 hb)) Zr
  ·intro u w hR hd;exact runs_mv (ev (hd.1 rfl)) Zr
  ·intro u w hR hd;exact⟨fun hg=>have hG:=Zh (hd.1 rfl) hg;rn_fld_28_2 (ev rfl) (Zs hG),Zn (hd.1 rfl)⟩
  ·intro u w hR hd;exact⟨fun hg=>have hG:=Zh (hd.2.1 rfl) hg;rn_ld_24 (ev ((hd.1 rfl).1 hG)) (d2.kept hR) (Zs hG),Zn (hd.2.1 rfl)⟩
  ·intro u w hR hd;exact⟨fun hg=>have hG:=Zh (hd.1 rfl) hg;rn_fld_28_2 (ev rfl) (Zs hG),Zn (hd.1 rfl)⟩
  ·intro u w hR hd;exact⟨fun hg=>have hG:=Zh (hd.2.1 rfl) hg;rn_ld_24 (ev ((hd.1 rfl).1 hG)) (e2.kept hR) (Zs hG),Zn (hd.2.1 rfl)⟩
  ·intro u w hR hd;exact⟨fun hg=>have hG:=Zh (hd.2.2.1 rfl) hg;runs_c2 en_nmR (ev ((hd.1 rfl).1 hG)) (ev ((hd.2.1 rfl).1 hG)) (callp (fun _ e=>⟨fun _=>e,fun hn=>absurd hG hn⟩) (HN1.out _ hR)),Zn (hd.2.2.1 rfl)⟩
  ·intro u w hR hd;exact⟨fun hg=>have hG:=Zh (hd.2.1 rfl) hg;runs_nt (ev ((hd.1 rfl).1 hG)) (Zs hG),Zn (hd.2.1 rfl)⟩
  ·intro u w hR hd;exact runs_or2 (ev (hd.1 rfl)) (fun hb=>ev ((hd.2.1 rfl).1 hb)) Zr
  ·intro u w hR hd;exact runs_mv (ev (hd.1 rfl)) Zr
  ·intro u w hR hd;exact⟨fun hg=>have hG:=Zh (hd.1 rfl) hg;rn_fld_28_3 (ev rfl) (Zs hG),Zn (hd.1 rfl)⟩
  ·intro u w hR hd;exact⟨fun hg=>have hG:=Zh (hd.2.1 rfl) hg;rn_ld_24 (ev ((hd.1 rfl).1 hG)) (d3.kept hR) (Zs hG),Zn (hd.2.1 rfl)⟩
  ·intro u w hR hd;exact⟨fun hg=>have hG:=Zh (hd.1 rfl) hg;rn_fld_28_3 (ev rfl) (Zs hG),Zn (hd.1 rfl)⟩
  ·intro u w hR hd;exact⟨fun hg=>have hG:=Zh (hd.2.1 rfl) hg;rn_ld_24 (ev ((hd.1 rfl).1 hG)) (e3.kept hR) (Zs hG),Zn (hd.2.1 rfl)⟩
  ·intro u w hR hd;exact⟨fun hg=>have hG:=Zh (hd.2.2.1 rfl) hg;runs_c2 en_nmR (ev ((hd.1 rfl).1 hG)) (ev ((hd.2.1 rfl).1 hG)) (callp (fun _ e=>⟨fun _=>e,fun hn=>absurd hG hn⟩) (HN2.out _ hR)),Zn (hd.2.2.1 rfl)⟩
  ·intro u w hR hd;exact⟨fun hg=>have hG:=Zh (hd.2.1 rfl) hg;runs_nt (ev ((hd.1 rfl).1 hG)) (Zs hG),Zn (hd.2.1 rfl)⟩
  ·intro u w hR hd;exact runs_or2 (ev (hd.1 rfl)) (fun hb=>ev ((hd.2.1 rfl).1 hb)) Zr
  ·intro u w4 hR hh
   have he:u 64=.bool (((((((((csa.length:Nat):Int)) != (((csb.length:Nat):Int)))||((((gsa.length:Nat):Int)) != (((gsb.length:Nat):Int))))||((((hsa.length:Nat):Int)) != (((hsb.length:Nat):Int))))||((((tsa.length:Nat):Int)) != (((tsb.length:Nat):Int))))||(!(decide (ssa=ssb))))||(!(decide (osa=osb)))):=hh 49 (by decide)
   have HGr:Hid (Grew W0 w4):=zh hR
   have hEb:b=true→(((((((((csa.length:Nat):Int)) != (((csb.length:Nat):Int)))||((((gsa.length:Nat):Int)) != (((gsb.length:Nat):Int))))||((((hsa.length:Nat):Int)) != (((hsb.length:Nat):Int))))||((((tsa.length:Nat):Int)) != (((tsb.length:Nat):Int))))||(!(decide (ssa=ssb))))||(!(decide (osa=osb))))=false:=fun h=>by
    have h1:=HM0.out.trans h
    rw [eqPg] at h1
    simp only [Bool.and_eq_true,eqL,decide_eq_true_eq] at h1
    obtain ⟨⟨⟨⟨⟨⟨l1,_⟩,l2,_⟩,l3⟩,l4⟩,l5,_⟩,l6,_⟩:=h1
    simp [l1,l2,l3,l4,l5,l6]
   cases hE:(((((((((csa.length:Nat):Int)) != (((csb.length:Nat):Int)))||((((gsa.length:Nat):Int)) != (((gsb.length:Nat):Int))))||((((hsa.length:Nat):Int)) != (((hsb.length:Nat):Int))))||((((tsa.length:Nat):Int)) != (((tsb.length:Nat):Int))))||(!(decide (ssa=ssb))))||(!(decide (osa=osb)))) with
   | true =>
     rw [hE] at he
     have HF2:Hid (b=false):=zh (by cases b with | false=>rfl | true=>rw [hEb rfl] at hE;cases hE)
     simp only [mixA,mixL,zz9,zz0,he]
     clear hh he hR hE hEb d0 e0 d1 e1 d2 e2 d3 e3 d4 e4 d5 e5
     go_wp2
     go_ret
     exact⟨ret_bool HF2.out.symm,HGW.out.trans HGr.out⟩
   | false =>
     rw [hE] at he
     have hE2:=hE
     simp only [Bool.or_eq_false_iff,bne_eq_false_iff_eq,Bool.not_eq_false',decide_eq_true_eq,Int.natCast_inj] at hE2
     obtain ⟨⟨⟨⟨⟨l1,l2⟩,l5⟩,l6⟩,l3⟩,l4⟩:=hE2
     have HLC:=zh l1
     have HLG:=zh l2
     have HLH:=zh l5
     have HLT4:=zh l6
     have HMM:Hid ((all2 eqCn csa csb&&(all2 eqGl gsa gsb&&(all2 eqCn hsa hsb&&all2 eqTa tsa tsb)))=b):=zh (by
      have h1:=HM0.out
      rw [eqPg] at h1
      simp only [eqL,l1,l2,l3,l4,l5,l6,decide_true,Bool.true_and,Bool.and_true] at h1
      rw [← h1]
      simp only [Bool.and_assoc])
     have HM0:=HMM
     simp only [mixA,mixL,zz9,zz0,he]
     clear hh he hR hE hEb HMM l1 l2 l3 l4 l5 l6 d0 e0 d1 e1 d2 e2 d3 e3 d4 e4 d5 e5
     have HLE:=HLC
     have HFA:Hid (∀(j:Nat) (h1:j < csa.length) (h2:j < csb.length),eqCn csa[j] csb[j]=false→b=false):=zh (fun j h1 h2 h=>by have hm:=HM0.out;rw [all2_no csa csb j h1 h2 h,Bool.false_and] at hm;exact hm.symm)
     have hbT:=HBT5.out.grew (HGr.out)
     have hbU:=HBU5.out.grew (HGr.out)
     have u0:=hbT.cell 0
     have y0:=hbU.cell 0
     have u1:=hbT.cell 1
     have y1:=hbU.cell 1
     have u2:=hbT.cell 2
     have y2:=hbU.cell 2
     have u3:=hbT.cell 3
     have y3:=hbU.cell 3
     have u4:=hbT.cell 4
     have y4:=hbU.cell 4
     have u5:=hbT.cell 5
     have y5:=hbU.cell 5
     simp only [zz7,zz8] at u0 y0 u1 y1 u2 y2 u3 y3 u4 y4 u5 y5
     clear hbT hbU
     go_wp2
     clear u0 y0 u1 y1 u2 y2 u3 y3 u4 y4 u5 y5
     go_loopg [5,68] csa.length (fun gg v_ iv wr=>∃(j:Nat),iv=.int .i64 (j:Int)∧j≤csa.length∧gg=csa.length - j∧Hid (all2 eqCn (csa.take j) (csb.take j)=true)∧Hid (Grew W0 wr))
     case atStart=>exact⟨0,rfl,Nat.zero_le _,rfl,zh rfl,HGr⟩
     case round =>
      obtain ⟨j,rfl,hj,rfl,HI,HG⟩:=hrel
      by_cases hlt:j < csa.length
      ·have hlt2:j < csb.length:=by have:=HLE.out;omega
       obtain ⟨bz,oz,rfl,hcz⟩:=HXc.out.getF j hlt
       obtain ⟨bu,ou,rfl,hcu⟩:=HYc.out.getF j hlt2
       have hqz:=HZA.out.1 _ (List.getElem_mem hlt)
       have hqu:=HZB.out.1 _ (List.getElem_mem hlt2)
       have htz:=List.take_succ_eq_append_getElem hlt
       have htu:=List.take_succ_eq_append_getElem hlt2
       have HLz:=zh (Nat.succ_le_of_lt hlt)
       have hno:=fun(h:eqCn csa[j] csb[j]=false)=>HFA.out j hlt hlt2 h
       generalize csa[j]=xz at hcz hqz htz hno
       generalize csb[j]=xu at hcu hqu htu hno
       obtain ⟨sz,vz,qz⟩:=xz
       obtain ⟨su,vu,qu⟩:=xu
       obtain rfl:qz=0:=hqz
       obtain rfl:qu=0:=hqu
       have HTZ:=zh htz
       have HTU_:=zh htu
       have HNO:=zh hno
       have HTL:Hid ((csa.take j).length=(csb.take j).length):=zh (by rw [List.length_take,List.length_take];have:=HLE.out;omega)
       replace hcz:∀i_ u_,([.string sz,.int .i16 vz,.int .i64 0]:List Value)[i_]?=some u_→W0.cell? ⟨bz,oz+j * 3+i_,none⟩=some u_:=hcz
       replace hcu:∀i_ u_,([.string su,.int .i16 vu,.int .i64 0]:List Value)[i_]?=some u_→W0.cell? ⟨bu,ou+j * 3+i_,none⟩=some u_:=hcu
       have hgd:=HG.out.trans (Grew.refl wr).drw
       have d0:Atv ⟨T,0,none⟩ (.slice (some ⟨bz,oz,none⟩) csa.length ccx) wr.drew:=(HBT5.out.grew hgd).atv 0 rfl
       have e0:Atv ⟨U,0,none⟩ (.slice (some ⟨bu,ou,none⟩) csb.length ccy) wr.drew:=(HBU5.out.grew hgd).atv 0 rfl
       have f0:Atv ⟨bz,oz+j * 3,none⟩ (.string sz) wr.drew:=Atv.kept (hcz 0 _ rfl) hgd
       have f1:Atv ⟨bz,oz+j * 3+1,none⟩ (.int .i16 vz) wr.drew:=Atv.kept (hcz 1 _ rfl) hgd
       have f2:Atv ⟨bz,oz+j * 3+2,none⟩ (.int .i64 0) wr.drew:=Atv.kept (hcz 2 _ rfl) hgd
       have g0:Atv ⟨bu,ou+j * 3,none⟩ (.string su) wr.drew:=Atv.kept (hcu 0 _ rfl) hgd
       have g1:Atv ⟨bu,ou+j * 3+1,none⟩ (.int .i16 vu) wr.drew:=Atv.kept (hcu 1 _ rfl) hgd
       have g2:Atv ⟨bu,ou+j * 3+2,none⟩ (.int .i64 0) wr.drew:=Atv.kept (hcu 2 _ rfl) hgd
       clear hcz hcu htz htu hno hgd
       go_upto_region 7 with fail
       refine wp_still [some 71,some 72,some 73,some 74,some 75,some 76,some 77,some 78,some 79,some 80,some 81] (Zfg (Zfg (Zfc (Zfb (Zfa (Ztd (Ztb (Zta (Zfg (Zfg (Zfg (Zfb (Zfa []))))))))))))) [fun v _=>v=.pointer (some ⟨T,0,none⟩),fun v _=>v=.slice (some ⟨bz,oz,none⟩) (csa.length) (ccx),fun v _=>v=.int .i64 (((j:Nat):Int)),fun v _=>v=.pointer (some ⟨bz,oz+j * 3,none⟩),fun v _=>v=.agg #[.string sz,.int .i16 (vz),.int .i64 (0)],fun v _=>v=.pointer (some ⟨U,0,none⟩),fun v _=>v=.slice (some ⟨bu,ou,none⟩) (csb.length) (ccy),fun v _=>v=.int .i64 (((j:Nat):Int)),fun v _=>v=.pointer (some ⟨bu,ou+j * 3,none⟩),fun v _=>v=.agg #[.string su,.int .i16 (vu),.int .i64 (0)],fun v _=>v=.bool (!(decide (sz=su)&&((vz)==(vu))&&((0)==(0))))] (by kernel_rfl) (by kernel_rfl) rfl ⟨?_,?_,?_,?_,?_,?_,?_,?_,?_,?_,?_,trivial⟩ ?_
       ·intro u w hR hd;exact rn_fld_28_0 (ev rfl) ⟨rfl,rfl⟩
       ·intro u w hR hd;exact rn_ld_22 (ev (hd.1 rfl)) (d0.kept hR) ⟨rfl,rfl⟩
       ·intro u w hR hd;exact runs_mv (ev rfl) ⟨rfl,rfl⟩
       ·intro u w hR hd;exact rn_idx_22 (j) (ev (hd.1 rfl)) (ev (hd.2.1 rfl)) (by omega) ⟨rfl,rfl⟩
       ·intro u w hR hd;exact rn_ld_60 (ev (hd.1 rfl)) (f0.kept hR) (f1.kept hR) (f2.kept hR) ⟨rfl,rfl⟩
       ·intro u w hR hd;exact rn_fld_28_0 (ev rfl) ⟨rfl,rfl⟩
       ·intro u w hR hd;exact rn_ld_22 (ev (hd.1 rfl)) (e0.kept hR) ⟨rfl,rfl⟩
       ·intro u w hR hd;exact runs_mv (ev rfl) ⟨rfl,rfl⟩
       ·intro u w hR hd;exact rn_idx_22 (j) (ev (hd.1 rfl)) (ev (hd.2.1 rfl)) (by omega) ⟨rfl,rfl⟩
       ·intro u w hR hd;exact rn_ld_60 (ev (hd.1 rfl)) (g0.kept hR) (g1.kept hR) (g2.kept hR) ⟨rfl,rfl⟩
       ·intro u w hR hd;exact rn_neq_60 (ev (hd.1 rfl)) (ev (hd.2.1 rfl)) ⟨rfl,rfl⟩
       ·intro u h
        have he:u 81=.bool (!(decide (sz=su)&&((vz)==(vu))&&((0)==(0)))):=h 10 (by decide)
        have hE:(!(decide (sz=su)&&((vz)==(vu))&&((0)==(0))))=!eqCn ⟨sz,vz,0⟩ ⟨su,vu,0⟩:=by simp [eqCn]
        rw [hE] at he
        have HG4:=zh (HG.out.trans (Grew.refl wr).drw)
        simp only [mixA,mixL,zz9,zz0,he]
        clear h he hE d0 e0 f0 g0 f1 g1 f2 g2
        cases hx:eqCn ⟨sz,vz,0⟩ ⟨su,vu,0⟩ with
        | false =>
          have HF2:=zh (HNO.out hx)
          go_wp2
          go_ret
          exact⟨ret_bool HF2.out.symm,HGW.out.trans HG4.out⟩
        | true =>
          have HXX:=zh hx
          clear HNO hx
          go_wp2
          go_roundg (csa.length - (j+1))
          case measure=>have:=HLz.out;omega
          case rel=>exact⟨j+1,by go_num,HLz.out,rfl,zh (by rw [HTZ.out,HTU_.out,all2_snoc _ _ _ _ HTL.out,HI.out,HXX.out];rfl),HG4⟩
      ·obtain rfl:j=csa.length:=by omega
       have HIA:Hid (all2 eqCn csa csb=true):=zh (by have h:=HI.out;rw [List.take_length,HLE.out,List.take_length] at h;exact h)
       have HM1:Hid ((all2 eqGl gsa gsb&&(all2 eqCn hsa hsb&&all2 eqTa tsa tsb))=b):=zh (by have h:=HM0.out;rw [HIA.out,Bool.true_and] at h;exact h)
       have HGr:=HG
       clear HI HG HLE HFA
       have HLE:=HLG
       have HFA:Hid (∀(j:Nat) (h1:j < gsa.length) (h2:j < gsb.length),eqGl gsa[j] gsb[j]=false→b=false):=zh (fun j h1 h2 h=>by have hm:=HM1.out;rw [all2_no gsa gsb j h1 h2 h,Bool.false_and] at hm;exact hm.symm)
       have hbT:=HBT5.out.grew (HGr.out)
       have hbU:=HBU5.out.grew (HGr.out)
       have u0:=hbT.cell 0
       have y0:=hbU.cell 0
       have u1:=hbT.cell 1
       have y1:=hbU.cell 1
       have u2:=hbT.cell 2
       have y2:=hbU.cell 2
       have u3:=hbT.cell 3
       have y3:=hbU.cell 3
       have u4:=hbT.cell 4
       have y4:=hbU.cell 4
       have u5:=hbT.cell 5
       have y5:=hbU.cell 5
       simp only [zz7,zz8] at u0 y0 u1 y1 u2 y2 u3 y3 u4 y4 u5 y5
       clear hbT hbU
       go_wp2
       clear u0 y0 u1 y1 u2 y2 u3 y3 u4 y4 u5 y5
       go_loopg [6,86] gsa.length (fun gg v_ iv wr=>∃(j:Nat),iv=.int .i64 (j:Int)∧j≤gsa.length∧gg=gsa.length - j∧Hid (all2 eqGl (gsa.take j) (gsb.take j)=true)∧Hid (Grew W0 wr))
       case atStart=>exact⟨0,rfl,Nat.zero_le _,rfl,zh rfl,HGr⟩
       case round =>
        obtain ⟨j,rfl,hj,rfl,HI,HG⟩:=hrel
        by_cases hlt:j < gsa.length
        ·have hlt2:j < gsb.length:=by have:=HLE.out;omega
         obtain ⟨bz,oz,rfl,hcz⟩:=HXg.out.getF j hlt
         obtain ⟨bu,ou,rfl,hcu⟩:=HYg.out.getF j hlt2
         have hqz:=HZA.out.2.1 _ (List.getElem_mem hlt)
         have hqu:=HZB.out.2.1 _ (List.getElem_mem hlt2)
         have htz:=List.take_succ_eq_append_getElem hlt
         have htu:=List.take_succ_eq_append_getElem hlt2
         have HLz:=zh (Nat.succ_le_of_lt hlt)
         have hno:=fun(h:eqGl gsa[j] gsb[j]=false)=>HFA.out j hlt hlt2 h
         generalize gsa[j]=xz at hcz hqz htz hno
         generalize gsb[j]=xu at hcu hqu htu hno
         obtain ⟨sz,lz,vz,qz⟩:=xz
         obtain ⟨su,lu,vu,qu⟩:=xu
         obtain rfl:qz=0:=hqz
         obtain rfl:qu=0:=hqu
         have HTZ:=zh htz
         have HTU_:=zh htu
         have HNO:=zh hno
         have HTL:Hid ((gsa.take j).length=(gsb.take j).length):=zh (by rw [List.length_take,List.length_take];have:=HLE.out;omega)
         replace hcz:∀i_ u_,([.string sz,.int .i64 lz,.int .i16 vz,.int .i64 0]:List Value)[i_]?=some u_→W0.cell? ⟨bz,oz+j * 4+i_,none⟩=some u_:=hcz
         replace hcu:∀i_ u_,([.string su,.int .i64 lu,.int .i16 vu,.int .i64 0]:List Value)[i_]?=some u_→W0.cell? ⟨bu,ou+j * 4+i_,none⟩=some u_:=hcu
         have hgd:=HG.out.trans (Grew.refl wr).drw
         have d0:Atv ⟨T,1,none⟩ (.slice (some ⟨bz,oz,none⟩) gsa.length gcx) wr.drew:=(HBT5.out.grew hgd).atv 1 rfl
         have e0:Atv ⟨U,1,none⟩ (.slice (some ⟨bu,ou,none⟩) gsb.length gcy) wr.drew:=(HBU5.out.grew hgd).atv 1 rfl
         have f0:Atv ⟨bz,oz+j * 4,none⟩ (.string sz) wr.drew:=Atv.kept (hcz 0 _ rfl) hgd
         have f1:Atv ⟨bz,oz+j * 4+1,none⟩ (.int .i64 lz) wr.drew:=Atv.kept (hcz 1 _ rfl) hgd
         have f2:Atv ⟨bz,oz+j * 4+2,none⟩ (.int .i16 vz) wr.drew:=Atv.kept (hcz 2 _ rfl) hgd
         have f3:Atv ⟨bz,oz+j * 4+3,none⟩ (.int .i64 0) wr.drew:=Atv.kept (hcz 3 _ rfl) hgd
         have g0:Atv ⟨bu,ou+j * 4,none⟩ (.string su) wr.drew:=Atv.kept (hcu 0 _ rfl) hgd
         have g1:Atv ⟨bu,ou+j * 4+1,none⟩ (.int .i64 lu) wr.drew:=Atv.kept (hcu 1 _ rfl) hgd
         have g2:Atv ⟨bu,ou+j * 4+2,none⟩ (.int .i16 vu) wr.drew:=Atv.kept (hcu 2 _ rfl) hgd
         have g3:Atv ⟨bu,ou+j * 4+3,none⟩ (.int .i64 0) wr.drew:=Atv.kept (hcu 3 _ rfl) hgd
         clear hcz hcu htz htu hno hgd
         go_upto_region 13 with fail
         refine wp_still [some 89,some 90,some 91,some 92,some 93,some 94,some 95,some 96,some 97,some 98,some 99] (Zfg (Zfg (Zfe (Zfd (Zfa (Ztd (Ztb (Zta (Zfg (Zfg (Zfe (Zfa [])))))))))))) [fun v _=>v=.pointer (some ⟨T,1,none⟩),fun v _=>v=.slice (some ⟨bz,oz,none⟩) (gsa.length) (gcx),fun v _=>v=.int .i64 (((j:Nat):Int)),fun v _=>v=.pointer (some ⟨bz,oz+j * 4,none⟩),fun v _=>v=.agg #[.string sz,.int .i64 (lz),.int .i16 (vz),.int .i64 (0)],fun v _=>v=.pointer (some ⟨U,1,none⟩),fun v _=>v=.slice (some ⟨bu,ou,none⟩) (gsb.length) (gcy),fun v _=>v=.int .i64 (((j:Nat):Int)),fun v _=>v=.pointer (some ⟨bu,ou+j * 4,none⟩),fun v _=>v=.agg #[.string su,.int .i64 (lu),.int .i16 (vu),.int .i64 (0)],fun v _=>v=.bool (!(decide (sz=su)&&((lz)==(lu))&&((vz)==(vu))&&((0)==(0))))] (by kernel_rfl) (by kernel_rfl) rfl ⟨?_,?_,?_,?_,?_,?_,?_,?_,?_,?_,?_,trivial⟩ ?_
         ·intro u w hR hd;exact rn_fld_28_1 (ev rfl) ⟨rfl,rfl⟩
         ·intro u w hR hd;exact rn_ld_23 (ev (hd.1 rfl)) (d0.kept hR) ⟨rfl,rfl⟩
         ·intro u w hR hd;exact runs_mv (ev rfl) ⟨rfl,rfl⟩
         ·intro u w hR hd;exact rn_idx_23 (j) (ev (hd.1 rfl)) (ev (hd.2.1 rfl)) (by omega) ⟨rfl,rfl⟩
         ·intro u w hR hd;exact rn_ld_62 (ev (hd.1 rfl)) (f0.kept hR) (f1.kept hR) (f2.kept hR) (f3.kept hR) ⟨rfl,rfl⟩
         ·intro u w hR hd;exact rn_fld_28_1 (ev rfl) ⟨rfl,rfl⟩
         ·intro u w hR hd;exact rn_ld_23 (ev (hd.1 rfl)) (e0.kept hR) ⟨rfl,rfl⟩
         ·intro u w hR hd;exact runs_mv (ev rfl) ⟨rfl,rfl⟩
         ·intro u w hR hd;exact rn_idx_23 (j) (ev (hd.1 rfl)) (ev (hd.2.1 rfl)) (by omega) ⟨rfl,rfl⟩
         ·intro u w hR hd;exact rn_ld_62 (ev (hd.1 rfl)) (g0.kept hR) (g1.kept hR) (g2.kept hR) (g3.kept hR) ⟨rfl,rfl⟩
         ·intro u w hR hd;exact rn_neq_62 (ev (hd.1 rfl)) (ev (hd.2.1 rfl)) ⟨rfl,rfl⟩
         ·intro u h
          have he:u 99=.bool (!(decide (sz=su)&&((lz)==(lu))&&((vz)==(vu))&&((0)==(0)))):=h 10 (by decide)
          have hE:(!(decide (sz=su)&&((lz)==(lu))&&((vz)==(vu))&&((0)==(0))))=!eqGl ⟨sz,lz,vz,0⟩ ⟨su,lu,vu,0⟩:=by simp [eqGl]
          rw [hE] at he
          have HG4:=zh (HG.out.trans (Grew.refl wr).drw)
          simp only [mixA,mixL,zz9,zz0,he]
          clear h he hE d0 e0 f0 g0 f1 g1 f2 g2 f3 g3
          cases hx:eqGl ⟨sz,lz,vz,0⟩ ⟨su,lu,vu,0⟩ with
          | false =>
            have HF2:=zh (HNO.out hx)
            go_wp2
            go_ret
            exact⟨ret_bool HF2.out.symm,HGW.out.trans HG4.out⟩
          | true =>
            have HXX:=zh hx
            clear HNO hx
            go_wp2
            go_roundg (gsa.length - (j+1))
            case measure=>have:=HLz.out;omega
            case rel=>exact⟨j+1,by go_num,HLz.out,rfl,zh (by rw [HTZ.out,HTU_.out,all2_snoc _ _ _ _ HTL.out,HI.out,HXX.out];rfl),HG4⟩
        ·obtain rfl:j=gsa.length:=by omega
         have HIA:Hid (all2 eqGl gsa gsb=true):=zh (by have h:=HI.out;rw [List.take_length,HLE.out,List.take_length] at h;exact h)
         have HM2:Hid ((all2 eqCn hsa hsb&&all2 eqTa tsa tsb)=b):=zh (by have h:=HM1.out;rw [HIA.out,Bool.true_and] at h;exact h)
         have HGr:=HG
         clear HI HG HLE HFA
         have HLE:=HLH
         have HFA:Hid (∀(j:Nat) (h1:j < hsa.length) (h2:j < hsb.length),eqCn hsa[j] hsb[j]=false→b=false):=zh (fun j h1 h2 h=>by have hm:=HM2.out;rw [all2_no hsa hsb j h1 h2 h,Bool.false_and] at hm;exact hm.symm)
         have hbT:=HBT5.out.grew (HGr.out)
         have hbU:=HBU5.out.grew (HGr.out)
         have u0:=hbT.cell 0
         have y0:=hbU.cell 0
         have u1:=hbT.cell 1
         have y1:=hbU.cell 1
         have u2:=hbT.cell 2
         have y2:=hbU.cell 2
         have u3:=hbT.cell 3
         have y3:=hbU.cell 3
         have u4:=hbT.cell 4
         have y4:=hbU.cell 4
         have u5:=hbT.cell 5
         have y5:=hbU.cell 5
         simp only [zz7,zz8] at u0 y0 u1 y1 u2 y2 u3 y3 u4 y4 u5 y5
         clear hbT hbU
         go_wp2
         clear u0 y0 u1 y1 u2 y2 u3 y3 u4 y4 u5 y5
         go_loopg [7,104] hsa.length (fun gg v_ iv wr=>∃(j:Nat),iv=.int .i64 (j:Int)∧j≤hsa.length∧gg=hsa.length - j∧Hid (all2 eqCn (hsa.take j) (hsb.take j)=true)∧Hid (Grew W0 wr))
         case atStart=>exact⟨0,rfl,Nat.zero_le _,rfl,zh rfl,HGr⟩
         case round =>
          obtain ⟨j,rfl,hj,rfl,HI,HG⟩:=hrel
          by_cases hlt:j < hsa.length
          ·have hlt2:j < hsb.length:=by have:=HLE.out;omega
           obtain ⟨bz,oz,rfl,hcz⟩:=HXh.out.getF j hlt
           obtain ⟨bu,ou,rfl,hcu⟩:=HYh.out.getF j hlt2
           have hqz:=HZA.out.2.2 _ (List.getElem_mem hlt)
           have hqu:=HZB.out.2.2 _ (List.getElem_mem hlt2)
           have htz:=List.take_succ_eq_append_getElem hlt
           have htu:=List.take_succ_eq_append_getElem hlt2
           have HLz:=zh (Nat.succ_le_of_lt hlt)
           have hno:=fun(h:eqCn hsa[j] hsb[j]=false)=>HFA.out j hlt hlt2 h
           generalize hsa[j]=xz at hcz hqz htz hno
           generalize hsb[j]=xu at hcu hqu htu hno
           obtain ⟨sz,vz,qz⟩:=xz
           obtain ⟨su,vu,qu⟩:=xu
           obtain rfl:qz=0:=hqz
           obtain rfl:qu=0:=hqu
           have HTZ:=zh htz
           have HTU_:=zh htu
           have HNO:=zh hno
           have HTL:Hid ((hsa.take j).length=(hsb.take j).length):=zh (by rw [List.length_take,List.length_take];have:=HLE.out;omega)
           replace hcz:∀i_ u_,([.string sz,.int .i64 vz,.int .i64 0]:List Value)[i_]?=some u_→W0.cell? ⟨bz,oz+j * 3+i_,none⟩=some u_:=hcz
           replace hcu:∀i_ u_,([.string su,.int .i64 vu,.int .i64 0]:List Value)[i_]?=some u_→W0.cell? ⟨bu,ou+j * 3+i_,none⟩=some u_:=hcu
           have hgd:=HG.out.trans (Grew.refl wr).drw
           have d0:Atv ⟨T,4,none⟩ (.slice (some ⟨bz,oz,none⟩) hsa.length hcx) wr.drew:=(HBT5.out.grew hgd).atv 4 rfl
           have e0:Atv ⟨U,4,none⟩ (.slice (some ⟨bu,ou,none⟩) hsb.length hcy) wr.drew:=(HBU5.out.grew hgd).atv 4 rfl
           have f0:Atv ⟨bz,oz+j * 3,none⟩ (.string sz) wr.drew:=Atv.kept (hcz 0 _ rfl) hgd
           have f1:Atv ⟨bz,oz+j * 3+1,none⟩ (.int .i64 vz) wr.drew:=Atv.kept (hcz 1 _ rfl) hgd
           have f2:Atv ⟨bz,oz+j * 3+2,none⟩ (.int .i64 0) wr.drew:=Atv.kept (hcz 2 _ rfl) hgd
           have g0:Atv ⟨bu,ou+j * 3,none⟩ (.string su) wr.drew:=Atv.kept (hcu 0 _ rfl) hgd
           have g1:Atv ⟨bu,ou+j * 3+1,none⟩ (.int .i64 vu) wr.drew:=Atv.kept (hcu 1 _ rfl) hgd
           have g2:Atv ⟨bu,ou+j * 3+2,none⟩ (.int .i64 0) wr.drew:=Atv.kept (hcu 2 _ rfl) hgd
           clear hcz hcu htz htu hno hgd
           go_upto_region 19 with fail
           refine wp_still [some 107,some 108,some 109,some 110,some 111,some 112,some 113,some 114,some 115,some 116,some 117] (Zfg (Zfg (Zfg (Zfd (Zfb (Zfa (Ztd (Ztb (Zta (Zfg (Zfe (Zfd (Zfc (Zfb (Zfa []))))))))))))))) [fun v _=>v=.pointer (some ⟨T,4,none⟩),fun v _=>v=.slice (some ⟨bz,oz,none⟩) (hsa.length) (hcx),fun v _=>v=.int .i64 (((j:Nat):Int)),fun v _=>v=.pointer (some ⟨bz,oz+j * 3,none⟩),fun v _=>v=.agg #[.string sz,.int .i64 (vz),.int .i64 (0)],fun v _=>v=.pointer (some ⟨U,4,none⟩),fun v _=>v=.slice (some ⟨bu,ou,none⟩) (hsb.length) (hcy),fun v _=>v=.int .i64 (((j:Nat):Int)),fun v _=>v=.pointer (some ⟨bu,ou+j * 3,none⟩),fun v _=>v=.agg #[.string su,.int .i64 (vu),.int .i64 (0)],fun v _=>v=.bool (!(decide (sz=su)&&((vz)==(vu))&&((0)==(0))))] (by kernel_rfl) (by kernel_rfl) rfl ⟨?_,?_,?_,?_,?_,?_,?_,?_,?_,?_,?_,trivial⟩ ?_
           ·intro u w hR hd;exact rn_fld_28_4 (ev rfl) ⟨rfl,rfl⟩
           ·intro u w hR hd;exact rn_ld_25 (ev (hd.1 rfl)) (d0.kept hR) ⟨rfl,rfl⟩
           ·intro u w hR hd;exact runs_mv (ev rfl) ⟨rfl,rfl⟩
           ·intro u w hR hd;exact rn_idx_25 (j) (ev (hd.1 rfl)) (ev (hd.2.1 rfl)) (by omega) ⟨rfl,rfl⟩
           ·intro u w hR hd;exact rn_ld_64 (ev (hd.1 rfl)) (f0.kept hR) (f1.kept hR) (f2.kept hR) ⟨rfl,rfl⟩
           ·intro u w hR hd;exact rn_fld_28_4 (ev rfl) ⟨rfl,rfl⟩
           ·intro u w hR hd;exact rn_ld_25 (ev (hd.1 rfl)) (e0.kept hR) ⟨rfl,rfl⟩
           ·intro u w hR hd;exact runs_mv (ev rfl) ⟨rfl,rfl⟩
           ·intro u w hR hd;exact rn_idx_25 (j) (ev (hd.1 rfl)) (ev (hd.2.1 rfl)) (by omega) ⟨rfl,rfl⟩
           ·intro u w hR hd;exact rn_ld_64 (ev (hd.1 rfl)) (g0.kept hR) (g1.kept hR) (g2.kept hR) ⟨rfl,rfl⟩
           ·intro u w hR hd;exact rn_neq_64 (ev (hd.1 rfl)) (ev (hd.2.1 rfl)) ⟨rfl,rfl⟩
           ·intro u h
            have he:u 117=.bool (!(decide (sz=su)&&((vz)==(vu))&&((0)==(0)))):=h 10 (by decide)
            have hE:(!(decide (sz=su)&&((vz)==(vu))&&((0)==(0))))=!eqCn ⟨sz,vz,0⟩ ⟨su,vu,0⟩:=by simp [eqCn]
            rw [hE] at he
            have HG4:=zh (HG.out.trans (Grew.refl wr).drw)
            simp only [mixA,mixL,zz9,zz0,he]
            clear h he hE d0 e0 f0 g0 f1 g1 f2 g2
            cases hx:eqCn ⟨sz,vz,0⟩ ⟨su,vu,0⟩ with
            | false =>
              have HF2:=zh (HNO.out hx)
              go_wp2
              go_ret
              exact⟨ret_bool HF2.out.symm,HGW.out.trans HG4.out⟩
            | true =>
              have HXX:=zh hx
              clear HNO hx
              go_wp2
              go_roundg (hsa.length - (j+1))
              case measure=>have:=HLz.out;omega
              case rel=>exact⟨j+1,by go_num,HLz.out,rfl,zh (by rw [HTZ.out,HTU_.out,all2_snoc _ _ _ _ HTL.out,HI.out,HXX.out];rfl),HG4⟩
          ·obtain rfl:j=hsa.length:=by omega
           have HIA:Hid (all2 eqCn hsa hsb=true):=zh (by have h:=HI.out;rw [List.take_length,HLE.out,List.take_length] at h;exact h)
           have HM3:Hid ((all2 eqTa tsa tsb)=b):=zh (by have h:=HM2.out;rw [HIA.out,Bool.true_and] at h;exact h)
           have HGr:=HG
           clear HI HG HLE HFA
           have HLE:=HLT4
           have HFA:Hid (∀(j:Nat) (h1:j < tsa.length) (h2:j < tsb.length),eqTa tsa[j] tsb[j]=false→b=false):=zh (fun j h1 h2 h=>by have hm:=HM3.out;rw [all2_no tsa tsb j h1 h2 h] at hm;exact hm.symm)
           have hbT:=HBT5.out.grew (HGr.out)
           have hbU:=HBU5.out.grew (HGr.out)
           have u0:=hbT.cell 0
           have y0:=hbU.cell 0
           have u1:=hbT.cell 1
           have y1:=hbU.cell 1
           have u2:=hbT.cell 2
           have y2:=hbU.cell 2
           have u3:=hbT.cell 3
           have y3:=hbU.cell 3
           have u4:=hbT.cell 4
           have y4:=hbU.cell 4
           have u5:=hbT.cell 5
           have y5:=hbU.cell 5
           simp only [zz7,zz8] at u0 y0 u1 y1 u2 y2 u3 y3 u4 y4 u5 y5
           clear hbT hbU
           go_wp2
           clear u0 y0 u1 y1 u2 y2 u3 y3 u4 y4 u5 y5
           go_loopg [8,9,10,122] tsa.length (fun gg v8_ v9_ v10_ iv wr=>∃(j:Nat),iv=.int .i64 (j:Int)∧j≤tsa.length∧gg=tsa.length - j∧Hid (all2 eqTa (tsa.take j) (tsb.take j)=true)∧Hid (Grew W0 wr))
           case atStart=>exact⟨0,rfl,Nat.zero_le _,rfl,zh rfl,HGr⟩
           case round =>
            obtain ⟨j,rfl,hj,rfl,HI,HG⟩:=hrel
            by_cases hlt:j < tsa.length
            ·have hlt2:j < tsb.length:=by have:=HLE.out;omega
             have hno:=fun(h:eqTa tsa[j] tsb[j]=false)=>HFA.out j hlt hlt2 h
             have HTL:Hid ((tsa.take j).length=(tsb.take j).length):=zh (by rw [List.length_take,List.length_take];have:=HLE.out;omega)
             have hltu:(j:Int) < (tsb.length:Int):=by omega
             obtain ⟨bz,oz,pbz,cbz,rfl,hbz,hboz,hcz⟩:=HXt.out.get j hlt
             have hmz:=List.getElem_mem hlt
             have htz:=List.take_succ_eq_append_getElem hlt
             have HLz:=zh (Nat.succ_le_of_lt hlt)
             generalize tsa[j]=xz at *
             obtain ⟨sz,iz,dz,hz,mz,nz,yz,qz⟩:=xz
             replace hbz:sz.size≤1048576∧hz.size≤1048576∧mz.size≤1048576:=hbz.2
             have HTz:=zh htz
             have HYz:Hid (SL BA W0 pbz cbz yz):=zh hboz
             have hcapz:yz.length≤cbz:=hboz.cap.1
             have hmaxz:=hboz.cap.2.1
             replace hcz:∀i_ u_,(tdc ⟨sz,iz,dz,hz,mz,nz,pbz,yz.length,cbz,qz⟩)[i_]?=some u_→wr.cell? ⟨bz,oz+j * 8+i_,none⟩=some u_:=fun i_ u_ h_=>Atv.kept (hcz i_ u_ h_) HG.out
             have cz0:wr.cell? ⟨bz,oz+j * 8,none⟩=some (.string sz):=by simpa using hcz 0 _ rfl
             have cz1:wr.cell? ⟨bz,oz+j * 8+1,none⟩=some (.int .i64 iz):=hcz 1 _ rfl
             have cz2:wr.cell? ⟨bz,oz+j * 8+2,none⟩=some (.int .i64 dz):=hcz 2 _ rfl
             have cz3:wr.cell? ⟨bz,oz+j * 8+3,none⟩=some (.string hz):=hcz 3 _ rfl
             have cz4:wr.cell? ⟨bz,oz+j * 8+4,none⟩=some (.string mz):=hcz 4 _ rfl
             have cz5:wr.cell? ⟨bz,oz+j * 8+5,none⟩=some (.int .i64 nz):=hcz 5 _ rfl
             have cz6:wr.cell? ⟨bz,oz+j * 8+6,none⟩=some (.slice pbz yz.length cbz):=hcz 6 _ rfl
             have cz7:wr.cell? ⟨bz,oz+j * 8+7,none⟩=some (.int .i64 qz):=hcz 7 _ rfl
             clear hcz hboz htz
             go_upto_region 25 with fail
             have hb1:Blk wr.heap.size [.string sz,.int .i64 iz,.int .i64 dz,.string hz,.string mz,.int .i64 nz,.slice pbz yz.length cbz,.int .i64 qz] 42 (wr.alloc (Obj.cells #[.string sz,.int .i64 iz,.int .i64 dz,.string hz,.string mz,.int .i64 nz,.slice pbz yz.length cbz,.int .i64 qz] 42)):=Blk.new wr _ _
             have hg8:Grew wr (wr.alloc (Obj.cells #[.string sz,.int .i64 iz,.int .i64 dz,.string hz,.string mz,.int .i64 nz,.slice pbz yz.length cbz,.int .i64 qz] 42)):=(Grew.refl wr).alloc _
             generalize (wr.alloc (Obj.cells #[.string sz,.int .i64 iz,.int .i64 dz,.string hz,.string mz,.int .i64 nz,.slice pbz yz.length cbz,.int .i64 qz] 42))=V8 at hb1 hg8 ⊢
             generalize wr.heap.size=T9 at hb1 ⊢
             have HG8:Hid (Grew W0 V8):=zh (HG.out.trans hg8)
             clear hg8 cz0 cz1 cz2 cz3 cz4 cz5 cz6 cz7
             obtain ⟨bu,ou,pbu,cbu,rfl,hbu,hbou,hcu⟩:=HYt.out.get j hlt2
             have hmu:=List.getElem_mem hlt2
             have htu:=List.take_succ_eq_append_getElem hlt2
             have HLu:=zh (Nat.succ_le_of_lt hlt2)
             generalize tsb[j]=xu at *
             obtain ⟨su,iu,du,hu,mu,nu,yu,qu⟩:=xu
             replace hbu:su.size≤1048576∧hu.size≤1048576∧mu.size≤1048576:=hbu.2
             have HTu:=zh htu
             have HYu:Hid (SL BA W0 pbu cbu yu):=zh hbou
             have hcapu:yu.length≤cbu:=hbou.cap.1
             have hmaxu:=hbou.cap.2.1
             replace hcu:∀i_ u_,(tdc ⟨su,iu,du,hu,mu,nu,pbu,yu.length,cbu,qu⟩)[i_]?=some u_→V8.cell? ⟨bu,ou+j * 8+i_,none⟩=some u_:=fun i_ u_ h_=>Atv.kept (hcu i_ u_ h_) HG8.out
             have cu0:V8.cell? ⟨bu,ou+j * 8,none⟩=some (.string su):=by simpa using hcu 0 _ rfl
             have cu1:V8.cell? ⟨bu,ou+j * 8+1,none⟩=some (.int .i64 iu):=hcu 1 _ rfl
             have cu2:V8.cell? ⟨bu,ou+j * 8+2,none⟩=some (.int .i64 du):=hcu 2 _ rfl
             have cu3:V8.cell? ⟨bu,ou+j * 8+3,none⟩=some (.string hu):=hcu 3 _ rfl
             have cu4:V8.cell? ⟨bu,ou+j * 8+4,none⟩=some (.string mu):=hcu 4 _ rfl
             have cu5:V8.cell? ⟨bu,ou+j * 8+5,none⟩=some (.int .i64 nu):=hcu 5 _ rfl
             have cu6:V8.cell? ⟨bu,ou+j * 8+6,none⟩=some (.slice pbu yu.length cbu):=hcu 6 _ rfl
             have cu7:V8.cell? ⟨bu,ou+j * 8+7,none⟩=some (.int .i64 qu):=hcu 7 _ rfl
             clear hcu hbou htu
             have HNO:=zh hno
             have HEQ:=zh (fun W (hW:Grew W0 W)=>eqs_any _ yz yu (Nat.lt_succ_self _) BA BA W pbz pbu cbz cbu (HYz.out.kept hW) (HYu.out.kept hW))
             have hbU:=HBU5.out.grew HG8.out
             have y5:=hbU.cell 5
             simp only [zz7,zz8] at y5
             clear hno hmz hmu hbU
             go_upto_region 26 with fail
             have hb2:Blk V8.heap.size [.string su,.int .i64 iu,.int .i64 du,.string hu,.string mu,.int .i64 nu,.slice pbu yu.length cbu,.int .i64 qu] 42 (V8.alloc (Obj.cells #[.string su,.int .i64 iu,.int .i64 du,.string hu,.string mu,.int .i64 nu,.slice pbu yu.length cbu,.int .i64 qu] 42)):=Blk.new V8 _ _
             have hb3:=hb1.grew ((Grew.refl _).alloc (Obj.cells #[.string su,.int .i64 iu,.int .i64 du,.string hu,.string mu,.int .i64 nu,.slice pbu yu.length cbu,.int .i64 qu] 42))
             have hgV9:Grew W0 (V8.alloc (Obj.cells #[.string su,.int .i64 iu,.int .i64 du,.string hu,.string mu,.int .i64 nu,.slice pbu yu.length cbu,.int .i64 qu] 42)):=HG8.out.alloc _
             generalize (V8.alloc (Obj.cells #[.string su,.int .i64 iu,.int .i64 du,.string hu,.string mu,.int .i64 nu,.slice pbu yu.length cbu,.int .i64 qu] 42))=V9 at hb2 hb3 hgV9 ⊢
             generalize V8.heap.size=U9 at hb2 ⊢
             have d0:Atv ⟨T9,0,none⟩ (.string sz) V9:=hb3.atv 0 rfl
             have d1:Atv ⟨T9,1,none⟩ (.int .i64 iz) V9:=hb3.atv 1 rfl
             have d2:Atv ⟨T9,2,none⟩ (.int .i64 dz) V9:=hb3.atv 2 rfl
             have d3:Atv ⟨T9,3,none⟩ (.string hz) V9:=hb3.atv 3 rfl
             have d4:Atv ⟨T9,4,none⟩ (.string mz) V9:=hb3.atv 4 rfl
             have d5:Atv ⟨T9,5,none⟩ (.int .i64 nz) V9:=hb3.atv 5 rfl
             have d6:Atv ⟨T9,6,none⟩ (.slice pbz yz.length cbz) V9:=hb3.atv 6 rfl
             have d7:Atv ⟨T9,7,none⟩ (.int .i64 qz) V9:=hb3.atv 7 rfl
             have e0:Atv ⟨U9,0,none⟩ (.string su) V9:=hb2.atv 0 rfl
             have e1:Atv ⟨U9,1,none⟩ (.int .i64 iu) V9:=hb2.atv 1 rfl
             have e2:Atv ⟨U9,2,none⟩ (.int .i64 du) V9:=hb2.atv 2 rfl
             have e3:Atv ⟨U9,3,none⟩ (.string hu) V9:=hb2.atv 3 rfl
             have e4:Atv ⟨U9,4,none⟩ (.string mu) V9:=hb2.atv 4 rfl
             have e5:Atv ⟨U9,5,none⟩ (.int .i64 nu) V9:=hb2.atv 5 rfl
             have e6:Atv ⟨U9,6,none⟩ (.slice pbu yu.length cbu) V9:=hb2.atv 6 rfl
             have e7:Atv ⟨U9,7,none⟩ (.int .i64 qu) V9:=hb2.atv 7 rfl
             clear hb1 hb2 hb3 y5 cu0 cu1 cu2 cu3 cu4 cu5 cu6 cu7
             refine wp_postsL [some 132,some 133,some 134,some 135,some 136,some 137,some 138,some 139,some 140,some 141,some 142,some 143,some 144,some 145,some 146,some 147,some 148,some 149,some 150,some 151,some 152,some 153,some 154,some 155,some 156,some 157,some 158,some 159,some 160,some 161,some 162,some 163,some 164,some 165,some 166,some 167,some 168,some 169,some 170,some 171,some 172,some 173,some 174,some 175,some 176,some 177,some 178,some 179] (Zfg (Zfg (Zfg (Zfg (Zfc (Ztg (Zte (Zfa [])))))))) [fun v _=>v=.pointer (some ⟨T9,0,none⟩),fun v _=>v=.string sz,fun v _=>v=.pointer (some ⟨U9,0,none⟩),fun v _=>v=.string su,fun v _=>v=.bool (!decide ((sz)=(su))),fun v _=>v=.bool (!decide ((sz)=(su))),fun v _=>Zg ((!decide ((sz)=(su)))=false) (.pointer (some ⟨T9,1,none⟩)) v,fun v _=>Zg ((!decide ((sz)=(su)))=false) (.int .i64 (iz)) v,fun v _=>Zg ((!decide ((sz)=(su)))=false) (.pointer (some ⟨U9,1,none⟩)) v,fun v _=>Zg ((!decide ((sz)=(su)))=false) (.int .i64 (iu)) v,fun v _=>Zg ((!decide ((sz)=(su)))=false) (.bool ((iz) != (iu))) v,fun v _=>v=.bool ((!decide ((sz)=(su)))||((iz) != (iu))),fun v _=>v=.bool ((!decide ((sz)=(su)))||((iz) != (iu))),fun v _=>Zg (((!decide ((sz)=(su)))||((iz) != (iu)))=false) (.pointer (some ⟨T9,2,none⟩)) v,fun v _=>Zg (((!decide ((sz)=(su)))||((iz) != (iu)))=false) (.int .i64 (dz)) v,fun v _=>Zg (((!decide ((sz)=(su)))||((iz) != (iu)))=false) (.pointer (some ⟨U9,2,none⟩)) v,fun v _=>Zg (((!decide ((sz)=(su)))||((iz) != (iu)))=false) (.int .i64 (du)) v,fun v _=>Zg (((!decide ((sz)=(su)))||((iz) != (iu)))=false) (.bool ((dz) != (du))) v,fun v _=>v=.bool (((!decide ((sz)=(su)))||((iz) != (iu)))||((dz) != (du))),fun v _=>v=.bool (((!decide ((sz)=(su)))||((iz) != (iu)))||((dz) != (du))),fun v _=>Zg ((((!decide ((sz)=(su)))||((iz) != (iu)))||((dz) != (du)))=false) (.pointer (some ⟨T9,3,none⟩)) v,fun v _=>Zg ((((!decide ((sz)=(su)))||((iz) != (iu)))||((dz) != (du)))=false) (.string hz) v,fun v _=>Zg ((((!decide ((sz)=(su)))||((iz) != (iu)))||((dz) != (du)))=false) (.pointer (some ⟨U9,3,none⟩)) v,fun v _=>Zg ((((!decide ((sz)=(su)))||((iz) != (iu)))||((dz) != (du)))=false) (.string hu) v,fun v _=>Zg ((((!decide ((sz)=(su)))||((iz) != (iu)))||((dz) != (du)))=false) (.bool (!decide ((hz)=(hu)))) v,fun v _=>v=.bool ((((!decide ((sz)=(su)))||((iz) != (iu)))||((dz) != (du)))||(!decide ((hz)=(hu)))),fun v _=>v=.bool ((((!decide ((sz)=(su)))||((iz) != (iu)))||((dz) != (du)))||(!decide ((hz)=(hu)))),fun v _=>Zg (((((!decide ((sz)=(su)))||((iz) != (iu)))||((dz) != (du)))||(!decide ((hz)=(hu))))=false) (.pointer (some ⟨T9,4,none⟩)) v,fun v _=>Zg (((((!decide ((sz)=(su)))||((iz) != (iu)))||((dz) != (du)))||(!decide ((hz)=(hu))))=false) (.string mz) v,fun v _=>Zg (((((!decide ((sz)=(su)))||((iz) != (iu)))||((dz) != (du)))||(!decide ((hz)=(hu))))=false) (.pointer (some ⟨U9,4,none⟩)) v,fun v _=>Zg (((((!decide ((sz)=(su)))||((iz) != (iu)))||((dz) != (du)))||(!decide ((hz)=(hu))))=false) (.string mu) v,fun v _=>Zg (((((!decide ((sz)=(su)))||((iz) != (iu)))||((dz) != (du)))||(!decide ((hz)=(hu))))=false) (.bool (!decide ((mz)=(mu)))) v,fun v _=>v=.bool (((((!decide ((sz)=(su)))||((iz) != (iu)))||((dz) != (du)))||(!decide ((hz)=(hu))))||(!decide ((mz)=(mu)))),fun v _=>v=.bool (((((!decide ((sz)=(su)))||((iz) != (iu)))||((dz) != (du)))||(!decide ((hz)=(hu))))||(!decide ((mz)=(mu)))),fun v _=>Zg ((((((!decide ((sz)=(su)))||((iz) != (iu)))||((dz) != (du)))||(!decide ((hz)=(hu))))||(!decide ((mz)=(mu))))=false) (.pointer (some ⟨T9,5,none⟩)) v,fun v _=>Zg ((((((!decide ((sz)=(su)))||((iz) != (iu)))||((dz) != (du)))||(!decide ((hz)=(hu))))||(!decide ((mz)=(mu))))=false) (.int .i64 (nz)) v,fun v _=>Zg ((((((!decide ((sz)=(su)))||((iz) != (iu)))||((dz) != (du)))||(!decide ((hz)=(hu))))||(!decide ((mz)=(mu))))=false) (.pointer (some ⟨U9,5,none⟩)) v,fun v _=>Zg ((((((!decide ((sz)=(su)))||((iz) != (iu)))||((dz) != (du)))||(!decide ((hz)=(hu))))||(!decide ((mz)=(mu))))=false) (.int .i64 (nu)) v,fun v _=>Zg ((((((!decide ((sz)=(su)))||((iz) != (iu)))||((dz) != (du)))||(!decide ((hz)=(hu))))||(!decide ((mz)=(mu))))=false) (.bool ((nz) != (nu))) v,fun v _=>v=.bool ((((((!decide ((sz)=(su)))||((iz) != (iu)))||((dz) != (du)))||(!decide ((hz)=(hu))))||(!decide ((mz)=(mu))))||((nz) != (nu))),fun v _=>v=.bool ((((((!decide ((sz)=(su)))||((iz) != (iu)))||((dz) != (du)))||(!decide ((hz)=(hu))))||(!decide ((mz)=(mu))))||((nz) != (nu))),fun v _=>Zg (((((((!decide ((sz)=(su)))||((iz) != (iu)))||((dz) != (du)))||(!decide ((hz)=(hu))))||(!decide ((mz)=(mu))))||((nz) != (nu)))=false) (.pointer (some ⟨T9,6,none⟩)) v,fun v _=>Zg (((((((!decide ((sz)=(su)))||((iz) != (iu)))||((dz) != (du)))||(!decide ((hz)=(hu))))||(!decide ((mz)=(mu))))||((nz) != (nu)))=false) (.slice pbz (yz.length) (cbz)) v,fun v _=>Zg (((((((!decide ((sz)=(su)))||((iz) != (iu)))||((dz) != (du)))||(!decide ((hz)=(hu))))||(!decide ((mz)=(mu))))||((nz) != (nu)))=false) (.pointer (some ⟨U9,6,none⟩)) v,fun v _=>Zg (((((((!decide ((sz)=(su)))||((iz) != (iu)))||((dz) != (du)))||(!decide ((hz)=(hu))))||(!decide ((mz)=(mu))))||((nz) != (nu)))=false) (.slice pbu (yu.length) (cbu)) v,fun v _=>Zg (((((((!decide ((sz)=(su)))||((iz) != (iu)))||((dz) != (du)))||(!decide ((hz)=(hu))))||(!decide ((mz)=(mu))))||((nz) != (nu)))=false) (.bool (eqSs yz yu)) v,fun v _=>Zg (((((((!decide ((sz)=(su)))||((iz) != (iu)))||((dz) != (du)))||(!decide ((hz)=(hu))))||(!decide ((mz)=(mu))))||((nz) != (nu)))=false) (.bool (!(eqSs yz yu))) v,fun v _=>v=.bool (((((((!decide ((sz)=(su)))||((iz) != (iu)))||((dz) != (du)))||(!decide ((hz)=(hu))))||(!decide ((mz)=(mu))))||((nz) != (nu)))||(!(eqSs yz yu)))] (by kernel_rfl) rfl ?_ ⟨?_,?_,?_,?_,?_,?_,?_,?_,?_,?_,?_,?_,?_,?_,?_,?_,?_,?_,?_,?_,?_,?_,?_,?_,?_,?_,?_,?_,?_,?_,?_,?_,?_,?_,?_,?_,?_,?_,?_,?_,?_,?_,?_,?_,?_,?_,?_,?_,trivial⟩ ?_
             ·exact⟨Zi,Zi,Zi,Zi,Zi,Zi,Zi,Zi,Zi,Zi,Zi,Zi,Zi,Zi,Zi,Zi,Zi,Zi,Zi,Zi,Zi,Zi,Zi,Zi,Zi,Zi,Zi,Zi,Zi,Zi,Zi,Zi,Zi,Zi,Zi,Zi,Zi,Zi,Zi,Zi,Zi,Zi,Zi,Zi,Zi,Zi,Zi,Zi,trivial⟩
             ·intro u w hR hd;exact rn_fld_42_0 (ev rfl) Zr
             ·intro u w hR hd;exact rn_ld_9 (ev (hd.1 rfl)) (d0.kept hR) Zr
             ·intro u w hR hd;exact rn_fld_42_0 (ev rfl) Zr
             ·intro u w hR hd;exact rn_ld_9 (ev (hd.1 rfl)) (e0.kept hR) Zr
             ·intro u w hR hd;exact rn_nes_9 (ev (hd.1 rfl)) (ev (hd.2.1 rfl)) Zr
             ·intro u w hR hd;exact runs_mv (ev (hd.1 rfl)) Zr
             ·intro u w hR hd;exact⟨fun hg=>have hG:=Zh (hd.1 rfl) hg;rn_fld_42_1 (ev rfl) (Zs hG),Zn (hd.1 rfl)⟩
             ·intro u w hR hd;exact⟨fun hg=>have hG:=Zh (hd.2.1 rfl) hg;rn_ld_3 (ev ((hd.1 rfl).1 hG)) (d1.kept hR) (Zs hG),Zn (hd.2.1 rfl)⟩
             ·intro u w hR hd;exact⟨fun hg=>have hG:=Zh (hd.1 rfl) hg;rn_fld_42_1 (ev rfl) (Zs hG),Zn (hd.1 rfl)⟩
             ·intro u w hR hd;exact⟨fun hg=>have hG:=Zh (hd.2.1 rfl) hg;rn_ld_3 (ev ((hd.1 rfl).1 hG)) (e1.kept hR) (Zs hG),Zn (hd.2.1 rfl)⟩
             ·intro u w hR hd;exact⟨fun hg=>have hG:=Zh (hd.2.2.1 rfl) hg;rn_neq_3 (ev ((hd.1 rfl).1 hG)) (ev ((hd.2.1 rfl).1 hG)) (Zs hG),Zn (hd.2.2.1 rfl)⟩
             ·intro u w hR hd;exact runs_or2 (ev (hd.1 rfl)) (fun hb=>ev ((hd.2.1 rfl).1 hb)) Zr
             ·intro u w hR hd;exact runs_mv (ev (hd.1 rfl)) Zr
             ·intro u w hR hd;exact⟨fun hg=>have hG:=Zh (hd.1 rfl) hg;rn_fld_42_2 (ev rfl) (Zs hG),Zn (hd.1 rfl)⟩
             ·intro u w hR hd;exact⟨fun hg=>have hG:=Zh (hd.2.1 rfl) hg;rn_ld_3 (ev ((hd.1 rfl).1 hG)) (d2.kept hR) (Zs hG),Zn (hd.2.1 rfl)⟩
             ·intro u w hR hd;exact⟨fun hg=>have hG:=Zh (hd.1 rfl) hg;rn_fld_42_2 (ev rfl) (Zs hG),Zn (hd.1 rfl)⟩
             ·intro u w hR hd;exact⟨fun hg=>have hG:=Zh (hd.2.1 rfl) hg;rn_ld_3 (ev ((hd.1 rfl).1 hG)) (e2.kept hR) (Zs hG),Zn (hd.2.1 rfl)⟩
             ·intro u w hR hd;exact⟨fun hg=>have hG:=Zh (hd.2.2.1 rfl) hg;rn_neq_3 (ev ((hd.1 rfl).1 hG)) (ev ((hd.2.1 rfl).1 hG)) (Zs hG),Zn (hd.2.2.1 rfl)⟩
             ·intro u w hR hd;exact runs_or2 (ev (hd.1 rfl)) (fun hb=>ev ((hd.2.1 rfl).1 hb)) Zr
             ·intro u w hR hd;exact runs_mv (ev (hd.1 rfl)) Zr
             ·intro u w hR hd;exact⟨fun hg=>have hG:=Zh (hd.1 rfl) hg;rn_fld_42_3 (ev rfl) (Zs hG),Zn (hd.1 rfl)⟩
             ·intro u w hR hd;exact⟨fun hg=>have hG:=Zh (hd.2.1 rfl) hg;rn_ld_9 (ev ((hd.1 rfl).1 hG)) (d3.kept hR) (Zs hG),Zn (hd.2.1 rfl)⟩
             ·intro u w hR hd;exact⟨fun hg=>have hG:=Zh (hd.1 rfl) hg;rn_fld_42_3 (ev rfl) (Zs hG),Zn (hd.1 rfl)⟩
             ·intro u w hR hd;exact⟨fun hg=>have hG:=Zh (hd.2.1 rfl) hg;rn_ld_9 (ev ((hd.1 rfl).1 hG)) (e3.kept hR) (Zs hG),Zn (hd.2.1 rfl)⟩
             ·intro u w hR hd;exact⟨fun hg=>have hG:=Zh (hd.2.2.1 rfl) hg;rn_nes_9 (ev ((hd.1 rfl).1 hG)) (ev ((hd.2.1 rfl).1 hG)) (Zs hG),Zn (hd.2.2.1 rfl)⟩
             ·intro u w hR hd;exact runs_or2 (ev (hd.1 rfl)) (fun hb=>ev ((hd.2.1 rfl).1 hb)) Zr
             ·intro u w hR hd;exact runs_mv (ev (hd.1 rfl)) Zr
             ·intro u w hR hd;exact⟨fun hg=>have hG:=Zh (hd.1 rfl) hg;rn_fld_42_4 (ev rfl) (Zs hG),Zn (hd.1 rfl)⟩
             ·intro u w hR hd;exact⟨fun hg=>have hG:=Zh (hd.2.1 rfl) hg;rn_ld_9 (ev ((hd.1 rfl).1 hG)) (d4.kept hR) (Zs hG),Zn (hd.2.1 rfl)⟩
             ·intro u w hR hd;exact⟨fun hg=>have hG:=Zh (hd.1 rfl) hg;rn_fld_42_4 (ev rfl) (Zs hG),Zn (hd.1 rfl)⟩
             ·intro u w hR hd;exact⟨fun hg=>have hG:=Zh (hd.2.1 rfl) hg;rn_ld_9 (ev ((hd.1 rfl).1 hG)) (e4.kept hR) (Zs hG),Zn (hd.2.1 rfl)⟩
             ·intro u w hR hd;exact⟨fun hg=>have hG:=Zh (hd.2.2.1 rfl) hg;rn_nes_9 (ev ((hd.1 rfl).1 hG)) (ev ((hd.2.1 rfl).1 hG)) (Zs hG),Zn (hd.2.2.1 rfl)⟩
             ·intro u w hR hd;exact runs_or2 (ev (hd.1 rfl)) (fun hb=>ev ((hd.2.1 rfl).1 hb)) Zr
             ·intro u w hR hd;exact runs_mv (ev (hd.1 rfl)) Zr
             ·intro u w hR hd;exact⟨fun hg=>have hG:=Zh (hd.1 rfl) hg;rn_fld_42_5 (ev rfl) (Zs hG),Zn (hd.1 rfl)⟩
             ·intro u w hR hd;exact⟨fun hg=>have hG:=Zh (hd.2.1 rfl) hg;rn_ld_3 (ev ((hd.1 rfl).1 hG)) (d5.kept hR) (Zs hG),Zn (hd.2.1 rfl)⟩
             ·intro u w hR hd;exact⟨fun hg=>have hG:=Zh (hd.1 rfl) hg;rn_fld_42_5 (ev rfl) (Zs hG),Zn (hd.1 rfl)⟩
             ·intro u w hR hd;exact⟨fun hg=>have hG:=Zh (hd.2.1 rfl) hg;rn_ld_3 (ev ((hd.1 rfl).1 hG)) (e5.kept hR) (Zs hG),Zn (hd.2.1 rfl)⟩
             ·intro u w hR hd;exact⟨fun hg=>have hG:=Zh (hd.2.2.1 rfl) hg;rn_neq_3 (ev ((hd.1 rfl).1 hG)) (ev ((hd.2.1 rfl).1 hG)) (Zs hG),Zn (hd.2.2.1 rfl)⟩
             ·intro u w hR hd;exact runs_or2 (ev (hd.1 rfl)) (fun hb=>ev ((hd.2.1 rfl).1 hb)) Zr
             ·intro u w hR hd;exact runs_mv (ev (hd.1 rfl)) Zr
             ·intro u w hR hd;exact⟨fun hg=>have hG:=Zh (hd.1 rfl) hg;rn_fld_42_6 (ev rfl) (Zs hG),Zn (hd.1 rfl)⟩
             ·intro u w hR hd;exact⟨fun hg=>have hG:=Zh (hd.2.1 rfl) hg;rn_ld_40 (ev ((hd.1 rfl).1 hG)) (d6.kept hR) (Zs hG),Zn (hd.2.1 rfl)⟩
             ·intro u w hR hd;exact⟨fun hg=>have hG:=Zh (hd.1 rfl) hg;rn_fld_42_6 (ev rfl) (Zs hG),Zn (hd.1 rfl)⟩
             ·intro u w hR hd;exact⟨fun hg=>have hG:=Zh (hd.2.1 rfl) hg;rn_ld_40 (ev ((hd.1 rfl).1 hG)) (e6.kept hR) (Zs hG),Zn (hd.2.1 rfl)⟩
             ·intro u w hR hd;exact⟨fun hg=>have hG:=Zh (hd.2.2.1 rfl) hg;runs_c2 en_eqR (ev ((hd.1 rfl).1 hG)) (ev ((hd.2.1 rfl).1 hG)) (callp (fun _ e=>⟨fun _=>e,fun hn=>absurd hG hn⟩) (HEQ.out _ (hgV9.trans hR))),Zn (hd.2.2.1 rfl)⟩
             ·intro u w hR hd;exact⟨fun hg=>have hG:=Zh (hd.2.1 rfl) hg;runs_nt (ev ((hd.1 rfl).1 hG)) (Zs hG),Zn (hd.2.1 rfl)⟩
             ·intro u w hR hd;exact runs_or2 (ev (hd.1 rfl)) (fun hb=>ev ((hd.2.1 rfl).1 hb)) Zr
             ·intro u w4 hR hh
              have he:u 179=.bool (((((((!decide ((sz)=(su)))||((iz) != (iu)))||((dz) != (du)))||(!decide ((hz)=(hu))))||(!decide ((mz)=(mu))))||((nz) != (nu)))||(!(eqSs yz yu))):=hh 47 (by decide)
              have hE:(((((((!decide ((sz)=(su)))||((iz) != (iu)))||((dz) != (du)))||(!decide ((hz)=(hu))))||(!decide ((mz)=(mu))))||((nz) != (nu)))||(!(eqSs yz yu)))=!eqTa ⟨sz,iz,dz,hz,mz,nz,yz,qz⟩ ⟨su,iu,du,hu,mu,nu,yu,qu⟩:=by
               rw [eqTa,← eqSs_eqL]
               simp [bne,Bool.not_and]
              rw [hE] at he
              have HG4:=zh (hgV9.trans hR)
              simp only [mixA,mixL,zz9,zz0,he]
              clear hh he hE hR hgV9 d0 e0 d1 e1 d2 e2 d3 e3 d4 e4 d5 e5 d6 e6 d7 e7
              cases hx:eqTa ⟨sz,iz,dz,hz,mz,nz,yz,qz⟩ ⟨su,iu,du,hu,mu,nu,yu,qu⟩ with
              | false =>
                have HF2:=zh (HNO.out hx)
                go_wp2
                go_ret
                exact⟨ret_bool HF2.out.symm,HGW.out.trans HG4.out⟩
              | true =>
                have HXX:=zh hx
                clear HNO hx
                go_wp2
                go_roundg (tsa.length - (j+1))
                case measure=>have:=HLz.out;omega
                case rel=>exact⟨j+1,by go_num,HLz.out,rfl,zh (by rw [HTz.out,HTu.out,all2_snoc _ _ _ _ HTL.out,HI.out,HXX.out];rfl),HG4⟩
            ·obtain rfl:j=tsa.length:=by omega
             have HIA:Hid (true=b):=zh (by have h:=HI.out;rw [List.take_length,HLE.out,List.take_length] at h;have h2:=HM3.out;rw [h] at h2;exact h2)
             go_wp2
             go_ret
             exact⟨ret_bool HIA.out,HGW.out.trans HG.out⟩
end Go.Proofs.YtcknpcbkofgdoaaGreatDoor
