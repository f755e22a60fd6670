/-
  A READER OF TOKENS: programs (layers 16, 17). Nothing of the program stands here.
  THE REFERENCE OF LAYER 16: Strip, what it says.
  THE REFERENCE OF LAYER 16: Strip.
  LAYER 16 (ast), THE PROGRAM: its tables, the library's functions that it calls; isKeyword, isIdentifier, formedName, isSigned, isNumber.
  LAYER 16 (ast), THE PROGRAM: every, at its seven types.
  LAYER 16 (ast), THE PROGRAM: what its tests of parts of a program say.
  LAYER 16 (ast), THE PROGRAM: formedConst, formedGlobal, formedChannel.
  LAYER 16 (ast), THE PROGRAM: what formedExpr says.
-/
import Derived.Test.YtcknpcbkofgdoaaGreatDoorZcShort
import Derived.Test.YtcknpcbkofgdoaaGreatDoorZc02
import Derived.Test.YtcknpcbkofgdoaaGreatDoorZc01
import Derived.Test.YtcknpcbkofgdoaaGreatDoorZc00
import Derived.Deep.LoopGhost
import Derived.Deep.Cut
import Derived.Test.YtcknpcbkofgdoaaGreatDoorShelf
import Derived.Shelf.Strings.SlTrimAscii
import Derived.Deep.CutBlock
import Derived.Deep.MidRow
import Derived.Lib.IndexLaws
import Derived.Shelf.Abstract
namespace Go.Proofs.YtcknpcbkofgdoaaGreatDoor
open Go
open Go.Lib (decDigits)
set_option linter.unusedSimpArgs false
set_option linter.unusedVariables false
set_option maxRecDepth 8000
inductive Dc where
 | c (x:Cn)
 | g (x:Gl)
 | s (x:ByteArray)
 | o (x:ByteArray)
 | h (x:Cn)
 | t (x:Ta)
def dcls (P:Pg):List Dc:=P.cs.map .c++(P.gs.map .g++(P.ss.map .s++(P.os.map .o++(P.hs.map .h++P.ts.map .t))))
section
variable {T:Type}(Z:Kz T)
end
def stCn (x:Cn):Cn:=⟨x.s,x.v,0⟩
def stGl (x:Gl):Gl:=⟨x.s,x.l,x.i,0⟩
def stTa (x:Ta):Ta:=⟨x.s,x.p,x.d,x.c,x.m,x.w,stSs x.b,0⟩
def stD:Dc→Dc
 | .c x=>.c (stCn x)
 | .g x=>.g (stGl x)
 | .s x=>.s x
 | .o x=>.o x
 | .h x=>.h (stCn x)
 | .t x=>.t (stTa x)
section
variable {T:Type}{Z:Kz T}(hZ:Z.Good)
include hZ
end
end Go.Proofs.YtcknpcbkofgdoaaGreatDoor
namespace Go.Proofs.YtcknpcbkofgdoaaGreatDoor
open Go Go.RowKit Go.IntWalk
set_option linter.unusedSimpArgs false
set_option linter.unusedVariables false
set_option maxRecDepth 8000
theorem infoCnS:(Tryz.prog.info? 60).map (fun i=>(i.zero,i.size,i.bytes))=some (some (.agg #[.string ⟨#[]⟩,.int .i16 0,.int .i64 0]),3,32):=by kernel_rfl
theorem infoGlS:(Tryz.prog.info? 62).map (fun i=>(i.zero,i.size,i.bytes))=some (some (.agg #[.string ⟨#[]⟩,.int .i64 0,.int .i16 0,.int .i64 0]),4,40):=by kernel_rfl
theorem infoChS:(Tryz.prog.info? 64).map (fun i=>(i.zero,i.size,i.bytes))=some (some (.agg #[.string ⟨#[]⟩,.int .i64 0,.int .i64 0]),3,32):=by kernel_rfl
theorem infoTaS:(Tryz.prog.info? 42).map (fun i=>(i.zero,i.size,i.bytes))=some (some (.agg #[.string ⟨#[]⟩,.int .i64 0,.int .i64 0,.string ⟨#[]⟩,.string ⟨#[]⟩,.int .i64 0,.slice none 0 0,.int .i64 0]),8,104):=by kernel_rfl
def stP (P:Pg):Pg:=⟨P.cs.map stCn,P.gs.map stGl,P.ss,P.os,P.hs.map stCn,P.ts.map stTa⟩
theorem map_snoc {α β:Type}{f:α→β}{l:List α}{j:Nat}{x:α}(h:l.take (j+1)=l.take j++[x]):(l.take (j+1)).map f=(l.take j).map f++[f x]:=by
 rw [h,List.map_append];rfl
theorem Chg.belowT {S:Nat→Prop}{a b c:World}{N:Nat}(h:Chg a b S) (hN:a.heap.size=N) (h2:Below N b c):Chg a c S :=
 ⟨h2.os.trans h.os,h2.tape.trans h.tape,h2.output.trans h.output,Nat.le_trans h.size h2.size,fun k hk hs=>(h2.block k (hN ▸ hk)).trans (h.block k hk hs)⟩
theorem Grew.stc {a w:World}(h:Grew a w){S:Nat}(hS:a.heap.size≤S) (k:Nat) (v:Value):Grew a (w.setCell ⟨S,k,none⟩ v):=Below.setCell h (p:=⟨S,k,none⟩) hS _
def NewF {α:Type}(k:Nat) (enc:α→List Value) (S U:Nat) (p:Option Addr) (c:Nat) (l:List α) (w:World):Prop:=Rw k enc w p c l∧(0 < l.length→∀a,p=some a→S≤a.block∧a.block < w.heap.size∧a.block≠U)
theorem NewF.chgC {α:Type}{k:Nat}{enc:α→List Value}{S U:Nat}{p:Option Addr}{c:Nat}{l:List α}{w w':World}{C:Nat→Prop}(h:NewF k enc S U p c l w) (hc:Chg w w' C) (hC:∀b,S≤b→b≠U→¬ C b):NewF k enc S U p c l w':=by
 obtain ⟨h1,h2⟩:=h
 refine⟨?_,fun hn a ha=>?_⟩
 ·by_cases hn:0 < l.length
  ·exact h1.chg hc (fun a ha=>hC _ (h2 hn a ha).1 (h2 hn a ha).2.2)
  ·obtain rfl:=List.eq_nil_of_length_eq_zero (by omega:l.length=0)
   exact⟨RdL.nil _ _ _ _ _ h1.max,h1.bare⟩
 ·have h3:=h2 hn a ha
  exact⟨h3.1,Nat.lt_of_lt_of_le h3.2.1 hc.size,h3.2.2⟩
theorem NewF.chg {α:Type}{k:Nat}{enc:α→List Value}{S U:Nat}{p:Option Addr}{c:Nat}{l:List α}{w w':World}(h:NewF k enc S U p c l w) (hc:Chg w w' (fun b=>b=U)):NewF k enc S U p c l w':=h.chgC hc (fun b _ h e=>h e)
theorem NewF.grew {α:Type}{k:Nat}{enc:α→List Value}{S U:Nat}{p:Option Addr}{c:Nat}{l:List α}{w w':World}(h:NewF k enc S U p c l w) (hc:Grew w w'):NewF k enc S U p c l w':=h.chg (Chg.of_grew hc _)
theorem NewF.pg {α:Type}{k:Nat}{enc:α→List Value}{S U:Nat}{p:Option Addr}{c:Nat}{l:List α}{w:World}(h:NewF k enc S U p c l w){n:Nat}(hn:n=l.length){S':Nat}(hS:S'≤S):InB (Fresh S' w.heap.size) p n∧InN FlatAt k enc (Fresh S' w.heap.size) w p n c l:=by
 subst hn
 exact⟨fun hn a ha=>⟨Nat.le_trans hS (h.2 hn a ha).1,(h.2 hn a ha).2.1⟩,rfl,l,h.1,rfl⟩
theorem NewF.of_own {α:Type}{k:Nat}{enc:α→List Value}(E:Enc k enc){S U N:Nat}{e:TypeId}{B:Nat→Prop}{p:Option Addr}{n c:Nat}{l:List α}{w:World}(h:OwN FlatAt k enc N B w e p n c l) (hU:U < N) (hS:S≤U):NewF k enc S U p c l w:=by
 have hp:=h.place (hangsF E)
 obtain ⟨h1,L,h2,h3⟩:=h
 rw [FlatAt] at h3
 subst h3
 exact⟨(h2.rd E).2,fun _ a ha=>⟨by have:=(hp a ha).1;omega,(hp a ha).2,by have:=(hp a ha).1;omega⟩⟩
theorem row_ne {w:World}{p:Option Addr}{c U:Nat}{l:List ByteArray}(h:Rw 1 strc w p c l) (hb:Blk U [.slice none 0 0,.slice none 0 0,.slice none 0 0,.slice none 0 0,.slice none 0 0,.slice none 0 0] 28 w) (hn:0 < l.length):∀a,p=some a→a.block≠U:=by
 intro a ha he
 obtain ⟨b,o,rfl,hc⟩:=h.rd.cells hn
 obtain rfl:=Option.some.inj ha
 have h1:=hc 0 _ (List.getElem?_eq_getElem hn) 0 _ rfl
 rw [show b=U from he,hb.cell] at h1
 rcases ho:o+0 * 1+0 with _ | _ | _ | _ | _ | _ | k <;> rw [ho] at h1 <;> simp at h1
def StrN (S:Nat) (l:List ByteArray) (v:Value) (w:World):Prop:=∃p_ c_,v=.slice p_ l.length c_∧Rw 1 strc w p_ c_ l∧(0 < l.length→∀a,p_=some a→S≤a.block∧a.block < w.heap.size)
theorem StrN.grew {S:Nat}{l:List ByteArray}{v:Value}{w w':World}(h:StrN S l v w) (hg:Grew w w'):StrN S l v w':=by
 obtain ⟨p_,c_,h1,h2,h3⟩:=h
 exact⟨p_,c_,h1,h2.kept hg,fun hn a ha=>⟨(h3 hn a ha).1,Nat.lt_of_lt_of_le (h3 hn a ha).2 hg.sz⟩⟩
theorem tat1 {B:Nat→Prop}{w:World}{s h m:ByteArray}{i d n q:Int}{b:List Sm}{p:Option Addr}{c:Nat}(hz:s.size≤1048576∧h.size≤1048576∧m.size≤1048576) (hb:SL B w p c b):TsAt B w [⟨s,i,d,h,m,n,b,q⟩] [⟨s,i,d,h,m,n,p,b.length,c,q⟩]:=by
 rw [TsAt]
 exact⟨_,[],rfl,⟨p,c,rfl,hz,hb⟩,by rw [TsAt]⟩
theorem tl_own {wr:World}{S N:Nat}{p1:Option Addr}{n1 c1:Nat}{l:List Ta}(h:OwN TsAt 8 tdc N (Aside N wr.heap.size p1) wr 42 p1 n1 c1 l) (hS:S≤N):TL (Fresh S wr.heap.size) wr p1 c1 l:=by
 refine⟨fun _ a ha=>?_,?_⟩
 ·have:=h.place hangsT a ha
  exact⟨by omega,by omega⟩
 ·obtain ⟨_,L,h3,h4⟩:=h.mono hangsT (B':=Fresh S wr.heap.size) fun b hb=>⟨by have:=hb.1;omega,hb.2.1⟩
  exact⟨L,(h3.rd encTd).2,h4⟩
theorem PgIn.of_new {w:World}{S U:Nat}{P:Pg}{B:Nat→Prop}{w0:World}{cp0 gp0 sp0 op0 hp0 tp0:Option Addr}{cc0 gc0 sc0 oc0 hc0 tc0:Nat}(h0:PgIn B w0 P cp0 gp0 sp0 op0 hp0 tp0 cc0 gc0 sc0 oc0 hc0 tc0){cp gp sp op hp tp:Option Addr}{cc gc sc oc hc tc:Nat}
 (h1:NewF 3 cnc S U cp cc (P.cs.map stCn) w) (h2:NewF 4 glc S U gp gc (P.gs.map stGl) w) (h3:NewF 1 strc S U sp sc P.ss w) (h4:NewF 1 strc S U op oc P.os w) (h5:NewF 3 chc S U hp hc (P.hs.map stCn) w) (h6:TL (Fresh S w.heap.size) w tp tc (P.ts.map stTa)){S':Nat}(hS:S'≤S) :
 PgIn (Fresh S' w.heap.size) w (stP P) cp gp sp op hp tp cc gc sc oc hc tc:=by
 refine⟨h1.pg rfl hS,h2.pg rfl hS,h3.pg rfl hS,h4.pg rfl hS,h5.pg rfl hS,h6.keep (fun b hb=>⟨Nat.le_trans hS hb.1,hb.2⟩) (fun _ _ _=>rfl),fun c hc=>?_,fun c hc=>?_,h0.sz.2.2.1,h0.sz.2.2.2.1,fun c hc=>?_⟩
 ·obtain ⟨x,hx,rfl⟩:=List.mem_map.1 hc
  exact h0.sz.1 x hx
 ·obtain ⟨x,hx,rfl⟩:=List.mem_map.1 hc
  exact h0.sz.2.1 x hx
 ·obtain ⟨x,hx,rfl⟩:=List.mem_map.1 hc
  exact h0.sz.2.2.2.2 x hx
end Go.Proofs.YtcknpcbkofgdoaaGreatDoor
namespace Go.Proofs.YtcknpcbkofgdoaaGreatDoor
open Go Go.RowKit Go.IntWalk
set_option linter.unusedSimpArgs false
set_option linter.unusedVariables false
set_option maxRecDepth 8000
section
variable {dst:Option Tmp}{ty:TypeId}{pos:String}{after:Array Edge}{g:Option (Nat × Bool)}{a:Act}{w:World}{T:Value→World→Prop}
theorem rs_bld_28_23 {x2 x3:Nat}{v2_0p:Option Addr}{v2_0n v2_0c:Nat}{v3_0p:Option Addr}{v3_0n v3_0c:Nat}(hx2:a.eval (.tmp x2)=.slice v2_0p v2_0n v2_0c) (hx3:a.eval (.tmp x3)=.slice v3_0p v3_0n v3_0c) (h:T (.agg #[.slice none 0 0,.slice none 0 0,.slice v2_0p v2_0n v2_0c,.slice v3_0p v3_0n v3_0c,.slice none 0 0,.slice none 0 0]) w):Runs Tryz.prog ⟨dst,.build 28 #[(2,.tmp x2),(3,.tmp x3)],ty,pos,after,g⟩ a w T:=by
 rw [slot_eval,← slot_get] at hx2 hx3
 refine Runs.value (v:=.agg #[.slice none 0 0,.slice none 0 0,.slice v2_0p v2_0n v2_0c,.slice v3_0p v3_0n v3_0c,.slice none 0 0,.slice none 0 0]) (w':=w) ?_ h
 simp only [execOp]
 go_simp
theorem rs_fld_28_2 {x:Operand}{S o:Nat}(hx:a.eval x=.pointer (some ⟨S,o,none⟩)) (h:T (.pointer (some ⟨S,o+2,none⟩)) w):Runs Tryz.prog ⟨dst,.fieldAddr 28 x 2,ty,pos,after,g⟩ a w T:=by
 refine Runs.value (v:=.pointer (some ⟨S,o+2,none⟩)) (w':=w) ?_ h
 simp only [execOp,hx]
 go_simp
theorem rs_fld_28_3 {x:Operand}{S o:Nat}(hx:a.eval x=.pointer (some ⟨S,o,none⟩)) (h:T (.pointer (some ⟨S,o+3,none⟩)) w):Runs Tryz.prog ⟨dst,.fieldAddr 28 x 3,ty,pos,after,g⟩ a w T:=by
 refine Runs.value (v:=.pointer (some ⟨S,o+3,none⟩)) (w':=w) ?_ h
 simp only [execOp,hx]
 go_simp
theorem rs_ld_24 {x:Operand}{q:Addr}{v:Value}(hx:a.eval x=.pointer (some q)) (hc:w.cell? q=some v) (h:T v w):Runs Tryz.prog ⟨dst,.load 24 x,ty,pos,after,g⟩ a w T:=by
 refine Runs.value (v:=v) (w':=w) ?_ h
 simp only [execOp,hx]
 go_simp
theorem rs_alloc_28 (h:T (.pointer (some ⟨w.heap.size,0,none⟩)) (w.alloc (.cells #[.slice none 0 0,.slice none 0 0,.slice none 0 0,.slice none 0 0,.slice none 0 0,.slice none 0 0] 28))):Runs Tryz.prog ⟨dst,.alloc 28,ty,pos,after,g⟩ a w T:=by
 refine Runs.value (v:=.pointer (some ⟨w.heap.size,0,none⟩)) (w':=w.alloc (.cells #[.slice none 0 0,.slice none 0 0,.slice none 0 0,.slice none 0 0,.slice none 0 0,.slice none 0 0] 28)) ?_ h
 simp only [execOp]
 go_simp
theorem rs_st_28 {x y:Operand}{S o:Nat}{v0p:Option Addr}{v0n v0c:Nat}{v1p:Option Addr}{v1n v1c:Nat}{v2p:Option Addr}{v2n v2c:Nat}{v3p:Option Addr}{v3n v3c:Nat}{v4p:Option Addr}{v4n v4c:Nat}{v5p:Option Addr}{v5n v5c:Nat}{u0 u1 u2 u3 u4 u5:Value}(hx:a.eval x=.pointer (some ⟨S,o,none⟩)) (hy:a.eval y=.agg #[.slice v0p v0n v0c,.slice v1p v1n v1c,.slice v2p v2n v2c,.slice v3p v3n v3c,.slice v4p v4n v4c,.slice v5p v5n v5c]) (h0:w.cell? ⟨S,o,none⟩=some u0) (h1:w.cell? ⟨S,o+1,none⟩=some u1) (h2:w.cell? ⟨S,o+2,none⟩=some u2) (h3:w.cell? ⟨S,o+3,none⟩=some u3) (h4:w.cell? ⟨S,o+4,none⟩=some u4) (h5:w.cell? ⟨S,o+5,none⟩=some u5) (hf:∀i,w.frozen? ⟨S,i,none⟩=false) (h:T undef ((((((w.setCell ⟨S,o,none⟩ (.slice v0p v0n v0c)).setCell ⟨S,o+1,none⟩ (.slice v1p v1n v1c)).setCell ⟨S,o+2,none⟩ (.slice v2p v2n v2c)).setCell ⟨S,o+3,none⟩ (.slice v3p v3n v3c)).setCell ⟨S,o+4,none⟩ (.slice v4p v4n v4c)).setCell ⟨S,o+5,none⟩ (.slice v5p v5n v5c))):Runs Tryz.prog ⟨dst,.store 28 x y,ty,pos,after,g⟩ a w T:=by
 have hf0:=hf o
 have hf1:=hf (o+1)
 have hf2:=hf (o+2)
 have hf3:=hf (o+3)
 have hf4:=hf (o+4)
 have hf5:=hf (o+5)
 refine Runs.skip (w':=((((((w.setCell ⟨S,o,none⟩ (.slice v0p v0n v0c)).setCell ⟨S,o+1,none⟩ (.slice v1p v1n v1c)).setCell ⟨S,o+2,none⟩ (.slice v2p v2n v2c)).setCell ⟨S,o+3,none⟩ (.slice v3p v3n v3c)).setCell ⟨S,o+4,none⟩ (.slice v4p v4n v4c)).setCell ⟨S,o+5,none⟩ (.slice v5p v5n v5c))) ?_ h
 simp only [execOp,hx,hy]
 go_simp
theorem rs_ret_c28 {fn:Func}{p0:Tmp}(h:fn.results=#[.cell p0 28]){tmps:Array Value}{w:World}{S0:Nat}{v0_0 v0_1 v0_2 v0_3 v0_4 v0_5:Value}{R:Ending→World→Prop}(hp0:tmps.getD p0 undef=.pointer (some ⟨S0,0,none⟩)) (h0_0:w.cell? ⟨S0,0,none⟩=some v0_0) (h0_1:w.cell? ⟨S0,1,none⟩=some v0_1) (h0_2:w.cell? ⟨S0,2,none⟩=some v0_2) (h0_3:w.cell? ⟨S0,3,none⟩=some v0_3) (h0_4:w.cell? ⟨S0,4,none⟩=some v0_4) (h0_5:w.cell? ⟨S0,5,none⟩=some v0_5) (hR:R (.returned (.agg #[v0_0,v0_1,v0_2,v0_3,v0_4,v0_5])) w):bodyPost Tryz.prog fn R .ret { tmps:=tmps,defers:=[] } w:=by
 refine bodyPost_ret (v:=.agg #[v0_0,v0_1,v0_2,v0_3,v0_4,v0_5]) ?_ rfl hR
 rw [Array.getD_eq_getD_getElem?] at hp0
 simp [results,h,hp0,h0_0,h0_1,h0_2,h0_3,h0_4,h0_5,go_sem]
end
set_option maxHeartbeats 16000000 in
theorem stripP_any (P:Pg) (B:Nat→Prop) (w:World) (cp gp sp op hp tp:Option Addr) (cc gc sc oc hc tc:Nat) (hpg:PgIn B w P cp gp sp op hp tp cc gc sc oc hc tc) (hn:P.cs.length≤1048576∧P.gs.length≤1048576∧P.ss.length≤1048576∧P.os.length≤1048576∧P.hs.length≤1048576∧P.ts.length≤1048576∧zT P.ts≤1048576) :
 Calls Tryz.prog 36 #[pgv P cp gp sp op hp tp cc gc sc oc hc tc] w fun e w'=>∃cp' gp' sp' op' hp' tp' cc' gc' sc' oc' hc' tc',e=.returned (.agg #[.slice cp' P.cs.length cc',.slice gp' P.gs.length gc',.slice sp' P.ss.length sc',.slice op' P.os.length oc',.slice hp' P.hs.length hc',.slice tp' P.ts.length tc'])∧PgIn (Fresh w.heap.size w'.heap.size) w' (stP P) cp' gp' sp' op' hp' tp' cc' gc' sc' oc' hc' tc'∧Grew w w':=by
 obtain ⟨hcaps,hmaxs⟩:=hpg.caps
 have HPG:=Lib.hid hpg
 obtain ⟨cs,gs,ss,os,hs,ts⟩:=P
 have HXc:Hid (InN FlatAt 3 cnc B w cp cs.length cc cs):=Lib.hid hpg.cs.2
 have HXg:Hid (InN FlatAt 4 glc B w gp gs.length gc gs):=Lib.hid hpg.gs.2
 have HXh:Hid (InN FlatAt 3 chc B w hp hs.length hc hs):=Lib.hid hpg.hs.2
 have HXt:Hid (TL B w tp tc ts):=Lib.hid hpg.ts
 have HSS:Hid (Rw 1 strc w sp sc ss):=Lib.hid (by obtain ⟨_,L,h1,h2⟩:=hpg.ss.2;rw [FlatAt] at h2;subst h2;exact h1)
 have HOS:Hid (Rw 1 strc w op oc os):=Lib.hid (by obtain ⟨_,L,h1,h2⟩:=hpg.os.2;rw [FlatAt] at h2;subst h2;exact h1)
 have HZc:Hid (∀c ∈ cs,c.s.size≤1048576∧c.v≤32767):=Lib.hid hpg.sz.1
 have HZg:Hid (∀c ∈ gs,c.s.size≤1048576∧c.i≤32767):=Lib.hid hpg.sz.2.1
 have HZh:Hid (∀c ∈ hs,c.s.size≤1048576):=Lib.hid hpg.sz.2.2.2.2
 have HLS:Hid (cs.length≤1048576∧gs.length≤1048576∧ss.length≤1048576∧os.length≤1048576∧hs.length≤1048576∧ts.length≤1048576∧zT ts≤1048576):=Lib.hid hn
 dsimp only at hcaps
 show Calls Tryz.prog 36 #[.agg #[.slice cp cs.length cc,.slice gp gs.length gc,.slice sp ss.length sc,.slice op os.length oc,.slice hp hs.length hc,.slice tp ts.length tc]] w fun e w'=>∃cp' gp' sp' op' hp' tp' cc' gc' sc' oc' hc' tc',e=.returned (.agg #[.slice cp' (⟨cs,gs,ss,os,hs,ts⟩:Pg).cs.length cc',.slice gp' (⟨cs,gs,ss,os,hs,ts⟩:Pg).gs.length gc',.slice sp' (⟨cs,gs,ss,os,hs,ts⟩:Pg).ss.length sc',.slice op' (⟨cs,gs,ss,os,hs,ts⟩:Pg).os.length oc',.slice hp' (⟨cs,gs,ss,os,hs,ts⟩:Pg).hs.length hc',.slice tp' (⟨cs,gs,ss,os,hs,ts⟩:Pg).ts.length tc'])∧PgIn (Fresh w.heap.size w'.heap.size) w' (stP (⟨cs,gs,ss,os,hs,ts⟩:Pg)) cp' gp' sp' op' hp' tp' cc' gc' sc' oc' hc' tc'∧Grew w w'
 clear hpg hn
 go_enter Tryz.func36,Tryz.ntmps36
 go_upto_region 1 with fail
 have hb1:Blk w.heap.size [.slice cp cs.length cc,.slice gp gs.length gc,.slice sp ss.length sc,.slice op os.length oc,.slice hp hs.length hc,.slice tp ts.length tc] 28 ((w.alloc (Obj.cells #[.slice cp cs.length cc,.slice gp gs.length gc,.slice sp ss.length sc,.slice op os.length oc,.slice hp hs.length hc,.slice tp ts.length tc] 28)).alloc (Obj.cells #[.slice none 0 0,.slice none 0 0,.slice none 0 0,.slice none 0 0,.slice none 0 0,.slice none 0 0] 28)):=(Blk.new w _ _).grew ((Grew.refl _).alloc _)
 have hb2:Blk (w.heap.size+1) [.slice none 0 0,.slice none 0 0,.slice none 0 0,.slice none 0 0,.slice none 0 0,.slice none 0 0] 28 ((w.alloc (Obj.cells #[.slice cp cs.length cc,.slice gp gs.length gc,.slice sp ss.length sc,.slice op os.length oc,.slice hp hs.length hc,.slice tp ts.length tc] 28)).alloc (Obj.cells #[.slice none 0 0,.slice none 0 0,.slice none 0 0,.slice none 0 0,.slice none 0 0,.slice none 0 0] 28)):=by
  have h:=Blk.new (w.alloc (Obj.cells #[.slice cp cs.length cc,.slice gp gs.length gc,.slice sp ss.length sc,.slice op os.length oc,.slice hp hs.length hc,.slice tp ts.length tc] 28)) [.slice none 0 0,.slice none 0 0,.slice none 0 0,.slice none 0 0,.slice none 0 0,.slice none 0 0] 28
  rw [alloc_sz] at h
  exact h
 have hg1:Grew w ((w.alloc (Obj.cells #[.slice cp cs.length cc,.slice gp gs.length gc,.slice sp ss.length sc,.slice op os.length oc,.slice hp hs.length hc,.slice tp ts.length tc] 28)).alloc (Obj.cells #[.slice none 0 0,.slice none 0 0,.slice none 0 0,.slice none 0 0,.slice none 0 0,.slice none 0 0] 28)):=((Grew.refl w).alloc _).alloc _
 have hs1:((w.alloc (Obj.cells #[.slice cp cs.length cc,.slice gp gs.length gc,.slice sp ss.length sc,.slice op os.length oc,.slice hp hs.length hc,.slice tp ts.length tc] 28)).alloc (Obj.cells #[.slice none 0 0,.slice none 0 0,.slice none 0 0,.slice none 0 0,.slice none 0 0,.slice none 0 0] 28)).heap.size=w.heap.size+2:=by rw [alloc_sz,alloc_sz]
 obtain ⟨S,hS⟩:∃S,w.heap.size=S:=⟨_,rfl⟩
 have HS0:=Lib.hid hS
 rw [hS] at hb1 hb2 hs1 ⊢
 clear hS
 generalize ((w.alloc (Obj.cells #[.slice cp cs.length cc,.slice gp gs.length gc,.slice sp ss.length sc,.slice op os.length oc,.slice hp hs.length hc,.slice tp ts.length tc] 28)).alloc (Obj.cells #[.slice none 0 0,.slice none 0 0,.slice none 0 0,.slice none 0 0,.slice none 0 0,.slice none 0 0] 28))=V1 at hb1 hb2 hg1 hs1 ⊢
 have HBA:=Lib.hid hb1
 have HBZ:=Lib.hid hb2
 have HG1:=Lib.hid hg1
 have HW1:=Lib.hid hs1
 have hba:=hb1.grew (Grew.refl V1).drw
 have d2:Atv ⟨S,2,none⟩ (.slice sp ss.length sc) V1.drew:=hba.atv 2 rfl
 have d3:Atv ⟨S,3,none⟩ (.slice op os.length oc) V1.drew:=hba.atv 3 rfl
 clear hb1 hb2 hg1 hs1 hba
 refine wp_grew_tail 10 [some 12,some 13,some 14,some 15,some 16,some 17,some 18,some 19,some 20,some 3] [Zf,Zf,Zf,Zt,Zf,Zf,Zf,Zf,Zf,Zf,Zf,Zf,Zt,Zt,Zt,Zt,Zt,Zt,Zt,Zt,Zt,Zf,Zf,Zf,Zf,Zf,Zf,Zf,Zf,Zf,Zf,Zf,Zf,Zf,Zf,Zf,Zf,Zf,Zf,Zf,Zf,Zf,Zf,Zf,Zf,Zf,Zf,Zf,Zf,Zf,Zf,Zf,Zf,Zf,Zf,Zf,Zf,Zf,Zf,Zf,Zf,Zf,Zf,Zf,Zf,Zf,Zf,Zf,Zf,Zf,Zf,Zf,Zf,Zf,Zf,Zf,Zf,Zf,Zf,Zf,Zf,Zf,Zf,Zf,Zf,Zf] [fun v _=>∃q_,v=.slice (some ⟨q_,0,none⟩) 0 0,fun v _=>v=.pointer (some ⟨S,2,none⟩),fun v _=>v=.slice sp ss.length sc,fun v w=>StrN (S+2) ss v w,fun v _=>∃q_,v=.slice (some ⟨q_,0,none⟩) 0 0,fun v _=>v=.pointer (some ⟨S,3,none⟩),fun v _=>v=.slice op os.length oc,fun v w=>StrN (S+2) os v w,fun v w=>∃a b,v=.agg #[.slice none 0 0,.slice none 0 0,a,b,.slice none 0 0,.slice none 0 0]∧StrN (S+2) ss a w∧StrN (S+2) os b w,fun v w=>∃U,v=.pointer (some ⟨U,0,none⟩)∧S+2≤U∧Blk U [.slice none 0 0,.slice none 0 0,.slice none 0 0,.slice none 0 0,.slice none 0 0,.slice none 0 0] 28 w] (by kernel_rfl) (by kernel_rfl) (by kernel_rfl) rfl ?_ ⟨?_,?_,?_,?_,?_,?_,?_,?_,?_,?_,trivial⟩ ?_
 ·exact⟨Zi,Zi,Zi,fun _ _ _ hg h=>h.grew hg,Zi,Zi,Zi,fun _ _ _ hg h=>h.grew hg,fun _ _ _ hg ⟨a,b,h1,h2,h3⟩=>⟨a,b,h1,h2.grew hg,h3.grew hg⟩,fun _ _ _ hg ⟨U,h1,h2,h3⟩=>⟨U,h1,h2,h3.grew hg⟩,trivial⟩
 ·intro u w hR hd;exact runs_bs0s ⟨(Grew.refl w).alloc _,_,rfl⟩
 ·intro u w hR hd;exact rs_fld_28_2 (ev rfl) Zr
 ·intro u w hR hd;exact rs_ld_24 (ev (hd.1 rfl)) (d2.kept hR) Zr
 ·intro u w hR hd
  obtain ⟨q_,hq_⟩:=hd.1 rfl
  exact runs_append_lit0 encStr 9 (.string ⟨#[]⟩) 16 Tryz.underlying24 infoStr rfl q_ (ev hq_) sp ss.length sc ss (ev (hd.2.1 rfl)) rfl (HSS.out.kept (HG1.out.trans ((Grew.refl _).drw.trans hR))) (by have:=HLS.out;omega) (by have:=HLS.out;omega) (fun p_ c_ w_ h1 h2 h3=>⟨h2,p_,c_,rfl,h1,fun hn a ha=>⟨by have h4:=(h3 hn a ha).1;have h5:=hR.sz;have h6:=HW1.out;have h7:V1.drew.heap.size=V1.heap.size:=rfl;omega,(h3 hn a ha).2⟩⟩)
 ·intro u w hR hd;exact runs_bs0s ⟨(Grew.refl w).alloc _,_,rfl⟩
 ·intro u w hR hd;exact rs_fld_28_3 (ev rfl) Zr
 ·intro u w hR hd;exact rs_ld_24 (ev (hd.1 rfl)) (d3.kept hR) Zr
 ·intro u w hR hd
  obtain ⟨q_,hq_⟩:=hd.1 rfl
  exact runs_append_lit0 encStr 9 (.string ⟨#[]⟩) 16 Tryz.underlying24 infoStr rfl q_ (ev hq_) op os.length oc os (ev (hd.2.1 rfl)) rfl (HOS.out.kept (HG1.out.trans ((Grew.refl _).drw.trans hR))) (by have:=HLS.out;omega) (by have:=HLS.out;omega) (fun p_ c_ w_ h1 h2 h3=>⟨h2,p_,c_,rfl,h1,fun hn a ha=>⟨by have h4:=(h3 hn a ha).1;have h5:=hR.sz;have h6:=HW1.out;have h7:V1.drew.heap.size=V1.heap.size:=rfl;omega,(h3 hn a ha).2⟩⟩)
 ·intro u w hR hd
  obtain ⟨pa_,ca_,ha_,ra_⟩:=hd.1 rfl
  obtain ⟨pb_,cb_,hb_,rb_⟩:=hd.2.1 rfl
  exact rs_bld_28_23 (ev ha_) (ev hb_) ⟨Grew.refl _,_,_,rfl,⟨pa_,ca_,rfl,ra_⟩,⟨pb_,cb_,rfl,rb_⟩⟩
 ·intro u w hR hd;exact rs_alloc_28 ⟨(Grew.refl w).alloc _,_,rfl,by have h1:=hR.sz;have h2:=HW1.out;have h7:V1.drew.heap.size=V1.heap.size:=rfl;omega,Blk.new w _ _⟩
 ·intro u W hR hh
  obtain ⟨U,hU,hUS,hUb⟩:=hh 9 (by decide)
  obtain ⟨va_,vb_,h20,⟨sq,sk,rfl,hs1,hs2⟩,⟨oq,ok,rfl,ho1,ho2⟩⟩:=hh 8 (by decide)
  refine wpAny_one (i:=10) none (by kernel_rfl) rfl rfl rfl (rs_st_28 (S:=U) (o:=0) (ev hU) (ev h20) (hUb.atv 0 rfl) (hUb.atv 1 rfl) (hUb.atv 2 rfl) (hUb.atv 3 rfl) (hUb.atv 4 rfl) (hUb.atv 5 rfl) hUb.free ?_)
  refine wpAny_done (by kernel_rfl) ?_ _
  have hGW:Grew w W:=HG1.out.trans ((Grew.refl _).drw.trans hR)
  have hn1:=fun hn=>row_ne hs1 hUb hn
  have hn2:=fun hn=>row_ne ho1 hUb hn
  have hB3:=(((((hUb.set 0 (.slice none 0 0)).set 1 (.slice none 0 0)).set 2 (.slice sq ss.length sk)).set 3 (.slice oq os.length ok)).set 4 (.slice none 0 0)).set 5 (.slice none 0 0)
  simp only [zz6,zz5] at hB3
  have hC3:=(((((Chg.refl W (fun k=>k=U)).then_set ⟨U,0,none⟩ (.slice none 0 0) rfl).then_set ⟨U,1,none⟩ (.slice none 0 0) rfl).then_set ⟨U,2,none⟩ (.slice sq ss.length sk) rfl).then_set ⟨U,3,none⟩ (.slice oq os.length ok) rfl).then_set ⟨U,4,none⟩ (.slice none 0 0) rfl |>.then_set ⟨U,5,none⟩ (.slice none 0 0) rfl
  have HBA1:=HBA.out.grew ((Grew.refl _).drw.trans hR)
  have HBZ1:=HBZ.out.grew ((Grew.refl _).drw.trans hR)
  simp only [Act.put,mixA,mixL,zz9,zz0,zz4,zz6,zz5]
  have h3':u 3=.pointer (some ⟨U,0,none⟩):=hU
  rw [h3']
  generalize hW:World.setCell (World.setCell (World.setCell (World.setCell (World.setCell (World.setCell W _ _) _ _) _ _) _ _) _ _) _ _=W0
  replace hB3:Blk U [.slice none 0 0,.slice none 0 0,.slice sq ss.length sk,.slice oq os.length ok,.slice none 0 0,.slice none 0 0] 28 W0:=hW ▸ hB3
  replace hC3:Chg W W0 (fun k=>k=U):=hW ▸ hC3
  clear hW h3' h20 hh
  have HUS:Hid (S+2≤U):=Lib.hid hUS
  have HGR:Hid (Grew w W0):=Lib.hid (grew_lift hGW hC3 (fun k hk=>by have:=HS0.out;omega))
  have HSN:Hid (NewF 1 strc (S+2) U sq sk ss W0):=Lib.hid ((show NewF 1 strc (S+2) U sq sk ss W from ⟨hs1,fun hn a ha=>⟨(hs2 hn a ha).1,(hs2 hn a ha).2,hn1 hn a ha⟩⟩).chg hC3)
  have HON:Hid (NewF 1 strc (S+2) U oq ok os W0):=Lib.hid ((show NewF 1 strc (S+2) U oq ok os W from ⟨ho1,fun hn a ha=>⟨(ho2 hn a ha).1,(ho2 hn a ha).2,hn2 hn a ha⟩⟩).chg hC3)
  have HBU:Hid (Blk U [.slice none 0 0,.slice none 0 0,.slice sq ss.length sk,.slice oq os.length ok,.slice none 0 0,.slice none 0 0] 28 W0):=Lib.hid hB3
  replace HBA:Hid (Blk S [.slice cp cs.length cc,.slice gp gs.length gc,.slice sp ss.length sc,.slice op os.length oc,.slice hp hs.length hc,.slice tp ts.length tc] 28 W0):=Lib.hid (HBA1.chg hC3 (fun e=>by omega))
  replace HBZ:Hid (Blk (S+1) [.slice none 0 0,.slice none 0 0,.slice none 0 0,.slice none 0 0,.slice none 0 0,.slice none 0 0] 28 W0):=Lib.hid (HBZ1.chg hC3 (fun e=>by omega))
  have hcq:=And.intro hs1.cap (And.intro hs1.max (And.intro ho1.cap ho1.max))
  clear hB3 hC3 HBA1 HBZ1 hUb hU hUS hs1 hs2 ho1 ho2 hn1 hn2 hR hGW HG1 HW1
  obtain ⟨N0,hN0⟩:∃N,W0.heap.size=N:=⟨_,rfl⟩
  have HN0:=Lib.hid hN0
  have HUN0:Hid (U < N0):=Lib.hid (hN0 ▸ HBU.out.lt)
  clear hN0
  have a0:=HBA.out.cell 0
  have a1:=HBA.out.cell 1
  have a2:=HBA.out.cell 2
  have a3:=HBA.out.cell 3
  have a4:=HBA.out.cell 4
  have a5:=HBA.out.cell 5
  simp only [zz7,zz8] at a0 a1 a2 a3 a4 a5
  go_wp2
  go_loopg [5,24] cs.length (fun gg v5 iv wr=>∃(j:Nat) (cq:Option Addr) (n1 ck:Nat),iv=.int .i64 (j:Int)∧j≤cs.length∧gg=cs.length - j∧Hid (OwN FlatAt 3 cnc N0 (fun _=>False) wr 60 cq n1 ck ((cs.take j).map stCn))∧Hid (Blk U [.slice cq n1 ck,.slice none 0 0,.slice sq ss.length sk,.slice oq os.length ok,.slice none 0 0,.slice none 0 0] 28 wr)∧Hid (Chg W0 wr (fun k=>k=U)))
  case atStart=>exact⟨0,none,0,0,rfl,Nat.zero_le _,rfl,Lib.hid (OwN.nil (hangsF encCn)),HBU,Lib.hid (Chg.refl _ _)⟩
  case round =>
   obtain ⟨j,cq,n1,ck,rfl,hj,rfl,HR,HB,HC⟩:=hrel
   have HG:Hid (Grew w wr):=Lib.hid (grew_lift HGR.out HC.out (fun k hk=>by have:=HUS.out;have:=HS0.out;omega))
   clear a0 a1 a2 a3 a4 a5
   by_cases hlt:j < cs.length
   ·have HNL:Hid (n1≤1048576):=Lib.hid (by have h1:=HR.out.len;rw [List.length_map,List.length_take] at h1;have:=HLS.out;omega)
    obtain ⟨b1,o1,rfl,hcc⟩:=HXc.out.getF j hlt
    have hm:=List.getElem_mem hlt
    have htk:=List.take_succ_eq_append_getElem hlt
    have HLT:=Lib.hid (Nat.succ_le_of_lt hlt)
    have hsz0:=HZc.out _ hm
    generalize cs[j]=x at hcc hm htk hsz0
    obtain ⟨s,z,q⟩:=x
    replace hcc:∀i_ u_,([.string s,.int .i16 z,.int .i64 q]:List Value)[i_]?=some u_→wr.cell? ⟨b1,o1+j * 3+i_,none⟩=some u_:=fun i_ u_ h_=>Atv.kept (hcc i_ u_ h_) HG.out
    have e0:wr.cell? ⟨b1,o1+j * 3,none⟩=some (.string s):=by simpa using hcc 0 _ rfl
    have e1:wr.cell? ⟨b1,o1+j * 3+1,none⟩=some (.int .i16 z):=hcc 1 _ rfl
    have e2:wr.cell? ⟨b1,o1+j * 3+2,none⟩=some (.int .i64 q):=hcc 2 _ rfl
    have HTK:=Lib.hid htk
    have HSZ_:Hid (s.size≤1048576):=Lib.hid (by first | exact hsz0.1 | exact hsz0)
    clear hcc hm htk hsz0
    go_upto_region 6 with fail
    have hbx:Blk wr.heap.size [.string s,.int .i16 z,.int .i64 0] 60 (wr.alloc (Obj.cells #[.string s,.int .i16 z,.int .i64 0] 60)):=Blk.new wr _ _
    have hgx:Grew wr (wr.alloc (Obj.cells #[.string s,.int .i16 z,.int .i64 0] 60)):=(Grew.refl wr).alloc _
    generalize (wr.alloc (Obj.cells #[.string s,.int .i16 z,.int .i64 0] 60))=W6 at hbx hgx ⊢
    generalize wr.heap.size=b5 at hbx ⊢
    clear e0 e1 e2
    have hbu6:=HB.out.grew hgx
    have x0:=hbx.cell 0
    have x1:=hbx.cell 1
    have x2:=hbx.cell 2
    have u0:=hbu6.cell 0
    have u1:=hbu6.cell 1
    have u2:=hbu6.cell 2
    have u3:=hbu6.cell 3
    have u4:=hbu6.cell 4
    have u5:=hbu6.cell 5
    simp only [zz7,zz8] at x0 x1 x2 u0 u1 u2 u3 u4 u5
    have HGX:=Lib.hid hgx
    clear hbu6 hbx hgx
    go_wp2_with (at_builtin;refine wpList_append_own (hangsF encCn) rfl _ _ 22 rfl N0 60 (.agg #[.string ⟨#[]⟩,.int .i16 0,.int .i64 0]) 32 Tryz.underlying22 infoCnS rfl cq n1 ck ((cs.take j).map stCn) rfl (B:=(fun _=>False)) (HR.out.kept (hangsF encCn) (HGX.out.alloc _)) _ 1 1 [⟨s,z,0⟩] rfl (InN.made (hangsF encCn) _ _ ⟨s,z,0⟩ _ _ _ _ rfl rfl rfl) (fun _ h=>h.elim) (by have:=HNL.out;omega) (by have:=HNL.out;omega) (by have h1:=HGX.out.sz;have h2:=HC.out.size;have h3:=HN0.out;rw [alloc_sz];omega) ?_;intro p3 c3 w3 ho3 hp3;have HO3:=Lib.hid ho3;have HP3:=Lib.hid hp3;have HBU3:=Lib.hid (hp3.blk (HB.out.grew (HGX.out.alloc _)) (fun a ha=>by have h1:=(HR.out.place (hangsF encCn) a ha).1;have h2:=HUN0.out;omega));have z0:=HBU3.out.cell 0;have z1:=HBU3.out.cell 1;have z2:=HBU3.out.cell 2;have z3:=HBU3.out.cell 3;have z4:=HBU3.out.cell 4;have z5:=HBU3.out.cell 5;have zf:=HBU3.out.free 0;simp only [zz7,zz8] at z0 z1 z2 z3 z4 z5;clear ho3 hp3)
    have HC3:Hid (Chg W0 w3 (fun k=>k=U)):=Lib.hid ((HC.out.trans (Chg.of_grew (HGX.out.alloc _) _)).belowT HN0.out HP3.out.below)
    go_roundg (cs.length - (j+1))
    case measure=>have:=HLT.out;omega
    case rel=>exact⟨j+1,p3,n1+1,c3,by go_num,HLT.out,rfl,Lib.hid (by
     rw [map_snoc HTK.out]
     have h1:=HO3.out.chg (hangsF encCn) (Chg.set w3 ⟨U,0,none⟩ (.slice p3 (n1+1) c3)) (fun a ha e=>by have h1:=(HO3.out.place (hangsF encCn) a ha).1;have h2:=HUN0.out;have h3:a.block=U:=e;omega) (fun b h=>h.elim)
     exact h1),Lib.hid (HBU3.out.set 0 _),Lib.hid (HC3.out.then_set ⟨U,0,none⟩ _ rfl)⟩
   ·obtain rfl:j=cs.length:=by omega
    rw [List.take_length] at HR
    have hn1:n1=cs.length:=by have h1:=HR.out.len;rwa [List.length_map] at h1
    subst hn1
    have HGR:=HG
    have HBA:=Lib.hid (HBA.out.chg HC.out (fun e=>by have:=HUS.out;omega))
    have HBZ:=Lib.hid (HBZ.out.chg HC.out (fun e=>by have:=HUS.out;omega))
    have HSN:=Lib.hid (HSN.out.chg HC.out)
    have HON:=Lib.hid (HON.out.chg HC.out)
    have HNW0:=Lib.hid (NewF.of_own encCn (S:=S+2) HR.out HUN0.out HUS.out)
    have hcw0:=And.intro HNW0.out.1.cap HNW0.out.1.max
    rw [List.length_map] at hcw0
    have HBU:=HB
    clear HC HR HB HG HN0
    rename World=>W1
    obtain ⟨N1,hN1⟩:∃N,W1.heap.size=N:=⟨_,rfl⟩
    have HN1:=Lib.hid hN1
    have HUN1:Hid (U < N1):=Lib.hid (hN1 ▸ HBU.out.lt)
    clear hN1
    have a0:=HBA.out.cell 0
    have a1:=HBA.out.cell 1
    have a2:=HBA.out.cell 2
    have a3:=HBA.out.cell 3
    have a4:=HBA.out.cell 4
    have a5:=HBA.out.cell 5
    simp only [zz7,zz8] at a0 a1 a2 a3 a4 a5
    go_wp2
    go_loopg [7,39] gs.length (fun gg v5 iv wr=>∃(j:Nat) (gq:Option Addr) (n1 gk:Nat),iv=.int .i64 (j:Int)∧j≤gs.length∧gg=gs.length - j∧Hid (OwN FlatAt 4 glc N1 (fun _=>False) wr 62 gq n1 gk ((gs.take j).map stGl))∧Hid (Blk U [.slice cq cs.length ck,.slice gq n1 gk,.slice sq ss.length sk,.slice oq os.length ok,.slice none 0 0,.slice none 0 0] 28 wr)∧Hid (Chg W1 wr (fun k=>k=U)))
    case atStart=>exact⟨0,none,0,0,rfl,Nat.zero_le _,rfl,Lib.hid (OwN.nil (hangsF encGl)),HBU,Lib.hid (Chg.refl _ _)⟩
    case round =>
     obtain ⟨j,gq,n1,gk,rfl,hj,rfl,HR,HB,HC⟩:=hrel
     have HG:Hid (Grew w wr):=Lib.hid (grew_lift HGR.out HC.out (fun k hk=>by have:=HUS.out;have:=HS0.out;omega))
     clear a0 a1 a2 a3 a4 a5
     by_cases hlt:j < gs.length
     ·have HNL:Hid (n1≤1048576):=Lib.hid (by have h1:=HR.out.len;rw [List.length_map,List.length_take] at h1;have:=HLS.out;omega)
      obtain ⟨b1,o1,rfl,hcc⟩:=HXg.out.getF j hlt
      have hm:=List.getElem_mem hlt
      have htk:=List.take_succ_eq_append_getElem hlt
      have HLT:=Lib.hid (Nat.succ_le_of_lt hlt)
      have hsz0:=HZg.out _ hm
      generalize gs[j]=x at hcc hm htk hsz0
      obtain ⟨s,y,z,q⟩:=x
      replace hcc:∀i_ u_,([.string s,.int .i64 y,.int .i16 z,.int .i64 q]:List Value)[i_]?=some u_→wr.cell? ⟨b1,o1+j * 4+i_,none⟩=some u_:=fun i_ u_ h_=>Atv.kept (hcc i_ u_ h_) HG.out
      have e0:wr.cell? ⟨b1,o1+j * 4,none⟩=some (.string s):=by simpa using hcc 0 _ rfl
      have e1:wr.cell? ⟨b1,o1+j * 4+1,none⟩=some (.int .i64 y):=hcc 1 _ rfl
      have e2:wr.cell? ⟨b1,o1+j * 4+2,none⟩=some (.int .i16 z):=hcc 2 _ rfl
      have e3:wr.cell? ⟨b1,o1+j * 4+3,none⟩=some (.int .i64 q):=hcc 3 _ rfl
      have HTK:=Lib.hid htk
      have HSZ_:Hid (s.size≤1048576):=Lib.hid (by first | exact hsz0.1 | exact hsz0)
      clear hcc hm htk hsz0
      go_upto_region 12 with fail
      have hbx:Blk wr.heap.size [.string s,.int .i64 y,.int .i16 z,.int .i64 0] 62 (wr.alloc (Obj.cells #[.string s,.int .i64 y,.int .i16 z,.int .i64 0] 62)):=Blk.new wr _ _
      have hgx:Grew wr (wr.alloc (Obj.cells #[.string s,.int .i64 y,.int .i16 z,.int .i64 0] 62)):=(Grew.refl wr).alloc _
      generalize (wr.alloc (Obj.cells #[.string s,.int .i64 y,.int .i16 z,.int .i64 0] 62))=W6 at hbx hgx ⊢
      generalize wr.heap.size=b5 at hbx ⊢
      clear e0 e1 e2 e3
      have hbu6:=HB.out.grew hgx
      have x0:=hbx.cell 0
      have x1:=hbx.cell 1
      have x2:=hbx.cell 2
      have x3:=hbx.cell 3
      have u0:=hbu6.cell 0
      have u1:=hbu6.cell 1
      have u2:=hbu6.cell 2
      have u3:=hbu6.cell 3
      have u4:=hbu6.cell 4
      have u5:=hbu6.cell 5
      simp only [zz7,zz8] at x0 x1 x2 x3 u0 u1 u2 u3 u4 u5
      have HGX:=Lib.hid hgx
      clear hbu6 hbx hgx
      go_wp2_with (at_builtin;refine wpList_append_own (hangsF encGl) rfl _ _ 23 rfl N1 62 (.agg #[.string ⟨#[]⟩,.int .i64 0,.int .i16 0,.int .i64 0]) 40 Tryz.underlying23 infoGlS rfl gq n1 gk ((gs.take j).map stGl) rfl (B:=(fun _=>False)) (HR.out.kept (hangsF encGl) (HGX.out.alloc _)) _ 1 1 [⟨s,y,z,0⟩] rfl (InN.made (hangsF encGl) _ _ ⟨s,y,z,0⟩ _ _ _ _ rfl rfl rfl) (fun _ h=>h.elim) (by have:=HNL.out;omega) (by have:=HNL.out;omega) (by have h1:=HGX.out.sz;have h2:=HC.out.size;have h3:=HN1.out;rw [alloc_sz];omega) ?_;intro p3 c3 w3 ho3 hp3;have HO3:=Lib.hid ho3;have HP3:=Lib.hid hp3;have HBU3:=Lib.hid (hp3.blk (HB.out.grew (HGX.out.alloc _)) (fun a ha=>by have h1:=(HR.out.place (hangsF encGl) a ha).1;have h2:=HUN1.out;omega));have z0:=HBU3.out.cell 0;have z1:=HBU3.out.cell 1;have z2:=HBU3.out.cell 2;have z3:=HBU3.out.cell 3;have z4:=HBU3.out.cell 4;have z5:=HBU3.out.cell 5;have zf:=HBU3.out.free 1;simp only [zz7,zz8] at z0 z1 z2 z3 z4 z5;clear ho3 hp3)
      have HC3:Hid (Chg W1 w3 (fun k=>k=U)):=Lib.hid ((HC.out.trans (Chg.of_grew (HGX.out.alloc _) _)).belowT HN1.out HP3.out.below)
      go_roundg (gs.length - (j+1))
      case measure=>have:=HLT.out;omega
      case rel=>exact⟨j+1,p3,n1+1,c3,by go_num,HLT.out,rfl,Lib.hid (by
       rw [map_snoc HTK.out]
       have h1:=HO3.out.chg (hangsF encGl) (Chg.set w3 ⟨U,1,none⟩ (.slice p3 (n1+1) c3)) (fun a ha e=>by have h1:=(HO3.out.place (hangsF encGl) a ha).1;have h2:=HUN1.out;have h3:a.block=U:=e;omega) (fun b h=>h.elim)
       exact h1),Lib.hid (HBU3.out.set 1 _),Lib.hid (HC3.out.then_set ⟨U,1,none⟩ _ rfl)⟩
     ·obtain rfl:j=gs.length:=by omega
      rw [List.take_length] at HR
      have hn1:n1=gs.length:=by have h1:=HR.out.len;rwa [List.length_map] at h1
      subst hn1
      have HGR:=HG
      have HBA:=Lib.hid (HBA.out.chg HC.out (fun e=>by have:=HUS.out;omega))
      have HBZ:=Lib.hid (HBZ.out.chg HC.out (fun e=>by have:=HUS.out;omega))
      have HSN:=Lib.hid (HSN.out.chg HC.out)
      have HON:=Lib.hid (HON.out.chg HC.out)
      have HNW0:=Lib.hid (HNW0.out.chg HC.out)
      have HNW1:=Lib.hid (NewF.of_own encGl (S:=S+2) HR.out HUN1.out HUS.out)
      have hcw1:=And.intro HNW1.out.1.cap HNW1.out.1.max
      rw [List.length_map] at hcw1
      have HBU:=HB
      clear HC HR HB HG HN1
      rename World=>W2
      obtain ⟨N2,hN2⟩:∃N,W2.heap.size=N:=⟨_,rfl⟩
      have HN2:=Lib.hid hN2
      have HUN2:Hid (U < N2):=Lib.hid (hN2 ▸ HBU.out.lt)
      clear hN2
      have a0:=HBA.out.cell 0
      have a1:=HBA.out.cell 1
      have a2:=HBA.out.cell 2
      have a3:=HBA.out.cell 3
      have a4:=HBA.out.cell 4
      have a5:=HBA.out.cell 5
      simp only [zz7,zz8] at a0 a1 a2 a3 a4 a5
      go_wp2
      go_loopg [9,54] hs.length (fun gg v5 iv wr=>∃(j:Nat) (hq:Option Addr) (n1 hk:Nat),iv=.int .i64 (j:Int)∧j≤hs.length∧gg=hs.length - j∧Hid (OwN FlatAt 3 chc N2 (fun _=>False) wr 64 hq n1 hk ((hs.take j).map stCn))∧Hid (Blk U [.slice cq cs.length ck,.slice gq gs.length gk,.slice sq ss.length sk,.slice oq os.length ok,.slice hq n1 hk,.slice none 0 0] 28 wr)∧Hid (Chg W2 wr (fun k=>k=U)))
      case atStart=>exact⟨0,none,0,0,rfl,Nat.zero_le _,rfl,Lib.hid (OwN.nil (hangsF encCh)),HBU,Lib.hid (Chg.refl _ _)⟩
      case round =>
       obtain ⟨j,hq,n1,hk,rfl,hj,rfl,HR,HB,HC⟩:=hrel
       have HG:Hid (Grew w wr):=Lib.hid (grew_lift HGR.out HC.out (fun k hk=>by have:=HUS.out;have:=HS0.out;omega))
       clear a0 a1 a2 a3 a4 a5
       by_cases hlt:j < hs.length
       ·have HNL:Hid (n1≤1048576):=Lib.hid (by have h1:=HR.out.len;rw [List.length_map,List.length_take] at h1;have:=HLS.out;omega)
        obtain ⟨b1,o1,rfl,hcc⟩:=HXh.out.getF j hlt
        have hm:=List.getElem_mem hlt
        have htk:=List.take_succ_eq_append_getElem hlt
        have HLT:=Lib.hid (Nat.succ_le_of_lt hlt)
        have hsz0:=HZh.out _ hm
        generalize hs[j]=x at hcc hm htk hsz0
        obtain ⟨s,z,q⟩:=x
        replace hcc:∀i_ u_,([.string s,.int .i64 z,.int .i64 q]:List Value)[i_]?=some u_→wr.cell? ⟨b1,o1+j * 3+i_,none⟩=some u_:=fun i_ u_ h_=>Atv.kept (hcc i_ u_ h_) HG.out
        have e0:wr.cell? ⟨b1,o1+j * 3,none⟩=some (.string s):=by simpa using hcc 0 _ rfl
        have e1:wr.cell? ⟨b1,o1+j * 3+1,none⟩=some (.int .i64 z):=hcc 1 _ rfl
        have e2:wr.cell? ⟨b1,o1+j * 3+2,none⟩=some (.int .i64 q):=hcc 2 _ rfl
        have HTK:=Lib.hid htk
        have HSZ_:Hid (s.size≤1048576):=Lib.hid (by first | exact hsz0.1 | exact hsz0)
        clear hcc hm htk hsz0
        go_upto_region 18 with fail
        have hbx:Blk wr.heap.size [.string s,.int .i64 z,.int .i64 0] 64 (wr.alloc (Obj.cells #[.string s,.int .i64 z,.int .i64 0] 64)):=Blk.new wr _ _
        have hgx:Grew wr (wr.alloc (Obj.cells #[.string s,.int .i64 z,.int .i64 0] 64)):=(Grew.refl wr).alloc _
        generalize (wr.alloc (Obj.cells #[.string s,.int .i64 z,.int .i64 0] 64))=W6 at hbx hgx ⊢
        generalize wr.heap.size=b5 at hbx ⊢
        clear e0 e1 e2
        have hbu6:=HB.out.grew hgx
        have x0:=hbx.cell 0
        have x1:=hbx.cell 1
        have x2:=hbx.cell 2
        have u0:=hbu6.cell 0
        have u1:=hbu6.cell 1
        have u2:=hbu6.cell 2
        have u3:=hbu6.cell 3
        have u4:=hbu6.cell 4
        have u5:=hbu6.cell 5
        simp only [zz7,zz8] at x0 x1 x2 u0 u1 u2 u3 u4 u5
        have HGX:=Lib.hid hgx
        clear hbu6 hbx hgx
        go_wp2_with (at_builtin;refine wpList_append_own (hangsF encCh) rfl _ _ 25 rfl N2 64 (.agg #[.string ⟨#[]⟩,.int .i64 0,.int .i64 0]) 32 Tryz.underlying25 infoChS rfl hq n1 hk ((hs.take j).map stCn) rfl (B:=(fun _=>False)) (HR.out.kept (hangsF encCh) (HGX.out.alloc _)) _ 1 1 [⟨s,z,0⟩] rfl (InN.made (hangsF encCh) _ _ ⟨s,z,0⟩ _ _ _ _ rfl rfl rfl) (fun _ h=>h.elim) (by have:=HNL.out;omega) (by have:=HNL.out;omega) (by have h1:=HGX.out.sz;have h2:=HC.out.size;have h3:=HN2.out;rw [alloc_sz];omega) ?_;intro p3 c3 w3 ho3 hp3;have HO3:=Lib.hid ho3;have HP3:=Lib.hid hp3;have HBU3:=Lib.hid (hp3.blk (HB.out.grew (HGX.out.alloc _)) (fun a ha=>by have h1:=(HR.out.place (hangsF encCh) a ha).1;have h2:=HUN2.out;omega));have z0:=HBU3.out.cell 0;have z1:=HBU3.out.cell 1;have z2:=HBU3.out.cell 2;have z3:=HBU3.out.cell 3;have z4:=HBU3.out.cell 4;have z5:=HBU3.out.cell 5;have zf:=HBU3.out.free 4;simp only [zz7,zz8] at z0 z1 z2 z3 z4 z5;clear ho3 hp3)
        have HC3:Hid (Chg W2 w3 (fun k=>k=U)):=Lib.hid ((HC.out.trans (Chg.of_grew (HGX.out.alloc _) _)).belowT HN2.out HP3.out.below)
        go_roundg (hs.length - (j+1))
        case measure=>have:=HLT.out;omega
        case rel=>exact⟨j+1,p3,n1+1,c3,by go_num,HLT.out,rfl,Lib.hid (by
         rw [map_snoc HTK.out]
         have h1:=HO3.out.chg (hangsF encCh) (Chg.set w3 ⟨U,4,none⟩ (.slice p3 (n1+1) c3)) (fun a ha e=>by have h1:=(HO3.out.place (hangsF encCh) a ha).1;have h2:=HUN2.out;have h3:a.block=U:=e;omega) (fun b h=>h.elim)
         exact h1),Lib.hid (HBU3.out.set 4 _),Lib.hid (HC3.out.then_set ⟨U,4,none⟩ _ rfl)⟩
       ·obtain rfl:j=hs.length:=by omega
        rw [List.take_length] at HR
        have hn1:n1=hs.length:=by have h1:=HR.out.len;rwa [List.length_map] at h1
        subst hn1
        have HGR:=HG
        have HBA:=Lib.hid (HBA.out.chg HC.out (fun e=>by have:=HUS.out;omega))
        have HBZ:=Lib.hid (HBZ.out.chg HC.out (fun e=>by have:=HUS.out;omega))
        have HSN:=Lib.hid (HSN.out.chg HC.out)
        have HON:=Lib.hid (HON.out.chg HC.out)
        have HNW0:=Lib.hid (HNW0.out.chg HC.out)
        have HNW1:=Lib.hid (HNW1.out.chg HC.out)
        have HNW2:=Lib.hid (NewF.of_own encCh (S:=S+2) HR.out HUN2.out HUS.out)
        have hcw2:=And.intro HNW2.out.1.cap HNW2.out.1.max
        rw [List.length_map] at hcw2
        have HBU:=HB
        clear HC HR HB HG HN2
        rename World=>W3
        obtain ⟨N3,hN3⟩:∃N,W3.heap.size=N:=⟨_,rfl⟩
        have HN3:=Lib.hid hN3
        have HUN3:Hid (U < N3):=Lib.hid (hN3 ▸ HBU.out.lt)
        clear hN3
        have a0:=HBA.out.cell 0
        have a1:=HBA.out.cell 1
        have a2:=HBA.out.cell 2
        have a3:=HBA.out.cell 3
        have a4:=HBA.out.cell 4
        have a5:=HBA.out.cell 5
        simp only [zz7,zz8] at a0 a1 a2 a3 a4 a5
        go_wp2
        go_loopg [11,69] ts.length (fun gg v5 iv wr=>∃(j:Nat) (tq:Option Addr) (n1 tk:Nat),iv=.int .i64 (j:Int)∧j≤ts.length∧gg=ts.length - j∧Hid (OwN TsAt 8 tdc N3 (Aside N3 wr.heap.size tq) wr 42 tq n1 tk ((ts.take j).map stTa))∧Hid (Blk U [.slice cq cs.length ck,.slice gq gs.length gk,.slice sq ss.length sk,.slice oq os.length ok,.slice hq hs.length hk,.slice tq n1 tk] 28 wr)∧Hid (Chg W3 wr (fun k=>k=U)))
        case atStart=>exact⟨0,none,0,0,rfl,Nat.zero_le _,rfl,Lib.hid (OwN.nil hangsT),HBU,Lib.hid (Chg.refl _ _)⟩
        case round =>
         obtain ⟨j,tq,n1,tk,rfl,hj,rfl,HR,HB,HC⟩:=hrel
         have HG:Hid (Grew w wr):=Lib.hid (grew_lift HGR.out HC.out (fun k hk=>by have:=HUS.out;have:=HS0.out;omega))
         clear a0 a1 a2 a3 a4 a5
         by_cases hlt:j < ts.length
         ·have HNL:Hid (n1≤1048576):=Lib.hid (by have h1:=HR.out.len;rw [List.length_map,List.length_take] at h1;have:=HLS.out;omega)
          obtain ⟨bz,oz,pbz,cbz,rfl,hbz,hboz,hcz⟩:=HXt.out.get j hlt
          have hmz:=List.getElem_mem hlt
          have htz:=List.take_succ_eq_append_getElem hlt
          have HLz:=Lib.hid (Nat.succ_le_of_lt hlt)
          generalize ts[j]=xz at *
          obtain ⟨sz,iz,dz,hz,mz,nz,yz,qz⟩:=xz
          replace hbz:sz.size≤1048576∧hz.size≤1048576∧mz.size≤1048576:=hbz.2
          have HTz:=Lib.hid htz
          have HYz:Hid (SL B w pbz cbz yz):=Lib.hid hboz
          have hcapz:yz.length≤cbz:=hboz.cap.1
          have hmaxz:=hboz.cap.2.1
          replace hcz:∀i_ u_,(tdc ⟨sz,iz,dz,hz,mz,nz,pbz,yz.length,cbz,qz⟩)[i_]?=some u_→wr.cell? ⟨bz,oz+j * 8+i_,none⟩=some u_:=fun i_ u_ h_=>Atv.kept (hcz i_ u_ h_) HG.out
          have cz0:wr.cell? ⟨bz,oz+j * 8,none⟩=some (.string sz):=by simpa using hcz 0 _ rfl
          have cz1:wr.cell? ⟨bz,oz+j * 8+1,none⟩=some (.int .i64 iz):=hcz 1 _ rfl
          have cz2:wr.cell? ⟨bz,oz+j * 8+2,none⟩=some (.int .i64 dz):=hcz 2 _ rfl
          have cz3:wr.cell? ⟨bz,oz+j * 8+3,none⟩=some (.string hz):=hcz 3 _ rfl
          have cz4:wr.cell? ⟨bz,oz+j * 8+4,none⟩=some (.string mz):=hcz 4 _ rfl
          have cz5:wr.cell? ⟨bz,oz+j * 8+5,none⟩=some (.int .i64 nz):=hcz 5 _ rfl
          have cz6:wr.cell? ⟨bz,oz+j * 8+6,none⟩=some (.slice pbz yz.length cbz):=hcz 6 _ rfl
          have cz7:wr.cell? ⟨bz,oz+j * 8+7,none⟩=some (.int .i64 qz):=hcz 7 _ rfl
          clear hcz hboz htz
          have hzt:=zT_mem hmz
          have HIS:=Lib.hid (fun W (hW:Grew w W)=>(show Calls Tryz.prog 92 #[.slice pbz yz.length cbz] W fun e w'=>∃p' c',e=.returned (.slice p' yz.length c')∧SL (Fresh W.heap.size w'.heap.size) w' p' c' (stSs yz)∧Grew W w' from strips_any _ yz (Nat.lt_succ_self _) B W pbz cbz (HYz.out.kept hW) (by have:=HLS.out;have h_:nSs yz+mSs yz≤zT ts:=hzt;omega) (by have:=HLS.out;have h_:nSs yz+mSs yz≤zT ts:=hzt;omega)))
          clear hzt hmz
          go_upto_region 25 with (go_at_call 92;(with_reducible refine(HIS.out _ (HG.out.alloc _)).mono ?_);rintro e_ w2 ⟨p2,c2,rfl,hx2,g2⟩;have HX2:=Lib.hid hx2;have HQ2:=Lib.hid g2;have HBX:=Lib.hid ((Blk.new wr [.string sz,.int .i64 iz,.int .i64 dz,.string hz,.string mz,.int .i64 nz,.slice pbz yz.length cbz,.int .i64 0] 42).grew g2);clear hx2 g2;have y0:=HBX.out.cell 0;have y1:=HBX.out.cell 1;have y2:=HBX.out.cell 2;have y3:=HBX.out.cell 3;have y4:=HBX.out.cell 4;have y5:=HBX.out.cell 5;have y6:=HBX.out.cell 6;have y7:=HBX.out.cell 7;have yf:=HBX.out.free 6;simp only [zz7,zz8] at y0 y1 y2 y3 y4 y5 y6 y7)
          have hbx:Blk wr.heap.size [.string sz,.int .i64 iz,.int .i64 dz,.string hz,.string mz,.int .i64 nz,.slice p2 yz.length c2,.int .i64 0] 42 (w2.setCell ⟨wr.heap.size,6,none⟩ (.slice p2 yz.length c2)):=HBX.out.set 6 _
          have hch:=Chg.set w2 ⟨wr.heap.size,6,none⟩ (.slice p2 yz.length c2)
          have hg0:Grew wr w2:=((Grew.refl wr).alloc _).trans HQ2.out
          have hgx:Grew wr (w2.setCell ⟨wr.heap.size,6,none⟩ (.slice p2 yz.length c2)):=hg0.stc (Nat.le_refl _) 6 _
          have hsl0:=HX2.out.chg hch (fun b hb e=>by have h1:=hb.1;have h2:b=wr.heap.size:=e;rw [alloc_sz] at h1;omega)
          have hsl:SL (fun b=>wr.heap.size+1≤b∧b < (w2.setCell ⟨wr.heap.size,6,none⟩ (.slice p2 yz.length c2)).heap.size) (w2.setCell ⟨wr.heap.size,6,none⟩ (.slice p2 yz.length c2)) p2 c2 (stSs yz):=hsl0.mono (fun b hb=>⟨by have h1:=hb.1;rw [alloc_sz] at h1;exact h1,by rw [World.size_setCell];exact hb.2⟩)
          generalize (w2.setCell ⟨wr.heap.size,6,none⟩ (.slice p2 yz.length c2))=W6 at hbx hgx hsl ⊢
          have HSL:=Lib.hid hsl
          have hwz:=hgx.sz
          clear hch hg0 hsl0 hsl y0 y1 y2 y3 y4 y5 y6 y7 yf HBX HIS cz0 cz1 cz2 cz3 cz4 cz5 cz6 cz7
          have HBZ5:Hid (wr.heap.size=wr.heap.size):=Lib.hid rfl
          obtain ⟨b5,hb5⟩:∃b,wr.heap.size=b:=⟨_,rfl⟩
          have HB5:=Lib.hid hb5
          rw [hb5] at hbx ⊢
          clear hb5 HBZ5 hwz
          have hcap2:=HSL.out.cap
          rw [stSs_len] at hcap2
          have hbu6:=HB.out.grew hgx
          have x0:=hbx.cell 0
          have x1:=hbx.cell 1
          have x2:=hbx.cell 2
          have x3:=hbx.cell 3
          have x4:=hbx.cell 4
          have x5:=hbx.cell 5
          have x6:=hbx.cell 6
          have x7:=hbx.cell 7
          have u0:=hbu6.cell 0
          have u1:=hbu6.cell 1
          have u2:=hbu6.cell 2
          have u3:=hbu6.cell 3
          have u4:=hbu6.cell 4
          have u5:=hbu6.cell 5
          simp only [zz7,zz8] at x0 x1 x2 x3 x4 x5 x6 x7 u0 u1 u2 u3 u4 u5
          have HGX:=Lib.hid hgx
          clear hbu6 hbx hgx
          have HAT:Hid (TsAt (Aside N3 W6.heap.size tq) W6 [stTa ⟨sz,iz,dz,hz,mz,nz,yz,qz⟩] [⟨sz,iz,dz,hz,mz,nz,p2,yz.length,c2,0⟩]):=Lib.hid (by
           have h4:=tat1 (i:=iz) (d:=dz) (n:=nz) (q:=0) hbz (HSL.out.mono (B':=Aside N3 W6.heap.size tq) fun b hb=>⟨by have h1:=hb.1;have h2:=HC.out.size;have h3:=HN3.out;omega,hb.2,HR.out.offTop hangsT (by have h1:=hb.1;omega)⟩)
           rw [stSs_len] at h4
           exact h4)
          go_wp2_with (at_builtin;refine wpList_append_own hangsT rfl _ _ 26 rfl N3 42 (.agg #[.string ⟨#[]⟩,.int .i64 0,.int .i64 0,.string ⟨#[]⟩,.string ⟨#[]⟩,.int .i64 0,.slice none 0 0,.int .i64 0]) 104 Tryz.underlying26 infoTaS rfl tq n1 tk ((ts.take j).map stTa) rfl (B:=(Aside N3 W6.heap.size tq)) (((HR.out.kept hangsT HGX.out).mono hangsT (B':=Aside N3 W6.heap.size tq) fun b hb=>⟨hb.1,Nat.lt_of_lt_of_le hb.2.1 HGX.out.sz,hb.2.2⟩).kept hangsT ((Grew.refl _).alloc _)) _ 1 1 [stTa ⟨sz,iz,dz,hz,mz,nz,yz,qz⟩] rfl (InN.made hangsT _ _ _ _ _ _ _ HAT.out rfl rfl) (fun b hb=>hb.2.2) (by have:=HNL.out;omega) (by have:=HNL.out;omega) (by have h1:=HGX.out.sz;have h2:=HC.out.size;have h3:=HN3.out;rw [alloc_sz];omega) ?_;intro p3 c3 w3 ho3 hp3;have HO3:=Lib.hid ho3;have HP3:=Lib.hid hp3;have HBU3:=Lib.hid (hp3.blk (HB.out.grew (HGX.out.alloc _)) (fun a ha=>by have h1:=(HR.out.place hangsT a ha).1;have h2:=HUN3.out;omega));have z0:=HBU3.out.cell 0;have z1:=HBU3.out.cell 1;have z2:=HBU3.out.cell 2;have z3:=HBU3.out.cell 3;have z4:=HBU3.out.cell 4;have z5:=HBU3.out.cell 5;have zf:=HBU3.out.free 5;simp only [zz7,zz8] at z0 z1 z2 z3 z4 z5;clear ho3 hp3)
          have HC3:Hid (Chg W3 w3 (fun k=>k=U)):=Lib.hid ((HC.out.trans (Chg.of_grew (HGX.out.alloc _) _)).belowT HN3.out HP3.out.below)
          go_roundg (ts.length - (j+1))
          case measure=>have:=HLz.out;omega
          case rel=>exact⟨j+1,p3,n1+1,c3,by go_num,HLz.out,rfl,Lib.hid (by
           rw [map_snoc HTz.out]
           have h1:=HO3.out.chg hangsT (Chg.set w3 ⟨U,5,none⟩ (.slice p3 (n1+1) c3)) (fun a ha e=>by have h1:=(HO3.out.place hangsT a ha).1;have h2:=HUN3.out;have h3:a.block=U:=e;omega) (fun b hb e=>by have h1:=hb.1;have h2:=HUN3.out;have h3:b=U:=e;omega)
           exact h1.mono hangsT fun b hb=>⟨hb.1,by have h1:=hb.2.1;have h2:=HP3.out.below.size;rw [alloc_sz] at h2;rw [World.size_setCell];omega,HP3.out.off (by have h1:=hb.2.1;rw [alloc_sz];omega) hb.2.2⟩),Lib.hid (HBU3.out.set 5 _),Lib.hid (HC3.out.then_set ⟨U,5,none⟩ _ rfl)⟩
         ·obtain rfl:j=ts.length:=by omega
          rw [List.take_length] at HR
          have hn1:n1=ts.length:=by have h1:=HR.out.len;rwa [List.length_map] at h1
          subst hn1
          have HGR:=HG
          have HBA:=Lib.hid (HBA.out.chg HC.out (fun e=>by have:=HUS.out;omega))
          have HBZ:=Lib.hid (HBZ.out.chg HC.out (fun e=>by have:=HUS.out;omega))
          have HSN:=Lib.hid (HSN.out.chg HC.out)
          have HON:=Lib.hid (HON.out.chg HC.out)
          have HNW0:=Lib.hid (HNW0.out.chg HC.out)
          have HNW1:=Lib.hid (HNW1.out.chg HC.out)
          have HNW2:=Lib.hid (HNW2.out.chg HC.out)
          have HNW3:=Lib.hid (tl_own (S:=S+2) HR.out (by have:=HUS.out;have:=HUN3.out;omega))
          have hcw3:=HNW3.out.cap
          rw [List.length_map] at hcw3
          have HBU:=HB
          clear HC HR HB HG HN3
          rename World=>W4
          have u0:=HBU.out.cell 0
          have u1:=HBU.out.cell 1
          have u2:=HBU.out.cell 2
          have u3:=HBU.out.cell 3
          have u4:=HBU.out.cell 4
          have u5:=HBU.out.cell 5
          have z0:=HBZ.out.cell 0
          have zf0:=HBZ.out.free 0
          have z1:=HBZ.out.cell 1
          have zf1:=HBZ.out.free 1
          have z2:=HBZ.out.cell 2
          have zf2:=HBZ.out.free 2
          have z3:=HBZ.out.cell 3
          have zf3:=HBZ.out.free 3
          have z4:=HBZ.out.cell 4
          have zf4:=HBZ.out.free 4
          have z5:=HBZ.out.cell 5
          have zf5:=HBZ.out.free 5
          simp only [zz7,zz8] at u0 u1 u2 u3 u4 u5 z0 z1 z2 z3 z4 z5
          have HFIN:Hid (∀w',Chg W4 w' (fun k=>k=S+1)→PgIn (Fresh w.heap.size w'.heap.size) w' (stP ⟨cs,gs,ss,os,hs,ts⟩) cq gq sq oq hq tq ck gk sk ok hk tk∧Grew w w'):=Lib.hid (fun w' hc=>by
           have hs0:=HS0.out
           have hk9:∀b,S+2≤b→b≠U→¬ (b=S+1):=fun b h _ e=>by omega
           exact⟨PgIn.of_new HPG.out (HNW0.out.chgC hc hk9) (HNW1.out.chgC hc hk9) (HSN.out.chgC hc hk9) (HON.out.chgC hc hk9) (HNW2.out.chgC hc hk9) ((HNW3.out.chg hc (fun b hb e=>by have:=hb.1;omega)).keep (fun b hb=>⟨hb.1,Nat.lt_of_lt_of_le hb.2 hc.size⟩) (fun _ _ _=>rfl)) (by omega),grew_lift HGR.out hc (fun k hk=>by omega)⟩)
          clear HGR HBA HBZ HSN HON HNW0 HNW1 HNW2 HNW3 HBU
          go_wp2
          refine rs_ret_c28 Tryz.results36 (S0:=S+1) (v0_0:=.slice cq cs.length ck) (v0_1:=.slice gq gs.length gk) (v0_2:=.slice sq ss.length sk) (v0_3:=.slice oq os.length ok) (v0_4:=.slice hq hs.length hk) (v0_5:=.slice tq ts.length tk) rfl (by go_simp) (by go_simp) (by go_simp) (by go_simp) (by go_simp) (by go_simp) ?_
          have g6:=((((((Chg.refl W4 (fun k=>k=S+1)).then_set ⟨S+1,0,none⟩ (.slice cq cs.length ck) rfl).then_set ⟨S+1,1,none⟩ (.slice gq gs.length gk) rfl).then_set ⟨S+1,2,none⟩ (.slice sq ss.length sk) rfl).then_set ⟨S+1,3,none⟩ (.slice oq os.length ok) rfl).then_set ⟨S+1,4,none⟩ (.slice hq hs.length hk) rfl).then_set ⟨S+1,5,none⟩ (.slice tq ts.length tk) rfl
          obtain ⟨h5,h6⟩:=HFIN.out _ g6
          exact⟨cq,gq,sq,oq,hq,tq,ck,gk,sk,ok,hk,tk,rfl,h5,h6⟩
end Go.Proofs.YtcknpcbkofgdoaaGreatDoor
namespace Go.Proofs.YtcknpcbkofgdoaaGreatDoor
open Go Go.RowKit Go.IntWalk
open Go.Lib (decDigits itoa)
open Go.Sort
set_option linter.unusedSimpArgs false
set_option linter.unusedVariables false
set_option maxRecDepth 8000

abbrev setLD:ByteArray:=⟨#[65,66,67,68,69,70,71,72,73,74,75,76,77,78,79,80,81,82,83,84,85,86,87,88,89,90,95,97,98,99,100,101,102,103,104,105,106,107,108,109,110,111,112,113,114,115,116,117,118,119,120,121,122,48,49,50,51,52,53,54,55,56,57]⟩
abbrev setD:ByteArray:=⟨#[48,49,50,51,52,53,54,55,56,57]⟩
theorem all_bytes {p:UInt8→Bool}(h:(List.range 256).all (fun n=>p (UInt8.ofNat n))=true) (c:UInt8):p c=true:=by
 have h1:=List.all_eq_true.1 h c.toNat (List.mem_range.2 c.toNat_lt)
 simpa using h1
theorem same_bytes {p q:UInt8→Bool}(h:(List.range 256).all (fun n=>p (UInt8.ofNat n)==q (UInt8.ofNat n))=true):∀c,p c=q c:=fun c=>eq_of_beq (all_bytes (p:=fun c=>p c==q c) h c)
theorem setLD_has:∀c,setLD.data.toList.contains c=wd c:=same_bytes (by kernel_rfl)
theorem setD_has:∀c,setD.data.toList.contains c=dig c:=same_bytes (by kernel_rfl)
theorem var?_keep {P:Program}{w w':World}{n:String}{cs:Array Value}(hb:Below w.heap.size w w') (h:w.var? P n=some cs):w'.var? P n=some cs:=by
 unfold World.var? at h ⊢
 cases hg:P.globalNamed n with
 | none=>simp [hg] at h
 | some g =>
   simp only [hg,Option.bind_some] at h ⊢
   have hlt:g < w.heap.size:=by
    rcases Nat.lt_or_ge g w.heap.size with h' | h'
    ·exact h'
    ·simp [Array.getElem?_eq_none h'] at h
   rw [hb.block g hlt]
   exact h
structure Es5 where
 b:Bool
 v:Int
 f:Int
 l:Int
 n:Int
structure Ss5 where
 b:Bool
 n:Int
 a:Int
 y:Bool
 e:Bool
structure Op2 where
 s:List UInt8
 l:Int
abbrev es5 (o:Es5):List Value:=[.bool o.b,.int .i16 o.v,.int .i64 o.f,.int .i64 o.l,.int .i64 o.n]
abbrev ss5 (o:Ss5):List Value:=[.bool o.b,.int .i64 o.n,.int .i64 o.a,.bool o.y,.bool o.e]
abbrev op2 (o:Op2):List Value:=[.string ⟨o.s.toArray⟩,.int .i64 o.l]
theorem encE5:Enc 5 es5:=⟨fun _=>rfl,fun x u hu=>by simp at hu;rcases hu with rfl | rfl | rfl | rfl | rfl <;> rfl,by decide⟩
theorem encS5:Enc 5 ss5:=⟨fun _=>rfl,fun x u hu=>by simp at hu;rcases hu with rfl | rfl | rfl | rfl | rfl <;> rfl,by decide⟩
theorem encO2:Enc 2 op2:=⟨fun _=>rfl,fun x u hu=>by simp at hu;rcases hu with rfl | rfl <;> rfl,by decide⟩
def lvO (o:Int):Int:=if o=1∨o=2 then 6 else lvT o
def exL:List Es5:=[⟨false,0,0,0,0⟩,⟨false,32767,0,0,0⟩,⟨true,0,0,0,0⟩,⟨true,0,0,0,1⟩,⟨true,0,0,0,0⟩,⟨false,0,1,2,1⟩,⟨false,0,3,15,2⟩]
def ssL:List Ss5:=[⟨false,0,0,false,false⟩,⟨true,0,1,false,false⟩,⟨true,0,1,false,false⟩,⟨true,0,2,false,false⟩,⟨false,0,1,true,true⟩,⟨false,32767,0,true,false⟩,⟨false,0,1,true,false⟩,⟨true,0,1,false,false⟩,⟨false,0,1,false,false⟩,⟨true,0,1,false,false⟩,⟨false,32767,0,true,false⟩,⟨false,32767,0,true,false⟩,⟨false,0,0,false,false⟩,⟨false,0,0,false,false⟩]
def oprL:List Op2:=(List.range 16).map fun(i:Nat)=>(⟨sgT (i:Int),if i=0 then 0 else lvO (i:Int)⟩:Op2)
def exC:List Value:=flatL es5 exL
def ssC:List Value:=flatL ss5 ssL
def oprC:List Value:=flatL op2 oprL
def exR (k:Int):Es5:=exL.getD k.toNat ⟨false,0,0,0,0⟩
def ssR (k:Int):Ss5:=ssL.getD k.toNat ⟨false,0,0,false,false⟩
structure Env (w:World):Prop where
 kws : w.var? Tryz.prog "trickle/ast.keywords" = some (kwT.map (fun l => Value.string ⟨l.toArray⟩)).toArray
 exs : w.var? Tryz.prog "trickle/ast.exprShapes" = some exC.toArray
 sts : w.var? Tryz.prog "trickle/ast.stmtShapes" = some ssC.toArray
 ops : w.var? Tryz.prog "trickle/ast.operators" = some oprC.toArray
 pow : Lib.TabIs Tryz.prog w "internal/strconv.uint64pow10" .u64 Lib.pow10Tab
theorem Env.grew {w w':World}(h:Env w) (hb:Grew w w'):Env w':=by
 obtain ⟨h1,h2,h3,h4,h5⟩:=h
 exact⟨var?_keep hb h1,var?_keep hb h2,var?_keep hb h3,var?_keep hb h4,var?_keep hb h5⟩
theorem Env.rangeK {w:World}(h:Env w):w.rangeAt 2 0 (kwT.map (fun l=>Value.string ⟨l.toArray⟩)):=fun j v hv=>by
 rw [Nat.zero_add, World.var?_cell (show Tryz.prog.globalNamed "trickle/ast.keywords" = some 2 by kernel_rfl) h.kws j]
 simpa using hv
theorem Env.ex {w:World}(h:Env w) (k:Nat) (hk:k < 7) (j:Nat){v:Value}(hv:(es5 (exR (k:Int)))[j]?=some v):w.cell? ⟨0,k * 5+j,none⟩=some v:=by
 have h1 := World.var?_cell (show Tryz.prog.globalNamed "trickle/ast.exprShapes" = some 0 by kernel_rfl) h.exs (k * 5 + j)
 rw [h1]
 have h2:exL[k]?=some (exR (k:Int)):=by
  have hl:k < exL.length:=hk
  unfold exR
  simp only [Int.toNat_natCast,List.getD,List.getElem?_eq_getElem hl,Option.getD_some]
 simpa [exC] using flatL_get encE5 h2 hv
theorem Env.st {w:World}(h:Env w) (k:Nat) (hk:k < 14) (j:Nat){v:Value}(hv:(ss5 (ssR (k:Int)))[j]?=some v):w.cell? ⟨3,k * 5+j,none⟩=some v:=by
 have h1 := World.var?_cell (show Tryz.prog.globalNamed "trickle/ast.stmtShapes" = some 3 by kernel_rfl) h.sts (k * 5 + j)
 rw [h1]
 have h2:ssL[k]?=some (ssR (k:Int)):=by
  have hl:k < ssL.length:=hk
  unfold ssR
  simp only [Int.toNat_natCast,List.getD,List.getElem?_eq_getElem hl,Option.getD_some]
 simpa [ssC] using flatL_get encS5 h2 hv
theorem oprL_at:∀k,(h:k < 16)→oprL[k]'h=⟨sgT (k:Int),if k=0 then 0 else lvO (k:Int)⟩:=by
 intro k h
 rcases k with _ | _ | _ | _ | _ | _ | _ | _ | _ | _ | _ | _ | _ | _ | _ | _ | k
 all_goals first | rfl | omega
theorem Env.op {w:World}(h:Env w) (k:Nat) (h0:1≤k) (hk:k < 16) (j:Nat){v:Value}(hv:(op2 ⟨sgT (k:Int),lvO (k:Int)⟩)[j]?=some v):w.cell? ⟨1,k * 2+j,none⟩=some v:=by
 have h1 := World.var?_cell (show Tryz.prog.globalNamed "trickle/ast.operators" = some 1 by kernel_rfl) h.ops (k * 2 + j)
 rw [h1]
 have hl:k < oprL.length:=hk
 have h2:oprL[k]?=some ⟨sgT (k:Int),lvO (k:Int)⟩:=by
  rw [List.getElem?_eq_getElem hl]
  exact congrArg some ((oprL_at k hk).trans (by rw [if_neg (by omega)]))
 simpa [oprC] using flatL_get encO2 h2 hv
set_option maxRecDepth 20000 in
theorem index_kw:∀(k:Nat) (_:k < 22) (W:World),Sem.run Tryz.prog (Instr.index 162 (.agg (kwT.map (fun l=>Value.string ⟨l.toArray⟩)).toArray) (.int .i64 (k:Int))) W=.ok (.string ⟨(kwT.getD k []).toArray⟩) W
 | 0,_,W=>by kernel_rfl
 | 1,_,W=>by kernel_rfl
 | 2,_,W=>by kernel_rfl
 | 3,_,W=>by kernel_rfl
 | 4,_,W=>by kernel_rfl
 | 5,_,W=>by kernel_rfl
 | 6,_,W=>by kernel_rfl
 | 7,_,W=>by kernel_rfl
 | 8,_,W=>by kernel_rfl
 | 9,_,W=>by kernel_rfl
 | 10,_,W=>by kernel_rfl
 | 11,_,W=>by kernel_rfl
 | 12,_,W=>by kernel_rfl
 | 13,_,W=>by kernel_rfl
 | 14,_,W=>by kernel_rfl
 | 15,_,W=>by kernel_rfl
 | 16,_,W=>by kernel_rfl
 | 17,_,W=>by kernel_rfl
 | 18,_,W=>by kernel_rfl
 | 19,_,W=>by kernel_rfl
 | 20,_,W=>by kernel_rfl
 | 21,_,W=>by kernel_rfl
 | k+22,h,_=>absurd h (by omega)
theorem beq_list {a:List UInt8}{s:ByteArray}:(a==s.toList)=(a==s.data.toList):=by rw [ByteArray.toList_eq]
theorem ascii {cs:ByteArray}(h:cs.data.toList.all (fun b=>decide (b.toNat < 128))=true):∀(j:Nat) b,cs.data.toList[j]?=some b→b.toNat < 128:=fun j b hb=>by
 have:=List.all_eq_true.1 h b (List.mem_of_getElem? hb)
 simpa using this
theorem index_has (l:List UInt8) (c:UInt8):(0≤Lib.indexByte l c)↔l.contains c=true:=by
 have h0:=Lib.indexByte_ge l c
 constructor
 ·intro h
  obtain ⟨o,ho⟩:∃o:Nat,Lib.indexByte l c=o:=⟨(Lib.indexByte l c).toNat,by omega⟩
  simpa using List.mem_of_getElem? (Lib.indexByte_some ho).1
 ·intro h
  obtain ⟨k,hk,e⟩:=List.getElem_of_mem (by simpa using h:c ∈ l)
  rcases Int.lt_or_le (Lib.indexByte l c) 0 with h1 | h1
  ·exact absurd (by rw [List.getElem?_eq_getElem hk,e]) (Lib.indexByte_none (by omega:Lib.indexByte l c=-1) k)
  ·exact h1
theorem index_le:∀(l:List UInt8) (c:UInt8),Lib.indexByte l c≤l.length:=fun l c=>by
 have h0:=Lib.indexByte_ge l c
 rcases Int.lt_or_le (Lib.indexByte l c) 0 with h1 | h1
 ·omega
 ·obtain ⟨o,ho⟩:∃o:Nat,Lib.indexByte l c=o:=⟨(Lib.indexByte l c).toNat,by omega⟩
  have:=(List.getElem?_eq_some_iff.1 (Lib.indexByte_some ho).1).1
  omega
theorem u8_toNat (c:UInt8):(c.toNat:Int).toNat.toUInt8=c:=by
 rw [Int.toNat_natCast]
 exact UInt8.ofNat_toNat
theorem digit_any (c:UInt8):∃z:Int,decide (z < 0)=!dig c∧(-1≤z∧z≤10)∧∀W,Calls Tryz.prog 109 #[.string setD,.int .u8 (c.toNat:Nat)] W fun e w'=>e=.returned (.int .i64 z)∧W=w':=by
 refine⟨Lib.indexByte setD.data.toList c,?_,⟨Lib.indexByte_ge _ _,index_le _ _⟩,fun W=>?_⟩
 ·rw [← setD_has]
  cases h:setD.data.toList.contains c with
  | true=>have:=(index_has _ _).2 h;simpa using this
  | false =>
    have:¬ 0≤Lib.indexByte setD.data.toList c:=fun h1=>by rw [(index_has _ _).1 h1] at h;cases h
    simpa using this
 ·have:=Tryz.strings_IndexByte setD (c.toNat:Int) W
  rw [u8_toNat] at this
  exact this.mono fun e w' h=>⟨h.1,h.2.symm⟩
theorem dw_all (p:UInt8→Bool):∀l:List UInt8,l.dropWhile p=[]↔l.all p=true
 | []=>by simp
 | a :: r=>by
   rw [List.dropWhile_cons,List.all_cons]
   cases h:p a with
   | true=>rw [if_pos rfl,Bool.true_and];exact dw_all p r
   | false=>simp
theorem dw_none (p:UInt8→Bool) (l:List UInt8):(l.dropWhile p).all p=l.all p:=by
 induction l with
 | nil=>rfl
 | cons a r ih =>
   rw [List.dropWhile_cons]
   cases h:p a with
   | true=>rw [if_pos rfl,List.all_cons,h,Bool.true_and,ih]
   | false=>rw [if_neg (by simp),List.all_cons,h]
theorem trim_nil (l cs:List UInt8):Lib.trimS l cs=[]↔l.all cs.contains=true:=by
 unfold Lib.trimS Lib.trimLeftS Lib.trimRightS
 rw [dw_all,List.all_reverse]
 exact(by rw [dw_none (fun x=>cs.contains x) l.reverse,List.all_reverse])
theorem trim_any (s:ByteArray) (hs:s.size≤1048576):∃y:List UInt8,(y.isEmpty=s.data.toList.all wd)∧∀W,Calls Tryz.prog 110 #[.string s,.string setLD] W fun e w'=>e=.returned (.string ⟨y.toArray⟩)∧Grew W w':=by
 refine⟨Lib.trimS s.data.toList setLD.data.toList,?_,fun W=>?_⟩
 ·rw [Bool.eq_iff_iff,List.isEmpty_iff,trim_nil]
  have:(fun x=>setLD.data.toList.contains x)=wd:=funext setLD_has
  show s.data.toList.all (fun x=>setLD.data.toList.contains x)=true↔_
  rw [this]
 ·exact Any.strings_Trim_laid Tryz.lays160 (by kernel_rfl) s setLD W (by omega) (by decide) (ascii (by kernel_rfl))
theorem grow_grew (w:World) (k:Nat) (os:Array Obj):Grew w (grow (w.drewN k) os) :=
 ⟨rfl,rfl,rfl,by simp [grow,World.drewN],fun j hj=>by
  show (w.heap++os)[j]?=w.heap[j]?
  exact Array.getElem?_append_left hj⟩
theorem itoa_num (z:Int):itoa z=numZ z:=by
 rw [itoa,numZ]
 split
 ·rw [show z.natAbs=(-z).toNat by omega]
 ·rfl
theorem itoa_any (z:Int) (hz:-9223372036854775808≤z∧z≤9223372036854775807) (w:World) (hE:Env w):Calls Tryz.prog 40 #[.int .i64 z] w fun e w'=>e=.returned (.string ⟨(numZ z).toArray⟩)∧Grew w w' :=
 (Tryz.strconv_Itoa z hz.1 hz.2 w hE.pow).mono fun e w' h=>by
   obtain ⟨h1,k,os,h2⟩:=h
   exact⟨itoa_num z ▸ h1,h2 ▸ grow_grew w k os⟩
theorem kwT_at {k:Nat}(h:k < 22):kwT.getD k [] ∈ kwT:=by
 have hl:k < kwT.length:=h
 rw [List.getD_eq_getElem?_getD,List.getElem?_eq_getElem hl]
 exact List.getElem_mem hl
theorem kwT_no {t:List UInt8}(h:∀i,i < 22→kwT.getD i []≠t):kwT.contains t=false:=by
 cases hc:kwT.contains t with
 | false=>rfl
 | true =>
   obtain ⟨k,hk,e⟩:=List.getElem_of_mem (by simpa using hc:t ∈ kwT)
   refine absurd ?_ (h k hk)
   rw [List.getD_eq_getElem?_getD,List.getElem?_eq_getElem hk]
   exact e
theorem iskw_any (s:ByteArray) (w:World) (hE:Env w):Calls Tryz.prog 111 #[.string s] w fun e w'=>e=.returned (.bool (kwT.contains s.data.toList))∧w=w':=by
 have HNO:=Lib.hid (kwT_no (t:=s.data.toList))
 have HYES:=Lib.hid (fun k (hk:k < 22) (e:kwT.getD k []=s.data.toList)=>(show kwT.contains s.data.toList=true by rw [← e];simpa using kwT_at hk))
 generalize kwT.contains s.data.toList=b at HNO HYES ⊢
 go_enter Tryz.func111,Tryz.ntmps111
 go_upto_region 1 with fail
 refine wp_region_list ?_
 refine wpList_load_mid rfl 162 (.global 2) rfl 2 0 rfl (kwT.map (fun l=>Value.string ⟨l.toArray⟩)) _ hE.rangeK Tryz.underlying162 rfl (by kernel_rfl) ?_
 have HIX:=Lib.hid index_kw
 generalize Value.agg (kwT.map (fun l=>Value.string ⟨l.toArray⟩)).toArray=TAB at HIX ⊢
 clear hE
 go_wp2
 go_loopg [6] 22 (fun gg iv wr=>∃j:Nat,iv=.int .i64 (j:Int)∧j≤22∧gg=22 - j∧Hid (∀i,i < j→kwT.getD i []≠s.data.toList)∧wr=w)
 case atStart=>exact⟨0,rfl,by omega,rfl,Lib.hid (fun i h=>absurd h (Nat.not_lt_zero i)),rfl⟩
 case round =>
  obtain ⟨j,rfl,hj,rfl,HN,rfl⟩:=hrel
  by_cases hlt:j < 22
  ·have hx:=fun W=>HIX.out j hlt W
   have HJ:=Lib.hid hlt
   have HY:=Lib.hid (HYES.out j hlt)
   obtain ⟨t,ht⟩:∃t,kwT.getD j []=t:=⟨_,rfl⟩
   rw [ht] at hx HY
   have HT:=Lib.hid ht
   clear ht
   by_cases he:t=s.data.toList
   ·have h1:(t==s.toList)=true:=by rw [beq_list,he];simp
    have HE:=Lib.hid (HY.out he)
    clear he
    go_wp2
    go_ret
    exact⟨ret_bool HE.out.symm,rfl⟩
   ·have h1:(t==s.toList)=false:=by rw [beq_list];simpa using he
    have HE:=Lib.hid he
    clear he
    go_wp2
    go_roundg (22 - (j+1))
    case measure=>have:=HJ.out;omega
    case rel=>exact⟨j+1,by go_num,HJ.out,rfl,Lib.hid (fun i hi=>by rcases Nat.lt_or_eq_of_le (Nat.le_of_lt_succ hi) with h | rfl;exact HN.out i h;rw [HT.out];exact HE.out),rfl⟩
  ·obtain rfl:j=22:=by omega
   have HF:=Lib.hid (HNO.out HN.out)
   go_wp2
   go_ret
   exact⟨ret_bool HF.out.symm,rfl⟩
theorem dig_wd {c:UInt8}:dig c=true→ltr c=false:=by
 have:∀c:UInt8,(!dig c||!ltr c)=true:=all_bytes (p:=fun c=>!dig c||!ltr c) (by kernel_rfl)
 intro h
 have:=this c
 rw [h] at this
 simpa using this
theorem idB_eq (c:UInt8) (r:List UInt8):idB (c :: r)=(decide ((c :: r).length≤32)&&(!dig c&&((c :: r).all wd&&!kwT.contains (c :: r)))):=by
 have h1:idc (c :: r)=(!dig c&&(c :: r).all wd):=by
  rw [idc,List.all_cons]
  cases hd:dig c with
  | true=>rw [dig_wd hd];rfl
  | false=>rw [wd,hd,Bool.or_false];rfl
 rw [idB,h1]
 have h2:decide (1≤(c :: r).length)=true:=by simp
 rw [h2]
 cases kwT.contains (c :: r) <;> cases dig c <;> cases (c :: r).all wd <;> cases decide ((c :: r).length≤32) <;> rfl
set_option maxHeartbeats 4000000 in
theorem isid_any (s:ByteArray) (hs:s.size≤1048576) (w:World) (hE:Env w):Calls Tryz.prog 57 #[.string s] w fun e w'=>e=.returned (.bool (idn s))∧Grew w w':=by
 have HE:=Lib.hid hE
 clear hE
 by_cases hz:s.size=0
 ·have hnl:s.toList=[]:=by rw [ByteArray.toList_eq];exact List.eq_nil_of_length_eq_zero hz
  have h0:idn s=false:=by rw [idn,← ByteArray.toList_eq,hnl];rfl
  rw [h0]
  clear h0
  go_enter Tryz.func57,Tryz.ntmps57
  go_wp2
  go_ret
  exact⟨rfl,Grew.refl _⟩
 ·have hpos:0 < s.size:=Nat.pos_of_ne_zero hz
  have hne:¬ s.toList=[]:=fun h=>hz (by
   rw [ByteArray.toList_eq] at h
   exact congrArg List.length h)
  have hie:s.toList.isEmpty=false:=by rw [List.isEmpty_eq_false_iff];exact hne
  obtain ⟨z,hz1,hz2,hzc⟩:=digit_any s[0]
  obtain ⟨y,hy1,hyc⟩:=trim_any s hs
  have key:idn s=(decide (s.size≤32)&&(!dig s[0]&&(s.data.toList.all wd&&!kwT.contains s.data.toList))):=by
   have h1:s.data.toList[0]'hpos=s[0]:=rfl
   cases hx:s.data.toList with
   | nil=>exact absurd (congrArg List.length hx) hz
   | cons a r =>
     simp only [hx,zz2] at h1
     have h2:s.size=(a :: r).length:=congrArg List.length hx
     subst h1
     rw [idn,hx,idB_eq,h2]
  rw [← hz1,← hy1] at key
  rw [key]
  have HZ:=Lib.hid hzc
  have HY:=Lib.hid hyc
  have HK:=Lib.hid (fun W (hW:Grew w W)=>iskw_any s W (HE.out.grew hW))
  clear key hz1 hy1 hzc hyc HE
  generalize kwT.contains s.data.toList=kb at HK ⊢
  by_cases h32:s.size≤32
  ·rw [decide_eq_true h32,Bool.true_and]
   by_cases hz0:z < 0
   ·rw [decide_eq_true hz0,Bool.true_and]
    cases y with
    | nil =>
      rw [List.isEmpty_nil,Bool.true_and]
      go_enter Tryz.func57,Tryz.ntmps57
      go_wp2_with (first
       | (go_at_call 109;(with_reducible refine(HZ.out _).mono ?_);rintro e w1 ⟨rfl,hw1⟩;subst w1)
       | (go_at_call 110;(with_reducible refine(HY.out _).mono ?_);rintro e w1 ⟨rfl,hg1⟩;have HG:=Lib.hid hg1;clear hg1)
       | (go_at_call 111;(with_reducible refine(HK.out _ HG.out).mono ?_);rintro e w2 ⟨rfl,hw2⟩;subst w2))
      go_ret
      exact⟨rfl,HG.out⟩
    | cons a r =>
      have hey:((a :: r).isEmpty)=false:=rfl
      rw [hey,Bool.false_and]
      go_enter Tryz.func57,Tryz.ntmps57
      go_wp2_with (first
       | (go_at_call 109;(with_reducible refine(HZ.out _).mono ?_);rintro e w1 ⟨rfl,hw1⟩;subst w1)
       | (go_at_call 110;(with_reducible refine(HY.out _).mono ?_);rintro e w1 ⟨rfl,hg1⟩;have HG:=Lib.hid hg1;clear hg1))
      go_ret
      exact⟨rfl,HG.out⟩
   ·rw [decide_eq_false hz0,Bool.false_and]
    go_enter Tryz.func57,Tryz.ntmps57
    go_wp2_with (go_at_call 109;(with_reducible refine(HZ.out _).mono ?_);rintro e w1 ⟨rfl,hw1⟩;subst w1)
    go_ret
    exact⟨rfl,Grew.refl _⟩
  ·rw [decide_eq_false h32,Bool.false_and]
   go_enter Tryz.func57,Tryz.ntmps57
   go_wp2
   go_ret
   exact⟨rfl,Grew.refl _⟩
theorem name_any (s:ByteArray) (nm:Bool) (hs:s.size≤1048576) (w:World) (hE:Env w):Calls Tryz.prog 99 #[.string s,.bool nm] w fun e w'=>e=.returned (.bool (if nm then idn s else decide (s=⟨#[]⟩)))∧Grew w w':=by
 have HC:=Lib.hid (isid_any s hs w hE)
 clear hE
 cases nm with
 | true =>
   rw [if_pos rfl]
   go_enter Tryz.func99,Tryz.ntmps99
   go_wp2_with (go_at_call 57;(with_reducible refine(HC.out).mono ?_);rintro e w1 ⟨rfl,hg1⟩;have HG:=Lib.hid hg1;clear hg1)
   go_ret
   exact⟨rfl,HG.out⟩
 | false =>
   rw [if_neg (by simp)]
   have hk:s.toList.isEmpty=decide (s=⟨#[]⟩):=by
    rw [ByteArray.toList_eq,Bool.eq_iff_iff,List.isEmpty_iff,decide_eq_true_iff]
    exact⟨fun h=>by cases s;simp at h;rw [h],fun h=>by rw [h]⟩
   have HK:=Lib.hid hk
   clear hk
   generalize decide (s=⟨#[]⟩)=d at HK ⊢
   go_enter Tryz.func99,Tryz.ntmps99
   go_wp2
   go_ret
   exact⟨ret_bool (by have:=HK.out;simpa using this),Grew.refl _⟩
theorem signed_any (z:Int) (w:World):Calls Tryz.prog 107 #[.int .i16 z] w fun e w'=>e=.returned (.bool (decide (-32767≤z)))∧w=w':=by
 go_enter Tryz.func107,Tryz.ntmps107
 go_wp2
 go_ret
 exact⟨rfl,rfl⟩
theorem isnum_any (z:Int) (w:World):Calls Tryz.prog 108 #[.int .i64 z] w fun e w'=>e=.returned (.bool (num1 z 0))∧w=w':=by
 by_cases h:(0:Int)≤z
 ·have hk:num1 z 0=decide (z≤32767):=by rw [num1,decide_eq_true h,Bool.true_and]
  rw [hk]
  clear hk
  go_enter Tryz.func108,Tryz.ntmps108
  go_wp2
  go_ret
  exact⟨rfl,rfl⟩
 ·have hk:num1 z 0=false:=by rw [num1,decide_eq_false h,Bool.false_and]
  rw [hk]
  clear hk
  go_enter Tryz.func108,Tryz.ntmps108
  go_wp2
  go_ret
  exact⟨rfl,rfl⟩
end Go.Proofs.YtcknpcbkofgdoaaGreatDoor
namespace Go.Proofs.YtcknpcbkofgdoaaGreatDoor
open Go Go.RowKit Go.IntWalk
set_option linter.unusedSimpArgs false
set_option linter.unusedVariables false
set_option maxRecDepth 8000
set_option maxHeartbeats 4000000 in
theorem everyX_any (g:FuncId) (cb:Array Value) (eg:∀args w,(callFunc g args).run Tryz.prog w=.ok (.enter g args) w) (l:List Xp) (P:Xp→Bool) (B:Nat→Prop) (w:World) (p:Option Addr) (c:Nat) (hx:XL B w p c l)
 (hf:∀x ∈ l,∀(p_:Option Addr) (c_:Nat) (W:World),XL B W p_ c_ x.ar→x.s.size≤1048576∧x.v≤32767→Grew w W→Calls Tryz.prog g (#[xv x.k x.s x.v x.o p_ x.ar.length c_ x.q]++cb) W fun e w'=>e=.returned (.bool (P x))∧Grew W w') :
 Calls Tryz.prog 100 #[.slice p l.length c,.func (.func g) #[] cb] w fun e w'=>e=.returned (.bool (l.all P))∧Grew w w':=by
 have HX:=Lib.hid hx
 have HF:=Lib.hid hf
 have hcap:l.length≤c:=hx.cap.1
 have hmax:=hx.cap.2.1
 obtain ⟨b,hb⟩:∃b,l.all P=b:=⟨_,rfl⟩
 have HOK:=Lib.hid hb
 have HFALSE:=Lib.hid (fun(x:Xp) (hm:x ∈ l) (h:P x=false)=>(show b=false from hb ▸ all_no hm h))
 rw [hb]
 clear hx hf hb
 go_enter Tryz.func100,Tryz.ntmps100
 go_wp2
 go_loopg [6,9] l.length (fun gg xv_ iv wr=>∃(j:Nat),iv=.int .i64 (j:Int)∧j≤l.length∧gg=l.length - j∧Hid ((l.take j).all P=true)∧Hid (Grew w wr))
 case atStart=>exact⟨0,rfl,Nat.zero_le _,rfl,Lib.hid rfl,Lib.hid (Grew.refl _)⟩
 case round =>
  obtain ⟨j,rfl,hj,rfl,HI,HG⟩:=hrel
  by_cases hlt:j < l.length
  ·
   obtain ⟨bz,oz,pz,cz,rfl,hbz,haz,hcz⟩:=HX.out.get j hlt
   have hmz:=List.getElem_mem hlt
   have hnz:=nXs_mem hmz
   have htz:=List.take_succ_eq_append_getElem hlt
   have HLz:=Lib.hid (Nat.succ_le_of_lt hlt)
   generalize l[j]=xz at *
   obtain ⟨kz,sz,vz,o_z,rz,qz⟩:=xz
   replace hbz:sz.size≤1048576∧vz≤32767:=hbz.2
   have HTz:=Lib.hid htz
   have HAz:Hid (XL B w pz cz rz):=Lib.hid haz
   have hcapz:rz.length≤cz:=haz.cap.1
   have hmaxz:=haz.cap.2.1
   replace hcz:∀i_ u_,(xdc ⟨kz,sz,vz,o_z,pz,rz.length,cz,qz⟩)[i_]?=some u_→wr.cell? ⟨bz,oz+j * 6+i_,none⟩=some u_:=fun i_ u_ h_=>Atv.kept (hcz i_ u_ h_) HG.out
   have cz0:wr.cell? ⟨bz,oz+j * 6,none⟩=some (.int .i64 kz):=by simpa using hcz 0 _ rfl
   have cz1:wr.cell? ⟨bz,oz+j * 6+1,none⟩=some (.string sz):=hcz 1 _ rfl
   have cz2:wr.cell? ⟨bz,oz+j * 6+2,none⟩=some (.int .i16 vz):=hcz 2 _ rfl
   have cz3:wr.cell? ⟨bz,oz+j * 6+3,none⟩=some (.int .i64 o_z):=hcz 3 _ rfl
   have cz4:wr.cell? ⟨bz,oz+j * 6+4,none⟩=some (.slice pz rz.length cz):=hcz 4 _ rfl
   have cz5:wr.cell? ⟨bz,oz+j * 6+5,none⟩=some (.int .i64 qz):=hcz 5 _ rfl
   clear hcz haz htz
   obtain ⟨d,hd⟩:∃d,P ⟨kz,sz,vz,o_z,rz,qz⟩=d:=⟨_,rfl⟩
   have HD:=Lib.hid hd
   have HC:=Lib.hid (fun W (hW:Grew w W)=>(show Calls Tryz.prog g (#[xv kz sz vz o_z pz rz.length cz qz]++cb) W fun e w'=>e=.returned (.bool d)∧Grew W w' from hd ▸ HF.out ⟨kz,sz,vz,o_z,rz,qz⟩ hmz pz cz _ (HAz.out.kept hW) hbz hW))
   have HNO:=Lib.hid (fun(h:d=false)=>HFALSE.out _ hmz (hd.trans h))
   clear hmz hd HF HFALSE
   cases d with
   | false =>
     have HN2:Hid (b=false):=Lib.hid (HNO.out rfl)
     clear HNO
     go_wp2_with (go_at_fn g;refine(HC.out _ (HG.out.alloc _)).mono ?_;rintro e w1 ⟨rfl,g1⟩;have HG1:=Lib.hid ((HG.out.alloc _).trans g1);clear g1)
     go_ret
     exact⟨ret_bool HN2.out.symm,HG1.out⟩
   | true =>
     go_wp2_with (go_at_fn g;refine(HC.out _ (HG.out.alloc _)).mono ?_;rintro e w1 ⟨rfl,g1⟩;have HG1:=Lib.hid ((HG.out.alloc _).trans g1);clear g1)
     go_roundg (l.length - (j+1))
     case measure=>have:=HLz.out;omega
     case rel=>exact⟨j+1,by go_num,HLz.out,rfl,Lib.hid (by rw [all_snoc HTz.out,HI.out,Bool.true_and];exact HD.out),HG1⟩
  ·obtain rfl:j=l.length:=by omega
   rw [List.take_length] at HI
   go_wp2
   go_ret
   exact⟨ret_bool (HI.out.symm.trans HOK.out),HG.out⟩
set_option maxHeartbeats 4000000 in
theorem everyS_any (g:FuncId) (cb:Array Value) (eg:∀args w,(callFunc g args).run Tryz.prog w=.ok (.enter g args) w) (l:List Sm) (P:Sm→Bool) (B:Nat→Prop) (w:World) (p:Option Addr) (c:Nat) (hx:SL B w p c l)
 (hf:∀x ∈ l,∀(pa_:Option Addr) (ca_:Nat) (pb_:Option Addr) (cb_:Nat) (pe_:Option Addr) (ce_:Nat) (W:World),XL B W pa_ ca_ x.ar→SL B W pb_ cb_ x.b→SL B W pe_ ce_ x.e→x.s.size≤1048576→Grew w W→Calls Tryz.prog g (#[sv x.k x.s x.n pa_ x.ar.length ca_ pb_ x.b.length cb_ pe_ x.e.length ce_ x.q]++cb) W fun e w'=>e=.returned (.bool (P x))∧Grew W w') :
 Calls Tryz.prog 113 #[.slice p l.length c,.func (.func g) #[] cb] w fun e w'=>e=.returned (.bool (l.all P))∧Grew w w':=by
 have HX:=Lib.hid hx
 have HF:=Lib.hid hf
 have hcap:l.length≤c:=hx.cap.1
 have hmax:=hx.cap.2.1
 obtain ⟨b,hb⟩:∃b,l.all P=b:=⟨_,rfl⟩
 have HOK:=Lib.hid hb
 have HFALSE:=Lib.hid (fun(x:Sm) (hm:x ∈ l) (h:P x=false)=>(show b=false from hb ▸ all_no hm h))
 rw [hb]
 clear hx hf hb
 go_enter Tryz.func113,Tryz.ntmps113
 go_wp2
 go_loopg [6,9] l.length (fun gg xv_ iv wr=>∃(j:Nat),iv=.int .i64 (j:Int)∧j≤l.length∧gg=l.length - j∧Hid ((l.take j).all P=true)∧Hid (Grew w wr))
 case atStart=>exact⟨0,rfl,Nat.zero_le _,rfl,Lib.hid rfl,Lib.hid (Grew.refl _)⟩
 case round =>
  obtain ⟨j,rfl,hj,rfl,HI,HG⟩:=hrel
  by_cases hlt:j < l.length
  ·
   obtain ⟨bz,oz,paz,caz,pbz,cbz,pez,cez,rfl,hbz,haz,hboz,helz,hcz⟩:=HX.out.get j hlt
   have hmz:=List.getElem_mem hlt
   have hnz:=nSs_mem hmz
   have htz:=List.take_succ_eq_append_getElem hlt
   have HLz:=Lib.hid (Nat.succ_le_of_lt hlt)
   generalize l[j]=xz at *
   obtain ⟨kz,sz,nz,rz,yz,ez,qz⟩:=xz
   replace hbz:sz.size≤1048576:=hbz.2
   have HTz:=Lib.hid htz
   have HAz:Hid (XL B w paz caz rz):=Lib.hid haz
   have HYz:Hid (SL B w pbz cbz yz):=Lib.hid hboz
   have HEz:Hid (SL B w pez cez ez):=Lib.hid helz
   have hcapz:rz.length≤caz∧yz.length≤cbz∧ez.length≤cez:=⟨haz.cap.1,hboz.cap.1,helz.cap.1⟩
   have hmaxz:=And.intro haz.cap.2.1 (And.intro hboz.cap.2.1 helz.cap.2.1)
   replace hcz:∀i_ u_,(sdc ⟨kz,sz,nz,paz,rz.length,caz,pbz,yz.length,cbz,pez,ez.length,cez,qz⟩)[i_]?=some u_→wr.cell? ⟨bz,oz+j * 7+i_,none⟩=some u_:=fun i_ u_ h_=>Atv.kept (hcz i_ u_ h_) HG.out
   have cz0:wr.cell? ⟨bz,oz+j * 7,none⟩=some (.int .i64 kz):=by simpa using hcz 0 _ rfl
   have cz1:wr.cell? ⟨bz,oz+j * 7+1,none⟩=some (.string sz):=hcz 1 _ rfl
   have cz2:wr.cell? ⟨bz,oz+j * 7+2,none⟩=some (.int .i64 nz):=hcz 2 _ rfl
   have cz3:wr.cell? ⟨bz,oz+j * 7+3,none⟩=some (.slice paz rz.length caz):=hcz 3 _ rfl
   have cz4:wr.cell? ⟨bz,oz+j * 7+4,none⟩=some (.slice pbz yz.length cbz):=hcz 4 _ rfl
   have cz5:wr.cell? ⟨bz,oz+j * 7+5,none⟩=some (.slice pez ez.length cez):=hcz 5 _ rfl
   have cz6:wr.cell? ⟨bz,oz+j * 7+6,none⟩=some (.int .i64 qz):=hcz 6 _ rfl
   clear hcz haz hboz helz htz
   obtain ⟨d,hd⟩:∃d,P ⟨kz,sz,nz,rz,yz,ez,qz⟩=d:=⟨_,rfl⟩
   have HD:=Lib.hid hd
   have HC:=Lib.hid (fun W (hW:Grew w W)=>(show Calls Tryz.prog g (#[sv kz sz nz paz rz.length caz pbz yz.length cbz pez ez.length cez qz]++cb) W fun e w'=>e=.returned (.bool d)∧Grew W w' from hd ▸ HF.out ⟨kz,sz,nz,rz,yz,ez,qz⟩ hmz paz caz pbz cbz pez cez _ (HAz.out.kept hW) (HYz.out.kept hW) (HEz.out.kept hW) hbz hW))
   have HNO:=Lib.hid (fun(h:d=false)=>HFALSE.out _ hmz (hd.trans h))
   clear hmz hd HF HFALSE
   cases d with
   | false =>
     have HN2:Hid (b=false):=Lib.hid (HNO.out rfl)
     clear HNO
     go_wp2_with (go_at_fn g;refine(HC.out _ (HG.out.alloc _)).mono ?_;rintro e w1 ⟨rfl,g1⟩;have HG1:=Lib.hid ((HG.out.alloc _).trans g1);clear g1)
     go_ret
     exact⟨ret_bool HN2.out.symm,HG1.out⟩
   | true =>
     go_wp2_with (go_at_fn g;refine(HC.out _ (HG.out.alloc _)).mono ?_;rintro e w1 ⟨rfl,g1⟩;have HG1:=Lib.hid ((HG.out.alloc _).trans g1);clear g1)
     go_roundg (l.length - (j+1))
     case measure=>have:=HLz.out;omega
     case rel=>exact⟨j+1,by go_num,HLz.out,rfl,Lib.hid (by rw [all_snoc HTz.out,HI.out,Bool.true_and];exact HD.out),HG1⟩
  ·obtain rfl:j=l.length:=by omega
   rw [List.take_length] at HI
   go_wp2
   go_ret
   exact⟨ret_bool (HI.out.symm.trans HOK.out),HG.out⟩
set_option maxHeartbeats 4000000 in
theorem everyT_any (g:FuncId) (cb:Array Value) (eg:∀args w,(callFunc g args).run Tryz.prog w=.ok (.enter g args) w) (l:List Ta) (P:Ta→Bool) (B:Nat→Prop) (w:World) (p:Option Addr) (c:Nat) (hx:TL B w p c l)
 (hf:∀x ∈ l,∀(pb_:Option Addr) (cb_:Nat) (W:World),SL B W pb_ cb_ x.b→x.s.size≤1048576∧x.c.size≤1048576∧x.m.size≤1048576→Grew w W→Calls Tryz.prog g (#[tv x.s x.p x.d x.c x.m x.w pb_ x.b.length cb_ x.q]++cb) W fun e w'=>e=.returned (.bool (P x))∧Grew W w') :
 Calls Tryz.prog 60 #[.slice p l.length c,.func (.func g) #[] cb] w fun e w'=>e=.returned (.bool (l.all P))∧Grew w w':=by
 have HX:=Lib.hid hx
 have HF:=Lib.hid hf
 have hcap:l.length≤c:=hx.cap.1
 have hmax:=hx.cap.2.1
 obtain ⟨b,hb⟩:∃b,l.all P=b:=⟨_,rfl⟩
 have HOK:=Lib.hid hb
 have HFALSE:=Lib.hid (fun(x:Ta) (hm:x ∈ l) (h:P x=false)=>(show b=false from hb ▸ all_no hm h))
 rw [hb]
 clear hx hf hb
 go_enter Tryz.func60,Tryz.ntmps60
 go_wp2
 go_loopg [6,9] l.length (fun gg xv_ iv wr=>∃(j:Nat),iv=.int .i64 (j:Int)∧j≤l.length∧gg=l.length - j∧Hid ((l.take j).all P=true)∧Hid (Grew w wr))
 case atStart=>exact⟨0,rfl,Nat.zero_le _,rfl,Lib.hid rfl,Lib.hid (Grew.refl _)⟩
 case round =>
  obtain ⟨j,rfl,hj,rfl,HI,HG⟩:=hrel
  by_cases hlt:j < l.length
  ·
   obtain ⟨bz,oz,pbz,cbz,rfl,hbz,hboz,hcz⟩:=HX.out.get j hlt
   have hmz:=List.getElem_mem hlt
   have htz:=List.take_succ_eq_append_getElem hlt
   have HLz:=Lib.hid (Nat.succ_le_of_lt hlt)
   generalize l[j]=xz at *
   obtain ⟨sz,iz,dz,hz,mz,nz,yz,qz⟩:=xz
   replace hbz:sz.size≤1048576∧hz.size≤1048576∧mz.size≤1048576:=hbz.2
   have HTz:=Lib.hid htz
   have HYz:Hid (SL B w pbz cbz yz):=Lib.hid hboz
   have hcapz:yz.length≤cbz:=hboz.cap.1
   have hmaxz:=hboz.cap.2.1
   replace hcz:∀i_ u_,(tdc ⟨sz,iz,dz,hz,mz,nz,pbz,yz.length,cbz,qz⟩)[i_]?=some u_→wr.cell? ⟨bz,oz+j * 8+i_,none⟩=some u_:=fun i_ u_ h_=>Atv.kept (hcz i_ u_ h_) HG.out
   have cz0:wr.cell? ⟨bz,oz+j * 8,none⟩=some (.string sz):=by simpa using hcz 0 _ rfl
   have cz1:wr.cell? ⟨bz,oz+j * 8+1,none⟩=some (.int .i64 iz):=hcz 1 _ rfl
   have cz2:wr.cell? ⟨bz,oz+j * 8+2,none⟩=some (.int .i64 dz):=hcz 2 _ rfl
   have cz3:wr.cell? ⟨bz,oz+j * 8+3,none⟩=some (.string hz):=hcz 3 _ rfl
   have cz4:wr.cell? ⟨bz,oz+j * 8+4,none⟩=some (.string mz):=hcz 4 _ rfl
   have cz5:wr.cell? ⟨bz,oz+j * 8+5,none⟩=some (.int .i64 nz):=hcz 5 _ rfl
   have cz6:wr.cell? ⟨bz,oz+j * 8+6,none⟩=some (.slice pbz yz.length cbz):=hcz 6 _ rfl
   have cz7:wr.cell? ⟨bz,oz+j * 8+7,none⟩=some (.int .i64 qz):=hcz 7 _ rfl
   clear hcz hboz htz
   obtain ⟨d,hd⟩:∃d,P ⟨sz,iz,dz,hz,mz,nz,yz,qz⟩=d:=⟨_,rfl⟩
   have HD:=Lib.hid hd
   have HC:=Lib.hid (fun W (hW:Grew w W)=>(show Calls Tryz.prog g (#[tv sz iz dz hz mz nz pbz yz.length cbz qz]++cb) W fun e w'=>e=.returned (.bool d)∧Grew W w' from hd ▸ HF.out ⟨sz,iz,dz,hz,mz,nz,yz,qz⟩ hmz pbz cbz _ (HYz.out.kept hW) hbz hW))
   have HNO:=Lib.hid (fun(h:d=false)=>HFALSE.out _ hmz (hd.trans h))
   clear hmz hd HF HFALSE
   cases d with
   | false =>
     have HN2:Hid (b=false):=Lib.hid (HNO.out rfl)
     clear HNO
     go_wp2_with (go_at_fn g;refine(HC.out _ (HG.out.alloc _)).mono ?_;rintro e w1 ⟨rfl,g1⟩;have HG1:=Lib.hid ((HG.out.alloc _).trans g1);clear g1)
     go_ret
     exact⟨ret_bool HN2.out.symm,HG1.out⟩
   | true =>
     go_wp2_with (go_at_fn g;refine(HC.out _ (HG.out.alloc _)).mono ?_;rintro e w1 ⟨rfl,g1⟩;have HG1:=Lib.hid ((HG.out.alloc _).trans g1);clear g1)
     go_roundg (l.length - (j+1))
     case measure=>have:=HLz.out;omega
     case rel=>exact⟨j+1,by go_num,HLz.out,rfl,Lib.hid (by rw [all_snoc HTz.out,HI.out,Bool.true_and];exact HD.out),HG1⟩
  ·obtain rfl:j=l.length:=by omega
   rw [List.take_length] at HI
   go_wp2
   go_ret
   exact⟨ret_bool (HI.out.symm.trans HOK.out),HG.out⟩
set_option maxHeartbeats 4000000 in
theorem everyC_any (g:FuncId) (cb:Array Value) (eg:∀args w,(callFunc g args).run Tryz.prog w=.ok (.enter g args) w) (l:List Cn) (P:Cn→Bool) (B:Nat→Prop) (w:World) (p:Option Addr) (c:Nat) (hx:InN FlatAt 3 cnc B w p l.length c l)
 (hf:∀x ∈ l,∀(W:World),Grew w W→Calls Tryz.prog g (#[.agg #[.string x.s,.int .i16 x.v,.int .i64 x.q]]++cb) W fun e w'=>e=.returned (.bool (P x))∧Grew W w') :
 Calls Tryz.prog 52 #[.slice p l.length c,.func (.func g) #[] cb] w fun e w'=>e=.returned (.bool (l.all P))∧Grew w w':=by
 have HX:=Lib.hid hx
 have HF:=Lib.hid hf
 have hcap:=hx.cap (hangsF encCn)
 obtain ⟨b,hb⟩:∃b,l.all P=b:=⟨_,rfl⟩
 have HOK:=Lib.hid hb
 have HFALSE:=Lib.hid (fun(x:Cn) (hm:x ∈ l) (h:P x=false)=>(show b=false from hb ▸ all_no hm h))
 rw [hb]
 clear hx hf hb
 go_enter Tryz.func52,Tryz.ntmps52
 go_wp2
 go_loopg [6,9] l.length (fun gg xv_ iv wr=>∃(j:Nat),iv=.int .i64 (j:Int)∧j≤l.length∧gg=l.length - j∧Hid ((l.take j).all P=true)∧Hid (Grew w wr))
 case atStart=>exact⟨0,rfl,Nat.zero_le _,rfl,Lib.hid rfl,Lib.hid (Grew.refl _)⟩
 case round =>
  obtain ⟨j,rfl,hj,rfl,HI,HG⟩:=hrel
  by_cases hlt:j < l.length
  ·
   obtain ⟨bz,oz,rfl,hcz⟩:=HX.out.getF j hlt
   have hmz:=List.getElem_mem hlt
   have htz:=List.take_succ_eq_append_getElem hlt
   have HLz:=Lib.hid (Nat.succ_le_of_lt hlt)
   generalize l[j]=xz at *
   obtain ⟨sz,vz,qz⟩:=xz
   have HTz:=Lib.hid htz
   replace hcz:∀i_ u_,([.string sz,.int .i16 vz,.int .i64 qz]:List Value)[i_]?=some u_→wr.cell? ⟨bz,oz+j * 3+i_,none⟩=some u_:=fun i_ u_ h_=>Atv.kept (hcz i_ u_ h_) HG.out
   have cz0:wr.cell? ⟨bz,oz+j * 3,none⟩=some (.string sz):=by simpa using hcz 0 _ rfl
   have cz1:wr.cell? ⟨bz,oz+j * 3+1,none⟩=some (.int .i16 vz):=hcz 1 _ rfl
   have cz2:wr.cell? ⟨bz,oz+j * 3+2,none⟩=some (.int .i64 qz):=hcz 2 _ rfl
   clear hcz htz
   obtain ⟨d,hd⟩:∃d,P ⟨sz,vz,qz⟩=d:=⟨_,rfl⟩
   have HD:=Lib.hid hd
   have HC:=Lib.hid (fun W (hW:Grew w W)=>(show Calls Tryz.prog g (#[.agg #[.string sz,.int .i16 vz,.int .i64 qz]]++cb) W fun e w'=>e=.returned (.bool d)∧Grew W w' from hd ▸ HF.out ⟨sz,vz,qz⟩ hmz _ hW))
   have HNO:=Lib.hid (fun(h:d=false)=>HFALSE.out _ hmz (hd.trans h))
   clear hmz hd HF HFALSE
   cases d with
   | false =>
     have HN2:Hid (b=false):=Lib.hid (HNO.out rfl)
     clear HNO
     go_wp2_with (go_at_fn g;refine(HC.out _ (HG.out.alloc _)).mono ?_;rintro e w1 ⟨rfl,g1⟩;have HG1:=Lib.hid ((HG.out.alloc _).trans g1);clear g1)
     go_ret
     exact⟨ret_bool HN2.out.symm,HG1.out⟩
   | true =>
     go_wp2_with (go_at_fn g;refine(HC.out _ (HG.out.alloc _)).mono ?_;rintro e w1 ⟨rfl,g1⟩;have HG1:=Lib.hid ((HG.out.alloc _).trans g1);clear g1)
     go_roundg (l.length - (j+1))
     case measure=>have:=HLz.out;omega
     case rel=>exact⟨j+1,by go_num,HLz.out,rfl,Lib.hid (by rw [all_snoc HTz.out,HI.out,Bool.true_and];exact HD.out),HG1⟩
  ·obtain rfl:j=l.length:=by omega
   rw [List.take_length] at HI
   go_wp2
   go_ret
   exact⟨ret_bool (HI.out.symm.trans HOK.out),HG.out⟩
set_option maxHeartbeats 4000000 in
theorem everyG_any (g:FuncId) (cb:Array Value) (eg:∀args w,(callFunc g args).run Tryz.prog w=.ok (.enter g args) w) (l:List Gl) (P:Gl→Bool) (B:Nat→Prop) (w:World) (p:Option Addr) (c:Nat) (hx:InN FlatAt 4 glc B w p l.length c l)
 (hf:∀x ∈ l,∀(W:World),Grew w W→Calls Tryz.prog g (#[.agg #[.string x.s,.int .i64 x.l,.int .i16 x.i,.int .i64 x.q]]++cb) W fun e w'=>e=.returned (.bool (P x))∧Grew W w') :
 Calls Tryz.prog 54 #[.slice p l.length c,.func (.func g) #[] cb] w fun e w'=>e=.returned (.bool (l.all P))∧Grew w w':=by
 have HX:=Lib.hid hx
 have HF:=Lib.hid hf
 have hcap:=hx.cap (hangsF encGl)
 obtain ⟨b,hb⟩:∃b,l.all P=b:=⟨_,rfl⟩
 have HOK:=Lib.hid hb
 have HFALSE:=Lib.hid (fun(x:Gl) (hm:x ∈ l) (h:P x=false)=>(show b=false from hb ▸ all_no hm h))
 rw [hb]
 clear hx hf hb
 go_enter Tryz.func54,Tryz.ntmps54
 go_wp2
 go_loopg [6,9] l.length (fun gg xv_ iv wr=>∃(j:Nat),iv=.int .i64 (j:Int)∧j≤l.length∧gg=l.length - j∧Hid ((l.take j).all P=true)∧Hid (Grew w wr))
 case atStart=>exact⟨0,rfl,Nat.zero_le _,rfl,Lib.hid rfl,Lib.hid (Grew.refl _)⟩
 case round =>
  obtain ⟨j,rfl,hj,rfl,HI,HG⟩:=hrel
  by_cases hlt:j < l.length
  ·
   obtain ⟨bz,oz,rfl,hcz⟩:=HX.out.getF j hlt
   have hmz:=List.getElem_mem hlt
   have htz:=List.take_succ_eq_append_getElem hlt
   have HLz:=Lib.hid (Nat.succ_le_of_lt hlt)
   generalize l[j]=xz at *
   obtain ⟨sz,lz,iz,qz⟩:=xz
   have HTz:=Lib.hid htz
   replace hcz:∀i_ u_,([.string sz,.int .i64 lz,.int .i16 iz,.int .i64 qz]:List Value)[i_]?=some u_→wr.cell? ⟨bz,oz+j * 4+i_,none⟩=some u_:=fun i_ u_ h_=>Atv.kept (hcz i_ u_ h_) HG.out
   have cz0:wr.cell? ⟨bz,oz+j * 4,none⟩=some (.string sz):=by simpa using hcz 0 _ rfl
   have cz1:wr.cell? ⟨bz,oz+j * 4+1,none⟩=some (.int .i64 lz):=hcz 1 _ rfl
   have cz2:wr.cell? ⟨bz,oz+j * 4+2,none⟩=some (.int .i16 iz):=hcz 2 _ rfl
   have cz3:wr.cell? ⟨bz,oz+j * 4+3,none⟩=some (.int .i64 qz):=hcz 3 _ rfl
   clear hcz htz
   obtain ⟨d,hd⟩:∃d,P ⟨sz,lz,iz,qz⟩=d:=⟨_,rfl⟩
   have HD:=Lib.hid hd
   have HC:=Lib.hid (fun W (hW:Grew w W)=>(show Calls Tryz.prog g (#[.agg #[.string sz,.int .i64 lz,.int .i16 iz,.int .i64 qz]]++cb) W fun e w'=>e=.returned (.bool d)∧Grew W w' from hd ▸ HF.out ⟨sz,lz,iz,qz⟩ hmz _ hW))
   have HNO:=Lib.hid (fun(h:d=false)=>HFALSE.out _ hmz (hd.trans h))
   clear hmz hd HF HFALSE
   cases d with
   | false =>
     have HN2:Hid (b=false):=Lib.hid (HNO.out rfl)
     clear HNO
     go_wp2_with (go_at_fn g;refine(HC.out _ (HG.out.alloc _)).mono ?_;rintro e w1 ⟨rfl,g1⟩;have HG1:=Lib.hid ((HG.out.alloc _).trans g1);clear g1)
     go_ret
     exact⟨ret_bool HN2.out.symm,HG1.out⟩
   | true =>
     go_wp2_with (go_at_fn g;refine(HC.out _ (HG.out.alloc _)).mono ?_;rintro e w1 ⟨rfl,g1⟩;have HG1:=Lib.hid ((HG.out.alloc _).trans g1);clear g1)
     go_roundg (l.length - (j+1))
     case measure=>have:=HLz.out;omega
     case rel=>exact⟨j+1,by go_num,HLz.out,rfl,Lib.hid (by rw [all_snoc HTz.out,HI.out,Bool.true_and];exact HD.out),HG1⟩
  ·obtain rfl:j=l.length:=by omega
   rw [List.take_length] at HI
   go_wp2
   go_ret
   exact⟨ret_bool (HI.out.symm.trans HOK.out),HG.out⟩
set_option maxHeartbeats 4000000 in
theorem everyH_any (g:FuncId) (cb:Array Value) (eg:∀args w,(callFunc g args).run Tryz.prog w=.ok (.enter g args) w) (l:List Cn) (P:Cn→Bool) (B:Nat→Prop) (w:World) (p:Option Addr) (c:Nat) (hx:InN FlatAt 3 chc B w p l.length c l)
 (hf:∀x ∈ l,∀(W:World),Grew w W→Calls Tryz.prog g (#[.agg #[.string x.s,.int .i64 x.v,.int .i64 x.q]]++cb) W fun e w'=>e=.returned (.bool (P x))∧Grew W w') :
 Calls Tryz.prog 58 #[.slice p l.length c,.func (.func g) #[] cb] w fun e w'=>e=.returned (.bool (l.all P))∧Grew w w':=by
 have HX:=Lib.hid hx
 have HF:=Lib.hid hf
 have hcap:=hx.cap (hangsF encCh)
 obtain ⟨b,hb⟩:∃b,l.all P=b:=⟨_,rfl⟩
 have HOK:=Lib.hid hb
 have HFALSE:=Lib.hid (fun(x:Cn) (hm:x ∈ l) (h:P x=false)=>(show b=false from hb ▸ all_no hm h))
 rw [hb]
 clear hx hf hb
 go_enter Tryz.func58,Tryz.ntmps58
 go_wp2
 go_loopg [6,9] l.length (fun gg xv_ iv wr=>∃(j:Nat),iv=.int .i64 (j:Int)∧j≤l.length∧gg=l.length - j∧Hid ((l.take j).all P=true)∧Hid (Grew w wr))
 case atStart=>exact⟨0,rfl,Nat.zero_le _,rfl,Lib.hid rfl,Lib.hid (Grew.refl _)⟩
 case round =>
  obtain ⟨j,rfl,hj,rfl,HI,HG⟩:=hrel
  by_cases hlt:j < l.length
  ·
   obtain ⟨bz,oz,rfl,hcz⟩:=HX.out.getF j hlt
   have hmz:=List.getElem_mem hlt
   have htz:=List.take_succ_eq_append_getElem hlt
   have HLz:=Lib.hid (Nat.succ_le_of_lt hlt)
   generalize l[j]=xz at *
   obtain ⟨sz,vz,qz⟩:=xz
   have HTz:=Lib.hid htz
   replace hcz:∀i_ u_,([.string sz,.int .i64 vz,.int .i64 qz]:List Value)[i_]?=some u_→wr.cell? ⟨bz,oz+j * 3+i_,none⟩=some u_:=fun i_ u_ h_=>Atv.kept (hcz i_ u_ h_) HG.out
   have cz0:wr.cell? ⟨bz,oz+j * 3,none⟩=some (.string sz):=by simpa using hcz 0 _ rfl
   have cz1:wr.cell? ⟨bz,oz+j * 3+1,none⟩=some (.int .i64 vz):=hcz 1 _ rfl
   have cz2:wr.cell? ⟨bz,oz+j * 3+2,none⟩=some (.int .i64 qz):=hcz 2 _ rfl
   clear hcz htz
   obtain ⟨d,hd⟩:∃d,P ⟨sz,vz,qz⟩=d:=⟨_,rfl⟩
   have HD:=Lib.hid hd
   have HC:=Lib.hid (fun W (hW:Grew w W)=>(show Calls Tryz.prog g (#[.agg #[.string sz,.int .i64 vz,.int .i64 qz]]++cb) W fun e w'=>e=.returned (.bool d)∧Grew W w' from hd ▸ HF.out ⟨sz,vz,qz⟩ hmz _ hW))
   have HNO:=Lib.hid (fun(h:d=false)=>HFALSE.out _ hmz (hd.trans h))
   clear hmz hd HF HFALSE
   cases d with
   | false =>
     have HN2:Hid (b=false):=Lib.hid (HNO.out rfl)
     clear HNO
     go_wp2_with (go_at_fn g;refine(HC.out _ (HG.out.alloc _)).mono ?_;rintro e w1 ⟨rfl,g1⟩;have HG1:=Lib.hid ((HG.out.alloc _).trans g1);clear g1)
     go_ret
     exact⟨ret_bool HN2.out.symm,HG1.out⟩
   | true =>
     go_wp2_with (go_at_fn g;refine(HC.out _ (HG.out.alloc _)).mono ?_;rintro e w1 ⟨rfl,g1⟩;have HG1:=Lib.hid ((HG.out.alloc _).trans g1);clear g1)
     go_roundg (l.length - (j+1))
     case measure=>have:=HLz.out;omega
     case rel=>exact⟨j+1,by go_num,HLz.out,rfl,Lib.hid (by rw [all_snoc HTz.out,HI.out,Bool.true_and];exact HD.out),HG1⟩
  ·obtain rfl:j=l.length:=by omega
   rw [List.take_length] at HI
   go_wp2
   go_ret
   exact⟨ret_bool (HI.out.symm.trans HOK.out),HG.out⟩
set_option maxHeartbeats 4000000 in
theorem everyN_any (g:FuncId) (cb:Array Value) (eg:∀args w,(callFunc g args).run Tryz.prog w=.ok (.enter g args) w) (l:List ByteArray) (P:ByteArray→Bool) (B:Nat→Prop) (w:World) (p:Option Addr) (c:Nat) (hx:InN FlatAt 1 strc B w p l.length c l)
 (hf:∀x ∈ l,∀(W:World),Grew w W→Calls Tryz.prog g (#[.string x]++cb) W fun e w'=>e=.returned (.bool (P x))∧Grew W w') :
 Calls Tryz.prog 56 #[.slice p l.length c,.func (.func g) #[] cb] w fun e w'=>e=.returned (.bool (l.all P))∧Grew w w':=by
 have HX:=Lib.hid hx
 have HF:=Lib.hid hf
 have hcap:=hx.cap (hangsF encStr)
 obtain ⟨b,hb⟩:∃b,l.all P=b:=⟨_,rfl⟩
 have HOK:=Lib.hid hb
 have HFALSE:=Lib.hid (fun(x:ByteArray) (hm:x ∈ l) (h:P x=false)=>(show b=false from hb ▸ all_no hm h))
 rw [hb]
 clear hx hf hb
 go_enter Tryz.func56,Tryz.ntmps56
 go_wp2
 go_loopg [6,9] l.length (fun gg xv_ iv wr=>∃(j:Nat),iv=.int .i64 (j:Int)∧j≤l.length∧gg=l.length - j∧Hid ((l.take j).all P=true)∧Hid (Grew w wr))
 case atStart=>exact⟨0,rfl,Nat.zero_le _,rfl,Lib.hid rfl,Lib.hid (Grew.refl _)⟩
 case round =>
  obtain ⟨j,rfl,hj,rfl,HI,HG⟩:=hrel
  by_cases hlt:j < l.length
  ·
   obtain ⟨bz,oz,rfl,hcz⟩:=HX.out.getF j hlt
   have hmz:=List.getElem_mem hlt
   have htz:=List.take_succ_eq_append_getElem hlt
   have HLz:=Lib.hid (Nat.succ_le_of_lt hlt)
   generalize l[j]=xz at *
   have HTz:=Lib.hid htz
   replace hcz:∀i_ u_,([.string xz]:List Value)[i_]?=some u_→wr.cell? ⟨bz,oz+j * 1+i_,none⟩=some u_:=fun i_ u_ h_=>Atv.kept (hcz i_ u_ h_) HG.out
   have cz0:wr.cell? ⟨bz,oz+j,none⟩=some (.string xz):=by simpa using hcz 0 _ rfl
   clear hcz htz
   obtain ⟨d,hd⟩:∃d,P xz=d:=⟨_,rfl⟩
   have HD:=Lib.hid hd
   have HC:=Lib.hid (fun W (hW:Grew w W)=>(show Calls Tryz.prog g (#[.string xz]++cb) W fun e w'=>e=.returned (.bool d)∧Grew W w' from hd ▸ HF.out xz hmz _ hW))
   have HNO:=Lib.hid (fun(h:d=false)=>HFALSE.out _ hmz (hd.trans h))
   clear hmz hd HF HFALSE
   cases d with
   | false =>
     have HN2:Hid (b=false):=Lib.hid (HNO.out rfl)
     clear HNO
     go_wp2_with (go_at_fn g;refine(HC.out _ HG.out).mono ?_;rintro e w1 ⟨rfl,g1⟩;have HG1:=Lib.hid (HG.out.trans g1);clear g1)
     go_ret
     exact⟨ret_bool HN2.out.symm,HG1.out⟩
   | true =>
     go_wp2_with (go_at_fn g;refine(HC.out _ HG.out).mono ?_;rintro e w1 ⟨rfl,g1⟩;have HG1:=Lib.hid (HG.out.trans g1);clear g1)
     go_roundg (l.length - (j+1))
     case measure=>have:=HLz.out;omega
     case rel=>exact⟨j+1,by go_num,HLz.out,rfl,Lib.hid (by rw [all_snoc HTz.out,HI.out,Bool.true_and];exact HD.out),HG1⟩
  ·obtain rfl:j=l.length:=by omega
   rw [List.take_length] at HI
   go_wp2
   go_ret
   exact⟨ret_bool (HI.out.symm.trans HOK.out),HG.out⟩
end Go.Proofs.YtcknpcbkofgdoaaGreatDoor
namespace Go.Proofs.YtcknpcbkofgdoaaGreatDoor
open Go Go.RowKit Go.IntWalk
set_option linter.unusedSimpArgs false
set_option linter.unusedVariables false
set_option maxRecDepth 8000
theorem okXs_lall:∀l:List Xp,okXs l=l.all okX
 | []=>rfl
 | x :: l=>by rw [okXs,List.all_cons,okXs_lall l]
theorem okSs_lall:∀l:List Sm,okSs l=l.all okS
 | []=>rfl
 | x :: l=>by rw [okSs,List.all_cons,okSs_lall l]
theorem formC_eq (s:ByteArray) (z:Int):(idn s&&decide (-32767≤z))=okC s z:=by
 rw [okC]
 by_cases h:z < -32767
 ·rw [decide_eq_true h,decide_eq_false (by omega)];cases idn s <;> rfl
 ·rw [decide_eq_false h,decide_eq_true (by omega)];cases idn s <;> rfl
theorem formH_eq (s:ByteArray) (z:Int):(idn s&&num1 z 0)=okH s z:=by
 rw [okH];cases idn s <;> cases num1 z 0 <;> rfl
theorem formG_eq (s:ByteArray) (l i:Int):(((idn s&&num1 l 0)&&decide (-32767≤i))&&((l==0)||(i==0)))=okG s l i:=by
 rw [okG]
 have h1:decide (-32767≤i)=!decide (i < -32767):=by
  by_cases h:i < -32767
  ·rw [decide_eq_true h,decide_eq_false (by omega)];rfl
  ·rw [decide_eq_false h,decide_eq_true (by omega)];rfl
 rw [h1]
 cases hn:num1 l 0 with
 | false=>cases idn s <;> cases decide (i < -32767) <;> cases (l==0) <;> cases (i==0) <;> simp
 | true =>
   have hl:0≤l:=by
    rw [num1,Bool.and_eq_true,decide_eq_true_eq] at hn
    exact hn.1
   have h2:(l==0)=!decide (0 < l):=by
    by_cases h:0 < l
    ·rw [decide_eq_true h]
     have:(l==0)=false:=beq_eq_false_iff_ne.2 (by omega)
     rw [this];rfl
    ·rw [decide_eq_false h]
     have:(l==0)=true:=beq_iff_eq.2 (by omega)
     rw [this];rfl
   have h3:(i != 0)=!(i==0):=rfl
   rw [h2,h3]
   cases idn s <;> cases decide (i < -32767) <;> cases decide (0 < l) <;> cases (i==0) <;> rfl
theorem en_id:Enters Tryz.prog 57:=fun args w=>by go_simp
theorem en_sg:Enters Tryz.prog 107:=fun args w=>by go_simp
theorem en_nu:Enters Tryz.prog 108:=fun args w=>by go_simp
theorem en_nm:Enters Tryz.prog 99:=fun args w=>by go_simp
theorem en_tg:Enters Tryz.prog 112:=fun args w=>by go_simp
theorem en_fx:Enters Tryz.prog 48:=fun args w=>by go_simp
theorem en_fs:Enters Tryz.prog 114:=fun args w=>by go_simp
theorem en_ft:Enters Tryz.prog 61:=fun args w=>by go_simp
theorem en_fc:Enters Tryz.prog 53:=fun args w=>by go_simp
theorem en_fg:Enters Tryz.prog 55:=fun args w=>by go_simp
theorem en_fh:Enters Tryz.prog 59:=fun args w=>by go_simp
theorem en_evX:Enters Tryz.prog 100:=fun args w=>by go_simp
theorem en_evS:Enters Tryz.prog 113:=fun args w=>by go_simp
theorem en_evT:Enters Tryz.prog 60:=fun args w=>by go_simp
theorem en_evC:Enters Tryz.prog 52:=fun args w=>by go_simp
theorem en_evG:Enters Tryz.prog 54:=fun args w=>by go_simp
theorem en_evH:Enters Tryz.prog 58:=fun args w=>by go_simp
theorem en_evN:Enters Tryz.prog 56:=fun args w=>by go_simp
end Go.Proofs.YtcknpcbkofgdoaaGreatDoor
namespace Go.Proofs.YtcknpcbkofgdoaaGreatDoor
open Go Go.RowKit Go.IntWalk
set_option linter.unusedSimpArgs false
set_option linter.unusedVariables false
set_option maxRecDepth 8000
section
variable {dst:Option Tmp}{ty:TypeId}{pos:String}{after:Array Edge}{g:Option (Nat × Bool)}{a:Act}{w:World}{T:Value→World→Prop}
theorem rn_eql_32 {o1 o2:Operand}{b c:Int}(hx:a.eval o1=.int .i16 b) (hy:a.eval o2=.int .i16 c) (h:T (.bool (b==c)) w):Runs Tryz.prog ⟨dst,.binOp .eql 32 o1 o2 32,ty,pos,after,g⟩ a w T:=by
 refine Runs.value (v:=.bool (b==c)) (w':=w) ?_ h
 simp only [execOp,hx,hy]
 go_simp
end
set_option maxHeartbeats 4000000 in
theorem formC_any (s:ByteArray) (z q:Int) (w:World) (hs:s.size≤1048576) (hE:Env w) :
 Calls Tryz.prog 53 #[.agg #[.string s,.int .i16 z,.int .i64 q]] w fun e w'=>e=.returned (.bool (okC s z))∧Grew w w':=by
 have HE:=Lib.hid hE
 have HIs:=Lib.hid (fun W (hW:Grew w W)=>isid_any s hs W (HE.out.grew hW))
 have hE:((idn s)&&(decide (-32767≤z)))=okC s z:=formC_eq s z
 have HEQ:=Lib.hid hE
 clear hE
 go_enter Tryz.func53,Tryz.ntmps53
 go_upto_region 1 with fail
 have hb1:Blk w.heap.size [.string s,.int .i16 z,.int .i64 q] 60 (w.alloc (Obj.cells #[.string s,.int .i16 z,.int .i64 q] 60)):=Blk.new w _ _
 have hgV:Grew w (w.alloc (Obj.cells #[.string s,.int .i16 z,.int .i64 q] 60)):=(Grew.refl w).alloc _
 generalize (w.alloc (Obj.cells #[.string s,.int .i16 z,.int .i64 q] 60))=V at hb1 hgV ⊢
 generalize w.heap.size=T at hb1 ⊢
 have HB:=Lib.hid hb1
 have HGV:=Lib.hid hgV
 have d0:Atv ⟨T,0,none⟩ (.string s) V:=hb1.atv 0 rfl
 have d1:Atv ⟨T,1,none⟩ (.int .i16 z) V:=hb1.atv 1 rfl
 have d2:Atv ⟨T,2,none⟩ (.int .i64 q) V:=hb1.atv 2 rfl
 clear hb1 hgV
 refine wp_postsL [some 3,some 4,some 5,some 6,some 7,some 8,some 9,some 10,some 2] [false,false,true,true,true,true,true,true,true,true,true] [fun v _=>v=.pointer (some ⟨T,0,none⟩),fun v _=>v=.string s,fun v _=>v=.bool (idn s),fun v _=>v=.bool (idn s),fun v _=>(((idn s)=true)→v=.pointer (some ⟨T,1,none⟩))∧(¬ ((idn s)=true)→v=undef),fun v _=>(((idn s)=true)→v=.int .i16 (z))∧(¬ ((idn s)=true)→v=undef),fun v _=>(((idn s)=true)→v=.bool (decide (-32767≤z)))∧(¬ ((idn s)=true)→v=undef),fun v _=>v=.bool ((idn s)&&(decide (-32767≤z))),fun v _=>v=.bool ((idn s)&&(decide (-32767≤z)))] (by kernel_rfl) rfl ?_ ⟨?_,?_,?_,?_,?_,?_,?_,?_,?_,trivial⟩ ?_
 ·exact⟨Zi,Zi,Zi,Zi,Zi,Zi,Zi,Zi,Zi,trivial⟩
 ·intro u w hR hd;exact rn_fld_60_0 (ev rfl) Zr
 ·intro u w hR hd;exact rn_ld_9 (ev (hd.1 rfl)) (d0.kept hR) Zr
 ·intro u w hR hd;exact runs_c1 en_id (ev (hd.1 rfl)) (callp (fun _ e=>e) (HIs.out _ (HGV.out.trans hR)))
 ·intro u w hR hd;exact runs_mv (ev (hd.1 rfl)) Zr
 ·intro u w hR hd;exact⟨fun hg=>have hG:((idn s)=true):=Value.bool.inj ((hd.1 rfl).symm.trans hg);rn_fld_60_1 (ev rfl) (Zs hG),Zn (hd.1 rfl)⟩
 ·intro u w hR hd;exact⟨fun hg=>have hG:((idn s)=true):=Value.bool.inj ((hd.2.1 rfl).symm.trans hg);rn_ld_32 (ev ((hd.1 rfl).1 hG)) (d1.kept hR) (Zs hG),Zn (hd.2.1 rfl)⟩
 ·intro u w hR hd;exact⟨fun hg=>have hG:((idn s)=true):=Value.bool.inj ((hd.2.1 rfl).symm.trans hg);runs_c1 en_sg (ev ((hd.1 rfl).1 hG)) (callp (fun _ e=>⟨fun _=>e,fun hn=>absurd hG hn⟩) ((signed_any _ _).mono fun e w9 h=>⟨h.1,h.2 ▸ Grew.refl _⟩)),Zn (hd.2.1 rfl)⟩
 ·intro u w hR hd;exact runs_an (ev (hd.1 rfl)) (fun hb=>ev ((hd.2.1 rfl).1 hb)) Zr
 ·intro u w hR hd;exact runs_mva (ev (hd.1 rfl)) Zr
 ·intro u w4 hR hh
  have he:u 2=.bool ((idn s)&&(decide (-32767≤z))):=hh 8 (by decide)
  rw [HEQ.out] at he
  simp only [mixA,mixL,zz9,zz0,he]
  have HG4:Hid (Grew w w4):=Lib.hid (HGV.out.trans hR)
  clear hh he hR d0 d1 d2 HB HGV
  go_wp2
  go_ret
  exact⟨rfl,HG4.out⟩
set_option maxHeartbeats 4000000 in
theorem formG_any (s:ByteArray) (l i q:Int) (w:World) (hs:s.size≤1048576) (hE:Env w) :
 Calls Tryz.prog 55 #[.agg #[.string s,.int .i64 l,.int .i16 i,.int .i64 q]] w fun e w'=>e=.returned (.bool (okG s l i))∧Grew w w':=by
 have HE:=Lib.hid hE
 have HIs:=Lib.hid (fun W (hW:Grew w W)=>isid_any s hs W (HE.out.grew hW))
 have hE:((((idn s)&&(num1 l 0))&&(decide (-32767≤i)))&&(((l)==(0))||((i)==(0))))=okG s l i:=formG_eq s l i
 have HEQ:=Lib.hid hE
 clear hE
 go_enter Tryz.func55,Tryz.ntmps55
 go_upto_region 1 with fail
 have hb1:Blk w.heap.size [.string s,.int .i64 l,.int .i16 i,.int .i64 q] 62 (w.alloc (Obj.cells #[.string s,.int .i64 l,.int .i16 i,.int .i64 q] 62)):=Blk.new w _ _
 have hgV:Grew w (w.alloc (Obj.cells #[.string s,.int .i64 l,.int .i16 i,.int .i64 q] 62)):=(Grew.refl w).alloc _
 generalize (w.alloc (Obj.cells #[.string s,.int .i64 l,.int .i16 i,.int .i64 q] 62))=V at hb1 hgV ⊢
 generalize w.heap.size=T at hb1 ⊢
 have HB:=Lib.hid hb1
 have HGV:=Lib.hid hgV
 have d0:Atv ⟨T,0,none⟩ (.string s) V:=hb1.atv 0 rfl
 have d1:Atv ⟨T,1,none⟩ (.int .i64 l) V:=hb1.atv 1 rfl
 have d2:Atv ⟨T,2,none⟩ (.int .i16 i) V:=hb1.atv 2 rfl
 have d3:Atv ⟨T,3,none⟩ (.int .i64 q) V:=hb1.atv 3 rfl
 clear hb1 hgV
 refine wp_postsL [some 3,some 4,some 5,some 6,some 7,some 8,some 9,some 10,some 11,some 12,some 13,some 14,some 15,some 16,some 17,some 18,some 19,some 20,some 21,some 22,some 23,some 24,some 25,some 2] [Zf,Zf,Zt,Zt,Zt,Zt,Zt,Zt,Zt,Zt,Zt,Zt,Zt,Zt,Zt,Zt,Zt,Zt,Zt,Zt,Zt,Zt,Zt,Zt,Zt,Zt] [fun v _=>v=.pointer (some ⟨T,0,none⟩),fun v _=>v=.string s,fun v _=>v=.bool (idn s),fun v _=>v=.bool (idn s),fun v _=>(((idn s)=true)→v=.pointer (some ⟨T,1,none⟩))∧(¬ ((idn s)=true)→v=undef),fun v _=>(((idn s)=true)→v=.int .i64 (l))∧(¬ ((idn s)=true)→v=undef),fun v _=>(((idn s)=true)→v=.bool (num1 l 0))∧(¬ ((idn s)=true)→v=undef),fun v _=>v=.bool ((idn s)&&(num1 l 0)),fun v _=>v=.bool ((idn s)&&(num1 l 0)),fun v _=>((((idn s)&&(num1 l 0))=true)→v=.pointer (some ⟨T,2,none⟩))∧(¬ (((idn s)&&(num1 l 0))=true)→v=undef),fun v _=>((((idn s)&&(num1 l 0))=true)→v=.int .i16 (i))∧(¬ (((idn s)&&(num1 l 0))=true)→v=undef),fun v _=>((((idn s)&&(num1 l 0))=true)→v=.bool (decide (-32767≤i)))∧(¬ (((idn s)&&(num1 l 0))=true)→v=undef),fun v _=>v=.bool (((idn s)&&(num1 l 0))&&(decide (-32767≤i))),fun v _=>v=.bool (((idn s)&&(num1 l 0))&&(decide (-32767≤i))),fun v _=>(((((idn s)&&(num1 l 0))&&(decide (-32767≤i)))=true)→v=.pointer (some ⟨T,1,none⟩))∧(¬ ((((idn s)&&(num1 l 0))&&(decide (-32767≤i)))=true)→v=undef),fun v _=>(((((idn s)&&(num1 l 0))&&(decide (-32767≤i)))=true)→v=.int .i64 (l))∧(¬ ((((idn s)&&(num1 l 0))&&(decide (-32767≤i)))=true)→v=undef),fun v _=>(((((idn s)&&(num1 l 0))&&(decide (-32767≤i)))=true)→v=.bool ((l)==(0)))∧(¬ ((((idn s)&&(num1 l 0))&&(decide (-32767≤i)))=true)→v=undef),fun v _=>(((((idn s)&&(num1 l 0))&&(decide (-32767≤i)))=true)→v=.bool ((l)==(0)))∧(¬ ((((idn s)&&(num1 l 0))&&(decide (-32767≤i)))=true)→v=undef),fun v _=>((((((idn s)&&(num1 l 0))&&(decide (-32767≤i)))=true)∧(((l)==(0))=false))→v=.pointer (some ⟨T,2,none⟩))∧(¬ (((((idn s)&&(num1 l 0))&&(decide (-32767≤i)))=true)∧(((l)==(0))=false))→v=undef),fun v _=>((((((idn s)&&(num1 l 0))&&(decide (-32767≤i)))=true)∧(((l)==(0))=false))→v=.int .i16 (i))∧(¬ (((((idn s)&&(num1 l 0))&&(decide (-32767≤i)))=true)∧(((l)==(0))=false))→v=undef),fun v _=>((((((idn s)&&(num1 l 0))&&(decide (-32767≤i)))=true)∧(((l)==(0))=false))→v=.bool ((i)==(0)))∧(¬ (((((idn s)&&(num1 l 0))&&(decide (-32767≤i)))=true)∧(((l)==(0))=false))→v=undef),fun v _=>(((((idn s)&&(num1 l 0))&&(decide (-32767≤i)))=true)→v=.bool (((l)==(0))||((i)==(0))))∧(¬ ((((idn s)&&(num1 l 0))&&(decide (-32767≤i)))=true)→v=undef),fun v _=>v=.bool ((((idn s)&&(num1 l 0))&&(decide (-32767≤i)))&&(((l)==(0))||((i)==(0)))),fun v _=>v=.bool ((((idn s)&&(num1 l 0))&&(decide (-32767≤i)))&&(((l)==(0))||((i)==(0))))] (by kernel_rfl) rfl ?_ ⟨?_,?_,?_,?_,?_,?_,?_,?_,?_,?_,?_,?_,?_,?_,?_,?_,?_,?_,?_,?_,?_,?_,?_,?_,trivial⟩ ?_
 ·exact⟨Zi,Zi,Zi,Zi,Zi,Zi,Zi,Zi,Zi,Zi,Zi,Zi,Zi,Zi,Zi,Zi,Zi,Zi,Zi,Zi,Zi,Zi,Zi,Zi,trivial⟩
 ·intro u w hR hd;exact rn_fld_62_0 (ev rfl) Zr
 ·intro u w hR hd;exact rn_ld_9 (ev (hd.1 rfl)) (d0.kept hR) Zr
 ·intro u w hR hd;exact runs_c1 en_id (ev (hd.1 rfl)) (callp (fun _ e=>e) (HIs.out _ (HGV.out.trans hR)))
 ·intro u w hR hd;exact runs_mv (ev (hd.1 rfl)) Zr
 ·intro u w hR hd;exact⟨fun hg=>have hG:((idn s)=true):=Value.bool.inj ((hd.1 rfl).symm.trans hg);rn_fld_62_1 (ev rfl) (Zs hG),Zn (hd.1 rfl)⟩
 ·intro u w hR hd;exact⟨fun hg=>have hG:((idn s)=true):=Value.bool.inj ((hd.2.1 rfl).symm.trans hg);rn_ld_3 (ev ((hd.1 rfl).1 hG)) (d1.kept hR) (Zs hG),Zn (hd.2.1 rfl)⟩
 ·intro u w hR hd;exact⟨fun hg=>have hG:((idn s)=true):=Value.bool.inj ((hd.2.1 rfl).symm.trans hg);runs_c1 en_nu (ev ((hd.1 rfl).1 hG)) (callp (fun _ e=>⟨fun _=>e,fun hn=>absurd hG hn⟩) ((isnum_any _ _).mono fun e w9 h=>⟨h.1,h.2 ▸ Grew.refl _⟩)),Zn (hd.2.1 rfl)⟩
 ·intro u w hR hd;exact runs_an (ev (hd.1 rfl)) (fun hb=>ev ((hd.2.1 rfl).1 hb)) Zr
 ·intro u w hR hd;exact runs_mv (ev (hd.1 rfl)) Zr
 ·intro u w hR hd;exact⟨fun hg=>have hG:(((idn s)&&(num1 l 0))=true):=Value.bool.inj ((hd.1 rfl).symm.trans hg);rn_fld_62_2 (ev rfl) (Zs hG),Zn (hd.1 rfl)⟩
 ·intro u w hR hd;exact⟨fun hg=>have hG:(((idn s)&&(num1 l 0))=true):=Value.bool.inj ((hd.2.1 rfl).symm.trans hg);rn_ld_32 (ev ((hd.1 rfl).1 hG)) (d2.kept hR) (Zs hG),Zn (hd.2.1 rfl)⟩
 ·intro u w hR hd;exact⟨fun hg=>have hG:(((idn s)&&(num1 l 0))=true):=Value.bool.inj ((hd.2.1 rfl).symm.trans hg);runs_c1 en_sg (ev ((hd.1 rfl).1 hG)) (callp (fun _ e=>⟨fun _=>e,fun hn=>absurd hG hn⟩) ((signed_any _ _).mono fun e w9 h=>⟨h.1,h.2 ▸ Grew.refl _⟩)),Zn (hd.2.1 rfl)⟩
 ·intro u w hR hd;exact runs_an (ev (hd.1 rfl)) (fun hb=>ev ((hd.2.1 rfl).1 hb)) Zr
 ·intro u w hR hd;exact runs_mv (ev (hd.1 rfl)) Zr
 ·intro u w hR hd;exact⟨fun hg=>have hG:((((idn s)&&(num1 l 0))&&(decide (-32767≤i)))=true):=Value.bool.inj ((hd.1 rfl).symm.trans hg);rn_fld_62_1 (ev rfl) (Zs hG),Zn (hd.1 rfl)⟩
 ·intro u w hR hd;exact⟨fun hg=>have hG:((((idn s)&&(num1 l 0))&&(decide (-32767≤i)))=true):=Value.bool.inj ((hd.2.1 rfl).symm.trans hg);rn_ld_3 (ev ((hd.1 rfl).1 hG)) (d1.kept hR) (Zs hG),Zn (hd.2.1 rfl)⟩
 ·intro u w hR hd;exact⟨fun hg=>have hG:((((idn s)&&(num1 l 0))&&(decide (-32767≤i)))=true):=Value.bool.inj ((hd.2.1 rfl).symm.trans hg);rn_eql_3 (ev ((hd.1 rfl).1 hG)) rfl (Zs hG),Zn (hd.2.1 rfl)⟩
 ·intro u w hR hd;exact⟨fun hg=>have hG:((((idn s)&&(num1 l 0))&&(decide (-32767≤i)))=true):=Value.bool.inj ((hd.2.1 rfl).symm.trans hg);runs_mv (ev ((hd.1 rfl).1 hG)) (Zs hG),Zn (hd.2.1 rfl)⟩
 ·intro u w hR hd;exact⟨fun hg=>have hP:((((idn s)&&(num1 l 0))&&(decide (-32767≤i)))=true):=Classical.byContradiction (fun hnp=>absurd (((hd.1 rfl).2 hnp).symm.trans hg) (fun h=>by first | cases h | (simp [undef] at h)));have hG:(((((idn s)&&(num1 l 0))&&(decide (-32767≤i)))=true)∧(((l)==(0))=false)):=⟨hP,Value.bool.inj (((hd.1 rfl).1 hP).symm.trans hg)⟩;rn_fld_62_2 (ev rfl) (Zs hG),fun hn=>⟨fun hG=>absurd (((hd.1 rfl).1 hG.1).trans (congrArg Value.bool hG.2)) hn,fun _=>rfl⟩⟩
 ·intro u w hR hd;exact⟨fun hg=>have hP:((((idn s)&&(num1 l 0))&&(decide (-32767≤i)))=true):=Classical.byContradiction (fun hnp=>absurd (((hd.2.1 rfl).2 hnp).symm.trans hg) (fun h=>by first | cases h | (simp [undef] at h)));have hG:(((((idn s)&&(num1 l 0))&&(decide (-32767≤i)))=true)∧(((l)==(0))=false)):=⟨hP,Value.bool.inj (((hd.2.1 rfl).1 hP).symm.trans hg)⟩;rn_ld_32 (ev ((hd.1 rfl).1 hG)) (d2.kept hR) (Zs hG),fun hn=>⟨fun hG=>absurd (((hd.2.1 rfl).1 hG.1).trans (congrArg Value.bool hG.2)) hn,fun _=>rfl⟩⟩
 ·intro u w hR hd;exact⟨fun hg=>have hP:((((idn s)&&(num1 l 0))&&(decide (-32767≤i)))=true):=Classical.byContradiction (fun hnp=>absurd (((hd.2.1 rfl).2 hnp).symm.trans hg) (fun h=>by first | cases h | (simp [undef] at h)));have hG:(((((idn s)&&(num1 l 0))&&(decide (-32767≤i)))=true)∧(((l)==(0))=false)):=⟨hP,Value.bool.inj (((hd.2.1 rfl).1 hP).symm.trans hg)⟩;rn_eql_32 (ev ((hd.1 rfl).1 hG)) rfl (Zs hG),fun hn=>⟨fun hG=>absurd (((hd.2.1 rfl).1 hG.1).trans (congrArg Value.bool hG.2)) hn,fun _=>rfl⟩⟩
 ·intro u w hR hd;exact⟨fun hg=>have hG:((((idn s)&&(num1 l 0))&&(decide (-32767≤i)))=true):=Value.bool.inj ((hd.2.2.1 rfl).symm.trans hg);runs_or2 (ev ((hd.1 rfl).1 hG)) (fun hb=>ev ((hd.2.1 rfl).1 ⟨hG,hb⟩)) (Zs hG),Zn (hd.2.2.1 rfl)⟩
 ·intro u w hR hd;exact runs_an (ev (hd.1 rfl)) (fun hb=>ev ((hd.2.1 rfl).1 hb)) Zr
 ·intro u w hR hd;exact runs_mva (ev (hd.1 rfl)) Zr
 ·intro u w4 hR hh
  have he:u 2=.bool ((((idn s)&&(num1 l 0))&&(decide (-32767≤i)))&&(((l)==(0))||((i)==(0)))):=hh 23 (by decide)
  rw [HEQ.out] at he
  simp only [mixA,mixL,zz9,zz0,he]
  have HG4:Hid (Grew w w4):=Lib.hid (HGV.out.trans hR)
  clear hh he hR d0 d1 d2 d3 HB HGV
  go_wp2
  go_ret
  exact⟨rfl,HG4.out⟩
set_option maxHeartbeats 4000000 in
theorem formH_any (s:ByteArray) (z q:Int) (w:World) (hs:s.size≤1048576) (hE:Env w) :
 Calls Tryz.prog 59 #[.agg #[.string s,.int .i64 z,.int .i64 q]] w fun e w'=>e=.returned (.bool (okH s z))∧Grew w w':=by
 have HE:=Lib.hid hE
 have HIs:=Lib.hid (fun W (hW:Grew w W)=>isid_any s hs W (HE.out.grew hW))
 have hE:((idn s)&&(num1 z 0))=okH s z:=formH_eq s z
 have HEQ:=Lib.hid hE
 clear hE
 go_enter Tryz.func59,Tryz.ntmps59
 go_upto_region 1 with fail
 have hb1:Blk w.heap.size [.string s,.int .i64 z,.int .i64 q] 64 (w.alloc (Obj.cells #[.string s,.int .i64 z,.int .i64 q] 64)):=Blk.new w _ _
 have hgV:Grew w (w.alloc (Obj.cells #[.string s,.int .i64 z,.int .i64 q] 64)):=(Grew.refl w).alloc _
 generalize (w.alloc (Obj.cells #[.string s,.int .i64 z,.int .i64 q] 64))=V at hb1 hgV ⊢
 generalize w.heap.size=T at hb1 ⊢
 have HB:=Lib.hid hb1
 have HGV:=Lib.hid hgV
 have d0:Atv ⟨T,0,none⟩ (.string s) V:=hb1.atv 0 rfl
 have d1:Atv ⟨T,1,none⟩ (.int .i64 z) V:=hb1.atv 1 rfl
 have d2:Atv ⟨T,2,none⟩ (.int .i64 q) V:=hb1.atv 2 rfl
 clear hb1 hgV
 refine wp_postsL [some 3,some 4,some 5,some 6,some 7,some 8,some 9,some 10,some 2] [false,false,true,true,true,true,true,true,true,true,true] [fun v _=>v=.pointer (some ⟨T,0,none⟩),fun v _=>v=.string s,fun v _=>v=.bool (idn s),fun v _=>v=.bool (idn s),fun v _=>(((idn s)=true)→v=.pointer (some ⟨T,1,none⟩))∧(¬ ((idn s)=true)→v=undef),fun v _=>(((idn s)=true)→v=.int .i64 (z))∧(¬ ((idn s)=true)→v=undef),fun v _=>(((idn s)=true)→v=.bool (num1 z 0))∧(¬ ((idn s)=true)→v=undef),fun v _=>v=.bool ((idn s)&&(num1 z 0)),fun v _=>v=.bool ((idn s)&&(num1 z 0))] (by kernel_rfl) rfl ?_ ⟨?_,?_,?_,?_,?_,?_,?_,?_,?_,trivial⟩ ?_
 ·exact⟨Zi,Zi,Zi,Zi,Zi,Zi,Zi,Zi,Zi,trivial⟩
 ·intro u w hR hd;exact rn_fld_64_0 (ev rfl) Zr
 ·intro u w hR hd;exact rn_ld_9 (ev (hd.1 rfl)) (d0.kept hR) Zr
 ·intro u w hR hd;exact runs_c1 en_id (ev (hd.1 rfl)) (callp (fun _ e=>e) (HIs.out _ (HGV.out.trans hR)))
 ·intro u w hR hd;exact runs_mv (ev (hd.1 rfl)) Zr
 ·intro u w hR hd;exact⟨fun hg=>have hG:((idn s)=true):=Value.bool.inj ((hd.1 rfl).symm.trans hg);rn_fld_64_1 (ev rfl) (Zs hG),Zn (hd.1 rfl)⟩
 ·intro u w hR hd;exact⟨fun hg=>have hG:((idn s)=true):=Value.bool.inj ((hd.2.1 rfl).symm.trans hg);rn_ld_3 (ev ((hd.1 rfl).1 hG)) (d1.kept hR) (Zs hG),Zn (hd.2.1 rfl)⟩
 ·intro u w hR hd;exact⟨fun hg=>have hG:((idn s)=true):=Value.bool.inj ((hd.2.1 rfl).symm.trans hg);runs_c1 en_nu (ev ((hd.1 rfl).1 hG)) (callp (fun _ e=>⟨fun _=>e,fun hn=>absurd hG hn⟩) ((isnum_any _ _).mono fun e w9 h=>⟨h.1,h.2 ▸ Grew.refl _⟩)),Zn (hd.2.1 rfl)⟩
 ·intro u w hR hd;exact runs_an (ev (hd.1 rfl)) (fun hb=>ev ((hd.2.1 rfl).1 hb)) Zr
 ·intro u w hR hd;exact runs_mva (ev (hd.1 rfl)) Zr
 ·intro u w4 hR hh
  have he:u 2=.bool ((idn s)&&(num1 z 0)):=hh 8 (by decide)
  rw [HEQ.out] at he
  simp only [mixA,mixL,zz9,zz0,he]
  have HG4:Hid (Grew w w4):=Lib.hid (HGV.out.trans hR)
  clear hh he hR d0 d1 d2 HB HGV
  go_wp2
  go_ret
  exact⟨rfl,HG4.out⟩
end Go.Proofs.YtcknpcbkofgdoaaGreatDoor
namespace Go.Proofs.YtcknpcbkofgdoaaGreatDoor
open Go Go.RowKit Go.IntWalk
set_option linter.unusedSimpArgs false
set_option linter.unusedVariables false
set_option maxRecDepth 8000
theorem okX_out {k vx ox qx:Int}{sx:ByteArray}{rx:List Xp}(h:k≤0∨7≤k):okX ⟨k,sx,vx,ox,rx,qx⟩=false:=by
 have h1:arK k=-1:=by
  have a1:k≠1:=by omega
  have a2:k≠2:=by omega
  have a3:k≠3:=by omega
  have a4:k≠4:=by omega
  have a5:k≠5:=by omega
  have a6:k≠6:=by omega
  simp [arK,a1,a2,a3,a4,a5,a6]
 have h2:((rx.length:Int) != -1)=true:=by
  rw [bne_iff_ne];omega
 rw [okX,hdX,h1,h2]
 rfl
theorem beq_dec {a b:Int}:(a==b)=decide (a=b):=by
 rw [Bool.eq_iff_iff,beq_iff_eq,decide_eq_true_eq]
theorem bne_dec {a b:Int}:(a != b)=!decide (a=b):=by
 rw [bne,beq_dec]
theorem formX_eq (kn:Nat) (h1:1≤kn) (h7:kn < 7) (sx:ByteArray) (vx ox qx:Int) (rx:List Xp) (hv:vx≤32767) :
 (((((((if (exR (kn:Int)).b then idn sx else decide (sx=⟨#[]⟩))&&(decide ((0)≤(vx))))&&(decide ((vx)≤((exR (kn:Int)).v))))&&(decide (((exR (kn:Int)).f)≤(ox))))&&(decide ((ox)≤((exR (kn:Int)).l))))&&((((rx.length:Nat):Int))==((exR (kn:Int)).n)))&&(rx.all okX))=okX ⟨(kn:Int),sx,vx,ox,rx,qx⟩:=by
 rw [okX,okXs_lall]
 have hk:kn=1∨kn=2∨kn=3∨kn=4∨kn=5∨kn=6:=by omega
 simp only [beq_dec]
 generalize rx.all okX=R
 generalize hn:rx.length=n
 generalize hs:decide (sx=⟨#[]⟩)=E
 rcases hk with rfl | rfl | rfl | rfl | rfl | rfl
 ·have r:exR ((1:Nat):Int)=⟨false,32767,0,0,0⟩:=rfl
  have a:hdX ((1:Nat):Int) sx vx ox n=!(((((n:Int) != 0)||!decide (sx=⟨#[]⟩))||(vx != vx))||(ox != 0)):=rfl
  have b:kdX ((1:Nat):Int) sx vx ox=decide (0≤vx):=rfl
  rw [r,a,b,hs,bne_dec,bne_dec,bne_dec,decide_eq_true hv]
  rw [Bool.eq_iff_iff]
  cases R <;> cases E <;> simp <;> omega
 ·have r:exR ((2:Nat):Int)=⟨true,0,0,0,0⟩:=rfl
  have a:hdX ((2:Nat):Int) sx vx ox n=!(((((n:Int) != 0)||!decide (sx=sx))||(vx != 0))||(ox != 0)):=rfl
  have b:kdX ((2:Nat):Int) sx vx ox=idn sx:=rfl
  rw [r,a,b,bne_dec,bne_dec,bne_dec]
  rw [Bool.eq_iff_iff]
  cases R <;> cases hD:idn sx <;> simp <;> omega
 ·have r:exR ((3:Nat):Int)=⟨true,0,0,0,1⟩:=rfl
  have a:hdX ((3:Nat):Int) sx vx ox n=!(((((n:Int) != 1)||!decide (sx=sx))||(vx != 0))||(ox != 0)):=rfl
  have b:kdX ((3:Nat):Int) sx vx ox=idn sx:=rfl
  rw [r,a,b,bne_dec,bne_dec,bne_dec]
  rw [Bool.eq_iff_iff]
  cases R <;> cases hD:idn sx <;> simp <;> omega
 ·have r:exR ((4:Nat):Int)=⟨true,0,0,0,0⟩:=rfl
  have a:hdX ((4:Nat):Int) sx vx ox n=!(((((n:Int) != 0)||!decide (sx=sx))||(vx != 0))||(ox != 0)):=rfl
  have b:kdX ((4:Nat):Int) sx vx ox=idn sx:=rfl
  rw [r,a,b,bne_dec,bne_dec,bne_dec]
  rw [Bool.eq_iff_iff]
  cases R <;> cases hD:idn sx <;> simp <;> omega
 ·have r:exR ((5:Nat):Int)=⟨false,0,1,2,1⟩:=rfl
  have a:hdX ((5:Nat):Int) sx vx ox n=!(((((n:Int) != 1)||!decide (sx=⟨#[]⟩))||(vx != 0))||(ox != ox)):=rfl
  have b:kdX ((5:Nat):Int) sx vx ox=(ox==1||ox==2):=rfl
  rw [r,a,b,hs,bne_dec,bne_dec,bne_dec,beq_dec,beq_dec]
  rw [Bool.eq_iff_iff]
  cases R <;> cases E <;> simp <;> omega
 ·have r:exR ((6:Nat):Int)=⟨false,0,3,15,2⟩:=rfl
  have a:hdX ((6:Nat):Int) sx vx ox n=!(((((n:Int) != 2)||!decide (sx=⟨#[]⟩))||(vx != 0))||(ox != ox)):=rfl
  have b:kdX ((6:Nat):Int) sx vx ox=(decide (3≤ox)&&decide (ox≤15)):=rfl
  rw [r,a,b,hs,bne_dec,bne_dec,bne_dec]
  rw [Bool.eq_iff_iff]
  cases R <;> cases E <;> simp <;> omega
end Go.Proofs.YtcknpcbkofgdoaaGreatDoor
