/-
  LAYER 16 (ast), THE PROGRAM: writeExpr.
  LAYER 16 (ast), THE PROGRAM: text, Expr.
-/
import Derived.Test.YtcknpcbkofgdoaaGreatDoorZdShort
import Derived.Test.YtcknpcbkofgdoaaGreatDoorZd06
import Derived.Test.YtcknpcbkofgdoaaGreatDoorZd03
import Derived.Test.YtcknpcbkofgdoaaGreatDoorZd00
import Derived.Deep.LoopGhost
import Derived.Deep.Cut
import Derived.Shelf.Abstract
namespace Go.Proofs.YtcknpcbkofgdoaaGreatDoor
open Go Go.RowKit Go.IntWalk
set_option linter.unusedSimpArgs false
set_option linter.unusedVariables false
set_option maxRecDepth 8000
section
variable {dst:Option Tmp}{ty:TypeId}{pos:String}{after:Array Edge}{g:Option (Nat × Bool)}{a:Act}{w:World}{T:Value→World→Prop}
theorem rn_fld_151_1 {x:Operand}{S o:Nat}(hx:a.eval x=.pointer (some ⟨S,o,none⟩)) (h:T (.pointer (some ⟨S,o+1,none⟩)) w):Runs Tryz.prog ⟨dst,.fieldAddr 151 x 1,ty,pos,after,g⟩ a w T:=by
 refine Runs.value (v:=.pointer (some ⟨S,o+1,none⟩)) (w':=w) ?_ h
 simp only [execOp,hx]
 go_simp
theorem rn_ld_151 {x:Operand}{S o:Nat}{v0 v1:Value}(hx:a.eval x=.pointer (some ⟨S,o,none⟩)) (h0:w.cell? ⟨S,o,none⟩=some v0) (h1:w.cell? ⟨S,o+1,none⟩=some v1) (h:T (.agg #[v0,v1]) w):Runs Tryz.prog ⟨dst,.load 151 x,ty,pos,after,g⟩ a w T:=by
 refine Runs.value (v:=.agg #[v0,v1]) (w':=w) ?_ h
 simp only [execOp,hx]
 go_simp
end
theorem EnvB.env {N:Nat}{w:World}(h:EnvB N w):Env w:=h.1
abbrev WxF (k:Int) (s:ByteArray) (v o:Int) (ar:List Xp) (q:Int):Prop:=∀(N b:Nat) (xs:List UInt8) (B:Nat→Prop) (w:World) (p:Option Addr) (c:Nat),BldT 70 [] N b xs w→N≤w.heap.size→(∀i,B i→i < N)→XL B w p c ar→(s.size≤1048576∧v≤32767)→EnvB N w→okX ⟨k,s,v,o,ar,q⟩=true→xs.length+(txX ⟨k,s,v,o,ar,q⟩).length≤140737488355328 →
 Calls Tryz.prog 101 #[PtrTo b,xv k s v o p ar.length c q] w fun e w'=>e=.returned (.tuple #[])∧BldT 70 [] N b (xs++txX ⟨k,s,v,o,ar,q⟩) w'∧Wrote N b w w'
abbrev OpF (k:Int) (s:ByteArray) (v o:Int) (ar:List Xp) (q:Int):Prop:=∀(least:Int) (N b:Nat) (xs:List UInt8) (B:Nat→Prop) (w:World) (p:Option Addr) (c:Nat),BldT 70 [] N b xs w→N≤w.heap.size→(∀i,B i→i < N)→XL B w p c ar→(s.size≤1048576∧v≤32767)→EnvB N w→okX ⟨k,s,v,o,ar,q⟩=true→xs.length+(opd least k o (txX ⟨k,s,v,o,ar,q⟩)).length≤140737488355328 →
 Calls Tryz.prog 142 #[PtrTo b,xv k s v o p ar.length c q,.int .i64 least] w fun e w'=>e=.returned (.tuple #[])∧BldT 70 [] N b (xs++opd least k o (txX ⟨k,s,v,o,ar,q⟩)) w'∧Wrote N b w w'
theorem app_list (a b:ByteArray):(a++b).data.toList=a.data.toList++b.data.toList:=by simp
theorem wstrS_any {T:TypeId}{rs:List Value}(hT:BT T rs.length) (N b:Nat) (xs:List UInt8) (s:ByteArray) (w:World) (h:BldT T rs N b xs w) (hl:xs.length+s.data.toList.length≤140737488355328) (hN:N≤w.heap.size) :
 Calls Tryz.prog 93 #[PtrTo b,.string s] w fun e w'=>(∃v,e=.returned v)∧BldT T rs N b (xs++s.data.toList) w'∧Wrote N b w w':=by
 obtain ⟨l,rfl⟩:=str_eta s
 exact wstr_any hT N b xs l w h hl hN
set_option maxHeartbeats 16000000 in
theorem wx_any:∀x,WxC x:=by
 intro x
 induction x using Xp.ind with
 | h k s v o ar q ih =>
 intro N b xs B w p c hb hN hB hX hz hE hok hlen
 have HB:=zh hb
 have HE:=zh hE
 have HBN:=zh hB
 have HNw:=zh hN
 have hcap:=hX.cap.1
 have hmax:=hX.cap.2.1
 clear hN
 rcases ok_cases hok with ⟨rfl,rfl,rfl,rfl,hv⟩ | ⟨hk,rfl,rfl,rfl,hs⟩ | ⟨rfl,a,rfl,rfl,rfl,hs,ha⟩ | ⟨rfl,a,rfl,rfl,rfl,ho,ha⟩ | ⟨rfl,a,b',rfl,rfl,rfl,ho,ha,hb'⟩
 ·rw [tx1] at hlen ⊢
  show Calls Tryz.prog 101 #[PtrTo b,xv 1 ⟨#[]⟩ v 0 p 0 c q] w fun e w'=>e=.returned (.tuple #[])∧BldT 70 [] N b (xs++numZ v) w'∧Wrote N b w w'
  have HLN:=zh hlen
  have hv2:=hz.2
  replace hv2:v≤32767:=hv2
  clear hlen hX hz ih hb hE hB hok
  go_enter Tryz.func101,Tryz.ntmps101
  go_upto_region 1 with fail
  have hb1_:Blk w.heap.size [.int .i64 1,.string ⟨#[]⟩,.int .i16 v,.int .i64 0,.slice p 0 c,.int .i64 q] 35 (w.alloc (Obj.cells #[.int .i64 1,.string ⟨#[]⟩,.int .i16 v,.int .i64 0,.slice p 0 c,.int .i64 q] 35)):=Blk.new w _ _
  have hgV:Grew w (w.alloc (Obj.cells #[.int .i64 1,.string ⟨#[]⟩,.int .i16 v,.int .i64 0,.slice p 0 c,.int .i64 q] 35)):=(Grew.refl w).alloc _
  have hne_:w.heap.size≠b:=by have:=HB.out.lt;omega
  generalize (w.alloc (Obj.cells #[.int .i64 1,.string ⟨#[]⟩,.int .i16 v,.int .i64 0,.slice p 0 c,.int .i64 q] 35))=V0 at hb1_ hgV ⊢
  generalize w.heap.size=S at hb1_ hne_ ⊢
  have HW0:=zh (Wrote.of_grew (N:=N) (b:=b) hgV HNw.out)
  have HB0:=zh (HB.out.grew hgV)
  have HN0:=zh (Nat.le_trans HNw.out hgV.sz)
  have HX0:=zh hb1_
  have HNE:=zh hne_
  clear hb1_ hgV hne_
  have x0V0:V0.cell? ⟨S,0,none⟩=some (.int .i64 1):=HX0.out.cell 0
  have x1V0:V0.cell? ⟨S,1,none⟩=some (.string ⟨#[]⟩):=HX0.out.cell 1
  have x2V0:V0.cell? ⟨S,2,none⟩=some (.int .i16 v):=HX0.out.cell 2
  have x3V0:V0.cell? ⟨S,3,none⟩=some (.int .i64 0):=HX0.out.cell 3
  have x4V0:V0.cell? ⟨S,4,none⟩=some (.slice p 0 c):=HX0.out.cell 4
  have x5V0:V0.cell? ⟨S,5,none⟩=some (.int .i64 q):=HX0.out.cell 5
  go_wp2_with (first
   | (go_at_call 40;(with_reducible refine(itoa_any v (by omega) V0 (HE.out.wrote HW0.out).env).mono ?_);rintro e V1 ⟨rfl,g_⟩;have HW1:=zh (HW0.out.grew g_ HNw.out);have HB1:=zh (HB0.out.grew g_);have HN1:=zh (Nat.le_trans HN0.out g_.sz);have HX1:=zh (HX0.out.grew g_);clear g_;have x0V1:V1.cell? ⟨S,0,none⟩=some (.int .i64 1):=HX1.out.cell 0;have x1V1:V1.cell? ⟨S,1,none⟩=some (.string ⟨#[]⟩):=HX1.out.cell 1;have x2V1:V1.cell? ⟨S,2,none⟩=some (.int .i16 v):=HX1.out.cell 2;have x3V1:V1.cell? ⟨S,3,none⟩=some (.int .i64 0):=HX1.out.cell 3;have x4V1:V1.cell? ⟨S,4,none⟩=some (.slice p 0 c):=HX1.out.cell 4;have x5V1:V1.cell? ⟨S,5,none⟩=some (.int .i64 q):=HX1.out.cell 5)
   | (go_at_call 93;(with_reducible refine(wstr_any btB N b xs (numZ v) V1 HB1.out (by have h_:=HLN.out;first | omega | (simp only [app_list,List.length_append,List.length_cons,List.length_nil] at h_ ⊢;omega) | (simp only [app_list,List.length_append,List.length_cons,List.length_nil] at h_ ⊢;done) | (simp [app_list,List.length_append] at h_ ⊢;omega)) HN1.out).mono ?_);rintro e V2 ⟨⟨v_1,rfl⟩,hb_,hw_⟩;have HW2:=zh (HW1.out.trans hw_);have HB2:=zh hb_;have HN2:=zh (Nat.le_trans HN1.out hw_.bel.size);have HX2:=zh (HX1.out.wrote hw_ HNE.out (by decide));clear hb_ hw_;have x0V2:V2.cell? ⟨S,0,none⟩=some (.int .i64 1):=HX2.out.cell 0;have x1V2:V2.cell? ⟨S,1,none⟩=some (.string ⟨#[]⟩):=HX2.out.cell 1;have x2V2:V2.cell? ⟨S,2,none⟩=some (.int .i16 v):=HX2.out.cell 2;have x3V2:V2.cell? ⟨S,3,none⟩=some (.int .i64 0):=HX2.out.cell 3;have x4V2:V2.cell? ⟨S,4,none⟩=some (.slice p 0 c):=HX2.out.cell 4;have x5V2:V2.cell? ⟨S,5,none⟩=some (.int .i64 q):=HX2.out.cell 5))
  go_end0
  exact⟨rfl,by have h_:=HB2.out;simpa [app_list,List.append_assoc] using h_,HW2.out⟩
 ·rcases hk with rfl | rfl
  ·rw [tx2] at hlen ⊢
   show Calls Tryz.prog 101 #[PtrTo b,xv 2 s 0 0 p 0 c q] w fun e w'=>e=.returned (.tuple #[])∧BldT 70 [] N b (xs++s.data.toList) w'∧Wrote N b w w'
   have HLN:=zh hlen
   have hs1:s.size≤1048576:=hz.1
   clear hlen hX hz ih hb hE hB hok hs
   go_enter Tryz.func101,Tryz.ntmps101
   go_upto_region 1 with fail
   have hb1_:Blk w.heap.size [.int .i64 2,.string s,.int .i16 0,.int .i64 0,.slice p 0 c,.int .i64 q] 35 (w.alloc (Obj.cells #[.int .i64 2,.string s,.int .i16 0,.int .i64 0,.slice p 0 c,.int .i64 q] 35)):=Blk.new w _ _
   have hgV:Grew w (w.alloc (Obj.cells #[.int .i64 2,.string s,.int .i16 0,.int .i64 0,.slice p 0 c,.int .i64 q] 35)):=(Grew.refl w).alloc _
   have hne_:w.heap.size≠b:=by have:=HB.out.lt;omega
   generalize (w.alloc (Obj.cells #[.int .i64 2,.string s,.int .i16 0,.int .i64 0,.slice p 0 c,.int .i64 q] 35))=V0 at hb1_ hgV ⊢
   generalize w.heap.size=S at hb1_ hne_ ⊢
   have HW0:=zh (Wrote.of_grew (N:=N) (b:=b) hgV HNw.out)
   have HB0:=zh (HB.out.grew hgV)
   have HN0:=zh (Nat.le_trans HNw.out hgV.sz)
   have HX0:=zh hb1_
   have HNE:=zh hne_
   clear hb1_ hgV hne_
   have x0V0:V0.cell? ⟨S,0,none⟩=some (.int .i64 2):=HX0.out.cell 0
   have x1V0:V0.cell? ⟨S,1,none⟩=some (.string s):=HX0.out.cell 1
   have x2V0:V0.cell? ⟨S,2,none⟩=some (.int .i16 0):=HX0.out.cell 2
   have x3V0:V0.cell? ⟨S,3,none⟩=some (.int .i64 0):=HX0.out.cell 3
   have x4V0:V0.cell? ⟨S,4,none⟩=some (.slice p 0 c):=HX0.out.cell 4
   have x5V0:V0.cell? ⟨S,5,none⟩=some (.int .i64 q):=HX0.out.cell 5
   go_wp2_with (first
    | (go_at_call 93;(with_reducible refine(wstrS_any btB N b (xs) s V0 HB0.out (by have h_:=HLN.out;first | omega | (simp only [app_list,List.length_append,List.length_cons,List.length_nil] at h_ ⊢;omega) | (simp only [app_list,List.length_append,List.length_cons,List.length_nil] at h_ ⊢;done) | (simp [app_list,List.length_append] at h_ ⊢;omega)) HN0.out).mono ?_);rintro e V1 ⟨⟨v_0,rfl⟩,hb_,hw_⟩;have HW1:=zh (HW0.out.trans hw_);have HB1:=zh hb_;have HN1:=zh (Nat.le_trans HN0.out hw_.bel.size);have HX1:=zh (HX0.out.wrote hw_ HNE.out (by decide));clear hb_ hw_;have x0V1:V1.cell? ⟨S,0,none⟩=some (.int .i64 2):=HX1.out.cell 0;have x1V1:V1.cell? ⟨S,1,none⟩=some (.string s):=HX1.out.cell 1;have x2V1:V1.cell? ⟨S,2,none⟩=some (.int .i16 0):=HX1.out.cell 2;have x3V1:V1.cell? ⟨S,3,none⟩=some (.int .i64 0):=HX1.out.cell 3;have x4V1:V1.cell? ⟨S,4,none⟩=some (.slice p 0 c):=HX1.out.cell 4;have x5V1:V1.cell? ⟨S,5,none⟩=some (.int .i64 q):=HX1.out.cell 5))
   go_end0
   exact⟨rfl,by have h_:=HB1.out;simpa [app_list,List.append_assoc] using h_,HW1.out⟩
  ·rw [tx4] at hlen ⊢
   show Calls Tryz.prog 101 #[PtrTo b,xv 4 s 0 0 p 0 c q] w fun e w'=>e=.returned (.tuple #[])∧BldT 70 [] N b (xs++(([114,101,97,100,40]++s.data.toList)++[41])) w'∧Wrote N b w w'
   have HLN:=zh hlen
   have hs1:s.size≤1048576:=hz.1
   clear hlen hX hz ih hb hE hB hok hs
   go_enter Tryz.func101,Tryz.ntmps101
   go_upto_region 1 with fail
   have hb1_:Blk w.heap.size [.int .i64 4,.string s,.int .i16 0,.int .i64 0,.slice p 0 c,.int .i64 q] 35 (w.alloc (Obj.cells #[.int .i64 4,.string s,.int .i16 0,.int .i64 0,.slice p 0 c,.int .i64 q] 35)):=Blk.new w _ _
   have hgV:Grew w (w.alloc (Obj.cells #[.int .i64 4,.string s,.int .i16 0,.int .i64 0,.slice p 0 c,.int .i64 q] 35)):=(Grew.refl w).alloc _
   have hne_:w.heap.size≠b:=by have:=HB.out.lt;omega
   generalize (w.alloc (Obj.cells #[.int .i64 4,.string s,.int .i16 0,.int .i64 0,.slice p 0 c,.int .i64 q] 35))=V0 at hb1_ hgV ⊢
   generalize w.heap.size=S at hb1_ hne_ ⊢
   have HW0:=zh (Wrote.of_grew (N:=N) (b:=b) hgV HNw.out)
   have HB0:=zh (HB.out.grew hgV)
   have HN0:=zh (Nat.le_trans HNw.out hgV.sz)
   have HX0:=zh hb1_
   have HNE:=zh hne_
   clear hb1_ hgV hne_
   have x0V0:V0.cell? ⟨S,0,none⟩=some (.int .i64 4):=HX0.out.cell 0
   have x1V0:V0.cell? ⟨S,1,none⟩=some (.string s):=HX0.out.cell 1
   have x2V0:V0.cell? ⟨S,2,none⟩=some (.int .i16 0):=HX0.out.cell 2
   have x3V0:V0.cell? ⟨S,3,none⟩=some (.int .i64 0):=HX0.out.cell 3
   have x4V0:V0.cell? ⟨S,4,none⟩=some (.slice p 0 c):=HX0.out.cell 4
   have x5V0:V0.cell? ⟨S,5,none⟩=some (.int .i64 q):=HX0.out.cell 5
   go_wp2_with (first
    | (go_at_call 93;(with_reducible refine(wstrS_any btB N b (xs) ((⟨#[114,101,97,100,40]⟩:ByteArray)++s++⟨#[41]⟩) V0 HB0.out (by have h_:=HLN.out;first | omega | (simp only [app_list,List.length_append,List.length_cons,List.length_nil] at h_ ⊢;omega) | (simp only [app_list,List.length_append,List.length_cons,List.length_nil] at h_ ⊢;done) | (simp [app_list,List.length_append] at h_ ⊢;omega)) HN0.out).mono ?_);rintro e V1 ⟨⟨v_0,rfl⟩,hb_,hw_⟩;have HW1:=zh (HW0.out.trans hw_);have HB1:=zh hb_;have HN1:=zh (Nat.le_trans HN0.out hw_.bel.size);have HX1:=zh (HX0.out.wrote hw_ HNE.out (by decide));clear hb_ hw_;have x0V1:V1.cell? ⟨S,0,none⟩=some (.int .i64 4):=HX1.out.cell 0;have x1V1:V1.cell? ⟨S,1,none⟩=some (.string s):=HX1.out.cell 1;have x2V1:V1.cell? ⟨S,2,none⟩=some (.int .i16 0):=HX1.out.cell 2;have x3V1:V1.cell? ⟨S,3,none⟩=some (.int .i64 0):=HX1.out.cell 3;have x4V1:V1.cell? ⟨S,4,none⟩=some (.slice p 0 c):=HX1.out.cell 4;have x5V1:V1.cell? ⟨S,5,none⟩=some (.int .i64 q):=HX1.out.cell 5))
   go_end0
   exact⟨rfl,by have h_:=HB1.out;simpa [app_list,List.append_assoc] using h_,HW1.out⟩
 ·rw [tx3] at hlen ⊢
  have hIA:=ih a (by simp)
  replace hX:XL B w p c [a]:=hX
  obtain ⟨bz,oz,pa,ca,rfl,hba,haa,hca⟩:=hX.get 0 (by simp)
  obtain ⟨ka,sa,va,oa,ra,qa⟩:=a
  replace haa:XL B w pa ca ra:=haa
  replace hba:B bz∧sa.size≤1048576∧va≤32767:=hba
  have HAa:=zh haa
  have HZa:=zh hba.2
  have hcapa:ra.length≤ca:=haa.cap.1
  have hmaxa:=haa.cap.2.1
  have HCa:Hid (∀i_ u_,(xdc ⟨ka,sa,va,oa,pa,ra.length,ca,qa⟩)[i_]?=some u_→w.cell? ⟨bz,oz+0 * 6+i_,none⟩=some u_):=zh hca
  have HLT:Hid (bz < N):=zh (hB bz hba.1)
  clear haa hba hca
  show Calls Tryz.prog 101 #[PtrTo b,xv 3 s 0 0 (some ⟨bz,oz,none⟩) 1 c q] w fun e w'=>e=.returned (.tuple #[])∧BldT 70 [] N b (xs++((s.data.toList++[91])++txX ⟨ka,sa,va,oa,ra,qa⟩++[93])) w'∧Wrote N b w w'
  have HLN:=zh hlen
  have HIA:Hid (WxF ka sa va oa ra qa):=zh hIA
  have HOA:=zh ha
  have hs1:s.size≤1048576:=hz.1
  have hcp1:=hcap
  clear hlen hX hz ih hb hE hB hok hs hIA ha
  go_enter Tryz.func101,Tryz.ntmps101
  go_upto_region 1 with fail
  have hb1_:Blk w.heap.size [.int .i64 3,.string s,.int .i16 0,.int .i64 0,.slice (some ⟨bz,oz,none⟩) 1 c,.int .i64 q] 35 (w.alloc (Obj.cells #[.int .i64 3,.string s,.int .i16 0,.int .i64 0,.slice (some ⟨bz,oz,none⟩) 1 c,.int .i64 q] 35)):=Blk.new w _ _
  have hgV:Grew w (w.alloc (Obj.cells #[.int .i64 3,.string s,.int .i16 0,.int .i64 0,.slice (some ⟨bz,oz,none⟩) 1 c,.int .i64 q] 35)):=(Grew.refl w).alloc _
  have hne_:w.heap.size≠b:=by have:=HB.out.lt;omega
  generalize (w.alloc (Obj.cells #[.int .i64 3,.string s,.int .i16 0,.int .i64 0,.slice (some ⟨bz,oz,none⟩) 1 c,.int .i64 q] 35))=V0 at hb1_ hgV ⊢
  generalize w.heap.size=S at hb1_ hne_ ⊢
  have HW0:=zh (Wrote.of_grew (N:=N) (b:=b) hgV HNw.out)
  have HB0:=zh (HB.out.grew hgV)
  have HN0:=zh (Nat.le_trans HNw.out hgV.sz)
  have HX0:=zh hb1_
  have HNE:=zh hne_
  clear hb1_ hgV hne_
  have x0V0:V0.cell? ⟨S,0,none⟩=some (.int .i64 3):=HX0.out.cell 0
  have x1V0:V0.cell? ⟨S,1,none⟩=some (.string s):=HX0.out.cell 1
  have x2V0:V0.cell? ⟨S,2,none⟩=some (.int .i16 0):=HX0.out.cell 2
  have x3V0:V0.cell? ⟨S,3,none⟩=some (.int .i64 0):=HX0.out.cell 3
  have x4V0:V0.cell? ⟨S,4,none⟩=some (.slice (some ⟨bz,oz,none⟩) 1 c):=HX0.out.cell 4
  have x5V0:V0.cell? ⟨S,5,none⟩=some (.int .i64 q):=HX0.out.cell 5
  have bw_aV0:=HW0.out.bel
  have a0V0:V0.cell? ⟨bz,oz,none⟩=some (.int .i64 ka):=(by simpa [Nat.add_assoc] using below_cell bw_aV0 HLT.out (HCa.out 0 _ rfl))
  have a1V0:V0.cell? ⟨bz,oz+1,none⟩=some (.string sa):=(by simpa [Nat.add_assoc] using below_cell bw_aV0 HLT.out (HCa.out 1 _ rfl))
  have a2V0:V0.cell? ⟨bz,oz+2,none⟩=some (.int .i16 va):=(by simpa [Nat.add_assoc] using below_cell bw_aV0 HLT.out (HCa.out 2 _ rfl))
  have a3V0:V0.cell? ⟨bz,oz+3,none⟩=some (.int .i64 oa):=(by simpa [Nat.add_assoc] using below_cell bw_aV0 HLT.out (HCa.out 3 _ rfl))
  have a4V0:V0.cell? ⟨bz,oz+4,none⟩=some (.slice pa ra.length ca):=(by simpa [Nat.add_assoc] using below_cell bw_aV0 HLT.out (HCa.out 4 _ rfl))
  have a5V0:V0.cell? ⟨bz,oz+5,none⟩=some (.int .i64 qa):=(by simpa [Nat.add_assoc] using below_cell bw_aV0 HLT.out (HCa.out 5 _ rfl))
  go_wp2_with (first
   | (go_at_call 93;(with_reducible refine(wstrS_any btB N b (xs) (s++⟨#[91]⟩) V0 HB0.out (by have h_:=HLN.out;first | omega | (simp only [app_list,List.length_append,List.length_cons,List.length_nil] at h_ ⊢;omega) | (simp only [app_list,List.length_append,List.length_cons,List.length_nil] at h_ ⊢;done) | (simp [app_list,List.length_append] at h_ ⊢;omega)) HN0.out).mono ?_);rintro e V1 ⟨⟨v_0,rfl⟩,hb_,hw_⟩;have HW1:=zh (HW0.out.trans hw_);have HB1:=zh hb_;have HN1:=zh (Nat.le_trans HN0.out hw_.bel.size);have HX1:=zh (HX0.out.wrote hw_ HNE.out (by decide));clear hb_ hw_;have x0V1:V1.cell? ⟨S,0,none⟩=some (.int .i64 3):=HX1.out.cell 0;have x1V1:V1.cell? ⟨S,1,none⟩=some (.string s):=HX1.out.cell 1;have x2V1:V1.cell? ⟨S,2,none⟩=some (.int .i16 0):=HX1.out.cell 2;have x3V1:V1.cell? ⟨S,3,none⟩=some (.int .i64 0):=HX1.out.cell 3;have x4V1:V1.cell? ⟨S,4,none⟩=some (.slice (some ⟨bz,oz,none⟩) 1 c):=HX1.out.cell 4;have x5V1:V1.cell? ⟨S,5,none⟩=some (.int .i64 q):=HX1.out.cell 5;have bw_aV1:=HW1.out.bel;have a0V1:V1.cell? ⟨bz,oz,none⟩=some (.int .i64 ka):=(by simpa [Nat.add_assoc] using below_cell bw_aV1 HLT.out (HCa.out 0 _ rfl));have a1V1:V1.cell? ⟨bz,oz+1,none⟩=some (.string sa):=(by simpa [Nat.add_assoc] using below_cell bw_aV1 HLT.out (HCa.out 1 _ rfl));have a2V1:V1.cell? ⟨bz,oz+2,none⟩=some (.int .i16 va):=(by simpa [Nat.add_assoc] using below_cell bw_aV1 HLT.out (HCa.out 2 _ rfl));have a3V1:V1.cell? ⟨bz,oz+3,none⟩=some (.int .i64 oa):=(by simpa [Nat.add_assoc] using below_cell bw_aV1 HLT.out (HCa.out 3 _ rfl));have a4V1:V1.cell? ⟨bz,oz+4,none⟩=some (.slice pa ra.length ca):=(by simpa [Nat.add_assoc] using below_cell bw_aV1 HLT.out (HCa.out 4 _ rfl));have a5V1:V1.cell? ⟨bz,oz+5,none⟩=some (.int .i64 qa):=(by simpa [Nat.add_assoc] using below_cell bw_aV1 HLT.out (HCa.out 5 _ rfl)))
   | (go_at_call 101;(with_reducible refine(HIA.out N b (xs++(s++⟨#[91]⟩).data.toList) B V1 pa ca HB1.out HN1.out HBN.out (HAa.out.below HBN.out HW1.out.bel) HZa.out (HE.out.wrote HW1.out) HOA.out (by have h_:=HLN.out;first | omega | (simp only [app_list,List.length_append,List.length_cons,List.length_nil] at h_ ⊢;omega) | (simp only [app_list,List.length_append,List.length_cons,List.length_nil] at h_ ⊢;done) | (simp [app_list,List.length_append] at h_ ⊢;omega))).mono ?_);rintro e V2 ⟨rfl,hb_,hw_⟩;have HW2:=zh (HW1.out.trans hw_);have HB2:=zh hb_;have HN2:=zh (Nat.le_trans HN1.out hw_.bel.size);have HX2:=zh (HX1.out.wrote hw_ HNE.out (by decide));clear hb_ hw_;have x0V2:V2.cell? ⟨S,0,none⟩=some (.int .i64 3):=HX2.out.cell 0;have x1V2:V2.cell? ⟨S,1,none⟩=some (.string s):=HX2.out.cell 1;have x2V2:V2.cell? ⟨S,2,none⟩=some (.int .i16 0):=HX2.out.cell 2;have x3V2:V2.cell? ⟨S,3,none⟩=some (.int .i64 0):=HX2.out.cell 3;have x4V2:V2.cell? ⟨S,4,none⟩=some (.slice (some ⟨bz,oz,none⟩) 1 c):=HX2.out.cell 4;have x5V2:V2.cell? ⟨S,5,none⟩=some (.int .i64 q):=HX2.out.cell 5;have bw_aV2:=HW2.out.bel;have a0V2:V2.cell? ⟨bz,oz,none⟩=some (.int .i64 ka):=(by simpa [Nat.add_assoc] using below_cell bw_aV2 HLT.out (HCa.out 0 _ rfl));have a1V2:V2.cell? ⟨bz,oz+1,none⟩=some (.string sa):=(by simpa [Nat.add_assoc] using below_cell bw_aV2 HLT.out (HCa.out 1 _ rfl));have a2V2:V2.cell? ⟨bz,oz+2,none⟩=some (.int .i16 va):=(by simpa [Nat.add_assoc] using below_cell bw_aV2 HLT.out (HCa.out 2 _ rfl));have a3V2:V2.cell? ⟨bz,oz+3,none⟩=some (.int .i64 oa):=(by simpa [Nat.add_assoc] using below_cell bw_aV2 HLT.out (HCa.out 3 _ rfl));have a4V2:V2.cell? ⟨bz,oz+4,none⟩=some (.slice pa ra.length ca):=(by simpa [Nat.add_assoc] using below_cell bw_aV2 HLT.out (HCa.out 4 _ rfl));have a5V2:V2.cell? ⟨bz,oz+5,none⟩=some (.int .i64 qa):=(by simpa [Nat.add_assoc] using below_cell bw_aV2 HLT.out (HCa.out 5 _ rfl)))
   | (go_at_call 93;(with_reducible refine(wstrS_any btB N b (xs++(s++⟨#[91]⟩).data.toList++txX ⟨ka,sa,va,oa,ra,qa⟩) ⟨#[93]⟩ V2 HB2.out (by have h_:=HLN.out;first | omega | (simp only [app_list,List.length_append,List.length_cons,List.length_nil] at h_ ⊢;omega) | (simp only [app_list,List.length_append,List.length_cons,List.length_nil] at h_ ⊢;done) | (simp [app_list,List.length_append] at h_ ⊢;omega)) HN2.out).mono ?_);rintro e V3 ⟨⟨v_2,rfl⟩,hb_,hw_⟩;have HW3:=zh (HW2.out.trans hw_);have HB3:=zh hb_;have HN3:=zh (Nat.le_trans HN2.out hw_.bel.size);have HX3:=zh (HX2.out.wrote hw_ HNE.out (by decide));clear hb_ hw_;have x0V3:V3.cell? ⟨S,0,none⟩=some (.int .i64 3):=HX3.out.cell 0;have x1V3:V3.cell? ⟨S,1,none⟩=some (.string s):=HX3.out.cell 1;have x2V3:V3.cell? ⟨S,2,none⟩=some (.int .i16 0):=HX3.out.cell 2;have x3V3:V3.cell? ⟨S,3,none⟩=some (.int .i64 0):=HX3.out.cell 3;have x4V3:V3.cell? ⟨S,4,none⟩=some (.slice (some ⟨bz,oz,none⟩) 1 c):=HX3.out.cell 4;have x5V3:V3.cell? ⟨S,5,none⟩=some (.int .i64 q):=HX3.out.cell 5;have bw_aV3:=HW3.out.bel;have a0V3:V3.cell? ⟨bz,oz,none⟩=some (.int .i64 ka):=(by simpa [Nat.add_assoc] using below_cell bw_aV3 HLT.out (HCa.out 0 _ rfl));have a1V3:V3.cell? ⟨bz,oz+1,none⟩=some (.string sa):=(by simpa [Nat.add_assoc] using below_cell bw_aV3 HLT.out (HCa.out 1 _ rfl));have a2V3:V3.cell? ⟨bz,oz+2,none⟩=some (.int .i16 va):=(by simpa [Nat.add_assoc] using below_cell bw_aV3 HLT.out (HCa.out 2 _ rfl));have a3V3:V3.cell? ⟨bz,oz+3,none⟩=some (.int .i64 oa):=(by simpa [Nat.add_assoc] using below_cell bw_aV3 HLT.out (HCa.out 3 _ rfl));have a4V3:V3.cell? ⟨bz,oz+4,none⟩=some (.slice pa ra.length ca):=(by simpa [Nat.add_assoc] using below_cell bw_aV3 HLT.out (HCa.out 4 _ rfl));have a5V3:V3.cell? ⟨bz,oz+5,none⟩=some (.int .i64 qa):=(by simpa [Nat.add_assoc] using below_cell bw_aV3 HLT.out (HCa.out 5 _ rfl))))
  go_end0
  exact⟨rfl,by have h_:=HB3.out;simpa [app_list,List.append_assoc] using h_,HW3.out⟩
 ·rw [tx5] at hlen ⊢
  have hIA:=ih a (by simp)
  replace hX:XL B w p c [a]:=hX
  have ho15:1≤o∧o≤15:=by omega
  have hlo:o=1∨o=2:=ho
  obtain ⟨bz,oz,pa,ca,rfl,hba,haa,hca⟩:=hX.get 0 (by simp)
  obtain ⟨ka,sa,va,oa,ra,qa⟩:=a
  replace haa:XL B w pa ca ra:=haa
  replace hba:B bz∧sa.size≤1048576∧va≤32767:=hba
  have HAa:=zh haa
  have HZa:=zh hba.2
  have hcapa:ra.length≤ca:=haa.cap.1
  have hmaxa:=haa.cap.2.1
  have HCa:Hid (∀i_ u_,(xdc ⟨ka,sa,va,oa,pa,ra.length,ca,qa⟩)[i_]?=some u_→w.cell? ⟨bz,oz+0 * 6+i_,none⟩=some u_):=zh hca
  have HLT:Hid (bz < N):=zh (hB bz hba.1)
  clear haa hba hca
  obtain ⟨on,rfl⟩:∃m:Nat,o=(m:Int):=⟨o.toNat,by omega⟩
  have t0_:w.cell? ⟨1,on * 2,none⟩=some (.string ⟨(sgT (on:Int)).toArray⟩):=hE.env.op on (by omega) (by omega) 0 rfl
  have t1_:w.cell? ⟨1,on * 2+1,none⟩=some (.int .i64 (lvO (on:Int))):=hE.env.op on (by omega) (by omega) 1 rfl
  have hgo:1 < N:=hE.2 _ (by decide)
  have b1_:(on:Int) < 16:=by omega
  have b2_:(0:Int)≤(on:Int):=by omega
  have hl6:lvO (on:Int)=6:=by rw [lvO,if_pos (by omega)]
  show Calls Tryz.prog 101 #[PtrTo b,xv 5 ⟨#[]⟩ 0 (on:Int) (some ⟨bz,oz,none⟩) 1 c q] w fun e w'=>e=.returned (.tuple #[])∧BldT 70 [] N b (xs++(sgT (on:Int)++opd 6 ka oa (txX ⟨ka,sa,va,oa,ra,qa⟩))) w'∧Wrote N b w w'
  replace hlen:xs.length+(sgT (on:Int)++opd 6 ka oa (txX ⟨ka,sa,va,oa,ra,qa⟩)).length≤140737488355328:=hlen
  have HLN:=zh hlen
  have HIA:Hid (OpF ka sa va oa ra qa):=zh (operand_wx _ hIA)
  have HOA:=zh ha
  have HLO:Hid (lvO (on:Int)≤6):=zh (by omega)
  have HL6:=zh hl6
  have HT0:=zh t0_
  have HT1:=zh t1_
  have HGO:=zh hgo
  clear hlen hX hz ih hb hE hB hok hIA ha ho hlo ho15 hl6 t0_ t1_ hgo
  go_enter Tryz.func101,Tryz.ntmps101
  go_upto_region 1 with fail
  have hb1_:Blk w.heap.size [.int .i64 5,.string ⟨#[]⟩,.int .i16 0,.int .i64 (on:Int),.slice (some ⟨bz,oz,none⟩) 1 c,.int .i64 q] 35 (w.alloc (Obj.cells #[.int .i64 5,.string ⟨#[]⟩,.int .i16 0,.int .i64 (on:Int),.slice (some ⟨bz,oz,none⟩) 1 c,.int .i64 q] 35)):=Blk.new w _ _
  have hgV:Grew w (w.alloc (Obj.cells #[.int .i64 5,.string ⟨#[]⟩,.int .i16 0,.int .i64 (on:Int),.slice (some ⟨bz,oz,none⟩) 1 c,.int .i64 q] 35)):=(Grew.refl w).alloc _
  have hne_:w.heap.size≠b:=by have:=HB.out.lt;omega
  generalize (w.alloc (Obj.cells #[.int .i64 5,.string ⟨#[]⟩,.int .i16 0,.int .i64 (on:Int),.slice (some ⟨bz,oz,none⟩) 1 c,.int .i64 q] 35))=V0 at hb1_ hgV ⊢
  generalize w.heap.size=S at hb1_ hne_ ⊢
  have HW0:=zh (Wrote.of_grew (N:=N) (b:=b) hgV HNw.out)
  have HB0:=zh (HB.out.grew hgV)
  have HN0:=zh (Nat.le_trans HNw.out hgV.sz)
  have HX0:=zh hb1_
  have HNE:=zh hne_
  clear hb1_ hgV hne_
  have x0V0:V0.cell? ⟨S,0,none⟩=some (.int .i64 5):=HX0.out.cell 0
  have x1V0:V0.cell? ⟨S,1,none⟩=some (.string ⟨#[]⟩):=HX0.out.cell 1
  have x2V0:V0.cell? ⟨S,2,none⟩=some (.int .i16 0):=HX0.out.cell 2
  have x3V0:V0.cell? ⟨S,3,none⟩=some (.int .i64 (on:Int)):=HX0.out.cell 3
  have x4V0:V0.cell? ⟨S,4,none⟩=some (.slice (some ⟨bz,oz,none⟩) 1 c):=HX0.out.cell 4
  have x5V0:V0.cell? ⟨S,5,none⟩=some (.int .i64 q):=HX0.out.cell 5
  have bw_aV0:=HW0.out.bel
  have a0V0:V0.cell? ⟨bz,oz,none⟩=some (.int .i64 ka):=(by simpa [Nat.add_assoc] using below_cell bw_aV0 HLT.out (HCa.out 0 _ rfl))
  have a1V0:V0.cell? ⟨bz,oz+1,none⟩=some (.string sa):=(by simpa [Nat.add_assoc] using below_cell bw_aV0 HLT.out (HCa.out 1 _ rfl))
  have a2V0:V0.cell? ⟨bz,oz+2,none⟩=some (.int .i16 va):=(by simpa [Nat.add_assoc] using below_cell bw_aV0 HLT.out (HCa.out 2 _ rfl))
  have a3V0:V0.cell? ⟨bz,oz+3,none⟩=some (.int .i64 oa):=(by simpa [Nat.add_assoc] using below_cell bw_aV0 HLT.out (HCa.out 3 _ rfl))
  have a4V0:V0.cell? ⟨bz,oz+4,none⟩=some (.slice pa ra.length ca):=(by simpa [Nat.add_assoc] using below_cell bw_aV0 HLT.out (HCa.out 4 _ rfl))
  have a5V0:V0.cell? ⟨bz,oz+5,none⟩=some (.int .i64 qa):=(by simpa [Nat.add_assoc] using below_cell bw_aV0 HLT.out (HCa.out 5 _ rfl))
  have t0V:V0.cell? ⟨1,on * 2,none⟩=some (.string ⟨(sgT (on:Int)).toArray⟩):=below_cell HW0.out.bel HGO.out HT0.out
  have t1V:V0.cell? ⟨1,on * 2+1,none⟩=some (.int .i64 (lvO (on:Int))):=below_cell HW0.out.bel HGO.out HT1.out
  have b3_:1 < V0.heap.size:=World.block_lt_of_cell? _ _ t0V
  go_upto_region 14 with fail
  have hb1_:Blk V0.heap.size [.string ⟨(sgT (on:Int)).toArray⟩,.int .i64 (lvO (on:Int))] 151 (V0.alloc (Obj.cells #[.string ⟨(sgT (on:Int)).toArray⟩,.int .i64 (lvO (on:Int))] 151)):=Blk.new V0 _ _
  have hgV:Grew V0 (V0.alloc (Obj.cells #[.string ⟨(sgT (on:Int)).toArray⟩,.int .i64 (lvO (on:Int))] 151)):=(Grew.refl V0).alloc _
  have hne_:V0.heap.size≠b:=by have:=HB0.out.lt;omega
  generalize (V0.alloc (Obj.cells #[.string ⟨(sgT (on:Int)).toArray⟩,.int .i64 (lvO (on:Int))] 151))=V1 at hb1_ hgV ⊢
  generalize V0.heap.size=O at hb1_ hne_ ⊢
  have HW1:=zh (HW0.out.grew hgV HNw.out)
  have HB1:=zh (HB0.out.grew hgV)
  have HN1:=zh (Nat.le_trans HN0.out hgV.sz)
  have HX1:=zh (HX0.out.grew hgV)
  have HO1:=zh hb1_
  have HNO:=zh hne_
  clear hb1_ hgV hne_
  have y0V1:V1.cell? ⟨O,0,none⟩=some (.string ⟨(sgT (on:Int)).toArray⟩):=HO1.out.cell 0
  have y1V1:V1.cell? ⟨O,1,none⟩=some (.int .i64 (lvO (on:Int))):=HO1.out.cell 1
  have x0V1:V1.cell? ⟨S,0,none⟩=some (.int .i64 5):=HX1.out.cell 0
  have x1V1:V1.cell? ⟨S,1,none⟩=some (.string ⟨#[]⟩):=HX1.out.cell 1
  have x2V1:V1.cell? ⟨S,2,none⟩=some (.int .i16 0):=HX1.out.cell 2
  have x3V1:V1.cell? ⟨S,3,none⟩=some (.int .i64 (on:Int)):=HX1.out.cell 3
  have x4V1:V1.cell? ⟨S,4,none⟩=some (.slice (some ⟨bz,oz,none⟩) 1 c):=HX1.out.cell 4
  have x5V1:V1.cell? ⟨S,5,none⟩=some (.int .i64 q):=HX1.out.cell 5
  go_upto_region 15 with (go_at_call 93;(with_reducible refine(wstr_any btB N b xs (sgT (on:Int)) V1 HB1.out (by have h_:=HLN.out;first | omega | (simp only [app_list,List.length_append,List.length_cons,List.length_nil] at h_ ⊢;omega) | (simp only [app_list,List.length_append,List.length_cons,List.length_nil] at h_ ⊢;done) | (simp [app_list,List.length_append] at h_ ⊢;omega)) HN1.out).mono ?_);rintro e V2 ⟨⟨v_1,rfl⟩,hb_,hw_⟩;have HW2:=zh (HW1.out.trans hw_);have HB2:=zh hb_;have HN2:=zh (Nat.le_trans HN1.out hw_.bel.size);have HX2:=zh (HX1.out.wrote hw_ HNE.out (by decide));have HO2:=zh (HO1.out.wrote hw_ HNO.out (by decide));clear hb_ hw_)
  have d3:Atv ⟨S,3,none⟩ (.int .i64 (on:Int)) V2.drew:=(HX2.out.grew (Grew.refl _).drw).atv 3 rfl
  have d4:Atv ⟨S,4,none⟩ (.slice (some ⟨bz,oz,none⟩) 1 c) V2.drew:=(HX2.out.grew (Grew.refl _).drw).atv 4 rfl
  have l0:Atv ⟨O,0,none⟩ (.string ⟨(sgT (on:Int)).toArray⟩) V2.drew:=(HO2.out.grew (Grew.refl _).drw).atv 0 rfl
  have l1:Atv ⟨O,1,none⟩ (.int .i64 (lvO (on:Int))) V2.drew:=(HO2.out.grew (Grew.refl _).drw).atv 1 rfl
  have bw_:Below N w V2.drew:=Below.drew HW2.out.bel
  have a0:Atv ⟨bz,oz+0 * 6,none⟩ (.int .i64 ka) V2.drew:=below_cell bw_ HLT.out (HCa.out 0 _ rfl)
  have a1:Atv ⟨bz,oz+0 * 6+1,none⟩ (.string sa) V2.drew:=below_cell bw_ HLT.out (HCa.out 1 _ rfl)
  have a2:Atv ⟨bz,oz+0 * 6+2,none⟩ (.int .i16 va) V2.drew:=below_cell bw_ HLT.out (HCa.out 2 _ rfl)
  have a3:Atv ⟨bz,oz+0 * 6+3,none⟩ (.int .i64 oa) V2.drew:=below_cell bw_ HLT.out (HCa.out 3 _ rfl)
  have a4:Atv ⟨bz,oz+0 * 6+4,none⟩ (.slice pa ra.length ca) V2.drew:=below_cell bw_ HLT.out (HCa.out 4 _ rfl)
  have a5:Atv ⟨bz,oz+0 * 6+5,none⟩ (.int .i64 qa) V2.drew:=below_cell bw_ HLT.out (HCa.out 5 _ rfl)
  refine wp_grew_tail 7 [some 55,some 56,some 57,some 58,some 59,some 60,some 61] (Zfg (Zfe (Zfc (Zfb (Zfa (Ztc (Ztb (Zta (Zfe (Zfd (Zfc (Zfb [])))))))))))) [fun v _=>v=.pointer (some ⟨b,0,none⟩),fun v _=>v=.pointer (some ⟨S,4,none⟩),fun v _=>v=.slice (some ⟨bz,oz,none⟩) (1) (c),fun v _=>v=.pointer (some ⟨bz,oz+0 * 6,none⟩),fun v _=>v=.agg #[.int .i64 (ka),.string sa,.int .i16 (va),.int .i64 (oa),.slice pa ra.length ca,.int .i64 (qa)],fun v _=>v=.pointer (some ⟨O,1,none⟩),fun v _=>v=.int .i64 (lvO (on:Int))] (by kernel_rfl) (by kernel_rfl) (by kernel_rfl) rfl ?_ ⟨?_,?_,?_,?_,?_,?_,?_,trivial⟩ ?_
  ·exact⟨Zi,Zi,Zi,Zi,Zi,Zi,Zi,trivial⟩
  ·intro u w hR hd;exact runs_mv (ev rfl) Zr
  ·intro u w hR hd;exact rn_fld_35_4 (ev rfl) Zr
  ·intro u w hR hd;exact rn_ld_33 (ev (hd.1 rfl)) (d4.kept hR) Zr
  ·intro u w hR hd;exact rn_idx_33 (0) (ev (hd.1 rfl)) rfl (by omega) Zr
  ·intro u w hR hd;exact rn_ld_35 (ev (hd.1 rfl)) (a0.kept hR) (a1.kept hR) (a2.kept hR) (a3.kept hR) (a4.kept hR) (a5.kept hR) Zr
  ·intro u w hR hd;exact rn_fld_151_1 (ev rfl) Zr
  ·intro u w hR hd;exact rn_ld_3 (ev (hd.1 rfl)) (l1.kept hR) Zr
  ·intro u w5 hR5 h
   have e0:u 55=PtrTo b:=h 0 (by decide)
   have e4:u 59=.agg #[.int .i64 (ka),.string sa,.int .i16 (va),.int .i64 (oa),.slice pa ra.length ca,.int .i64 (qa)]:=h 4 (by decide)
   have e6:u 61=.int .i64 (lvO (on:Int)):=h 6 (by decide)
   have g5:Grew V2 w5:=(Grew.refl V2).drw.trans hR5
   have HW5:=zh (HW2.out.grew g5 HNw.out)
   have HB5:=zh (HB2.out.grew g5)
   have HN5:=zh (Nat.le_trans HN2.out g5.sz)
   have HX5:=zh (HX2.out.grew g5)
   have HO5:=zh (HO2.out.grew g5)
   refine wpAny_one (i:=7) (some 62) (by kernel_rfl) rfl rfl rfl (runs_c3 en_wo (ev e0) (ev e4) (ev e6) ((HIA.out (lvO (on:Int)) N b (xs++sgT (on:Int)) B w5 pa ca HB5.out HN5.out HBN.out (HAa.out.below HBN.out HW5.out.bel) HZa.out (HE.out.wrote HW5.out) HOA.out (by rw [HL6.out];exact(by have h_:=HLN.out;first | omega | (simp only [app_list,List.length_append,List.length_cons,List.length_nil] at h_ ⊢;omega) | (simp only [app_list,List.length_append,List.length_cons,List.length_nil] at h_ ⊢;done) | (simp [app_list,List.length_append] at h_ ⊢;omega)))).mono ?_))
   rintro e_ V3 ⟨rfl,hb_,hw_⟩
   refine⟨_,rfl,?_⟩
   refine wpAny_done (by kernel_rfl) ?_ _
   simp only [zz1,zz2,zz3,Act.put,mixA,mixL,zz9,zz0,zz4,zz5,zz6]
   try simp only [Nat.zero_add,Nat.reduceAdd]
   have HW3:=zh (HW5.out.trans hw_)
   have HB3:=zh hb_
   have HN3:=zh (Nat.le_trans HN5.out hw_.bel.size)
   have HX3:=zh (HX5.out.wrote hw_ HNE.out (by decide))
   have HO3:=zh (HO5.out.wrote hw_ HNO.out (by decide))
   clear h hR5 g5 hb_ hw_ e0 e4 e6 HW5 HB5 HN5 HX5 HO5 d3 d4 l0 l1 bw_ a0 a1 a2 a3 a4 a5
   generalize u 55=z55
   generalize u 56=z56
   generalize u 57=z57
   generalize u 58=z58
   generalize u 59=z59
   generalize u 60=z60
   generalize u 61=z61
   go_wp2
   go_end0
   exact⟨rfl,by have h_:=HB3.out;rw [HL6.out] at h_;rw [← List.append_assoc];exact h_,HW3.out⟩
 ·rw [tx6] at hlen ⊢
  have hIA:=ih a (by simp)
  have hIB:=ih b' (by simp)
  replace hX:XL B w p c [a,b']:=hX
  have ho15:1≤o∧o≤15:=by omega
  obtain ⟨bz,oz,pa,ca,rfl,hba,haa,hca⟩:=hX.get 0 (by simp)
  obtain ⟨bz1,oz1,pb,cb,he1,hbb,hab,hcb⟩:=hX.get 1 (by simp)
  obtain ⟨rfl,rfl⟩:bz=bz1∧oz=oz1:=by simpa using he1
  obtain ⟨ka,sa,va,oa,ra,qa⟩:=a
  replace haa:XL B w pa ca ra:=haa
  replace hba:B bz∧sa.size≤1048576∧va≤32767:=hba
  have HAa:=zh haa
  have HZa:=zh hba.2
  have hcapa:ra.length≤ca:=haa.cap.1
  have hmaxa:=haa.cap.2.1
  have HCa:Hid (∀i_ u_,(xdc ⟨ka,sa,va,oa,pa,ra.length,ca,qa⟩)[i_]?=some u_→w.cell? ⟨bz,oz+0 * 6+i_,none⟩=some u_):=zh hca
  obtain ⟨kb,sb,vb,ob,rb,qb⟩:=b'
  replace hab:XL B w pb cb rb:=hab
  replace hbb:B bz∧sb.size≤1048576∧vb≤32767:=hbb
  have HAb:=zh hab
  have HZb:=zh hbb.2
  have hcapb:rb.length≤cb:=hab.cap.1
  have hmaxb:=hab.cap.2.1
  have HCb:Hid (∀i_ u_,(xdc ⟨kb,sb,vb,ob,pb,rb.length,cb,qb⟩)[i_]?=some u_→w.cell? ⟨bz,oz+1 * 6+i_,none⟩=some u_):=zh hcb
  have HLT:Hid (bz < N):=zh (hB bz hba.1)
  clear haa hba hca hab hbb hcb
  obtain ⟨on,rfl⟩:∃m:Nat,o=(m:Int):=⟨o.toNat,by omega⟩
  have t0_:w.cell? ⟨1,on * 2,none⟩=some (.string ⟨(sgT (on:Int)).toArray⟩):=hE.env.op on (by omega) (by omega) 0 rfl
  have t1_:w.cell? ⟨1,on * 2+1,none⟩=some (.int .i64 (lvO (on:Int))):=hE.env.op on (by omega) (by omega) 1 rfl
  have hgo:1 < N:=hE.2 _ (by decide)
  have b1_:(on:Int) < 16:=by omega
  have b2_:(0:Int)≤(on:Int):=by omega
  have hl6:lvO (on:Int)=lvT (on:Int):=by rw [lvO,if_neg (by omega)]
  show Calls Tryz.prog 101 #[PtrTo b,xv 6 ⟨#[]⟩ 0 (on:Int) (some ⟨bz,oz,none⟩) 2 c q] w fun e w'=>e=.returned (.tuple #[])∧BldT 70 [] N b (xs++(((((opd (lfT (on:Int)) ka oa (txX ⟨ka,sa,va,oa,ra,qa⟩))++[32])++sgT (on:Int))++[32])++opd (lvT (on:Int)+1) kb ob (txX ⟨kb,sb,vb,ob,rb,qb⟩))) w'∧Wrote N b w w'
  replace hlen:xs.length+((((((opd (lfT (on:Int)) ka oa (txX ⟨ka,sa,va,oa,ra,qa⟩))++[32])++sgT (on:Int))++[32])++opd (lvT (on:Int)+1) kb ob (txX ⟨kb,sb,vb,ob,rb,qb⟩))).length≤140737488355328:=hlen
  have HLN:=zh hlen
  have HIA:Hid (OpF ka sa va oa ra qa):=zh (operand_wx _ hIA)
  have HIB:Hid (OpF kb sb vb ob rb qb):=zh (operand_wx _ hIB)
  have HOA:=zh ha
  have HOB:=zh hb'
  have hlv:=(opF_lv (opF_sg ho).1)
  have HLO:Hid (1≤lvO (on:Int)∧lvO (on:Int)≤6):=zh (by omega)
  have HL6:=zh hl6
  have HLF:Hid ((if lvO (on:Int)=3 then 4 else lvO (on:Int))=lfT (on:Int)):=zh (by rw [hl6,lfT])
  have HSG:Hid ((⟨(sgT (on:Int)).toArray⟩:ByteArray).data.toList.length=(sgT (on:Int)).length∧(⟨#[32]⟩:ByteArray).data.toList.length=1):=zh ⟨by simp,rfl⟩
  have hsg1:(⟨(sgT (on:Int)).toArray⟩:ByteArray).size≤2:=by have:=sgT_len (on:Int);show (sgT (on:Int)).toArray.size≤2;rw [List.size_toArray];exact this
  have HSZ:=zh hsg1
  have HT0:=zh t0_
  have HT1:=zh t1_
  have HGO:=zh hgo
  clear hlen hX hz ih hb hE hB hok hIA hIB ha hb' ho ho15 hl6 t0_ t1_ hgo hlv
  go_enter Tryz.func101,Tryz.ntmps101
  go_upto_region 1 with fail
  have hb1_:Blk w.heap.size [.int .i64 6,.string ⟨#[]⟩,.int .i16 0,.int .i64 (on:Int),.slice (some ⟨bz,oz,none⟩) 2 c,.int .i64 q] 35 (w.alloc (Obj.cells #[.int .i64 6,.string ⟨#[]⟩,.int .i16 0,.int .i64 (on:Int),.slice (some ⟨bz,oz,none⟩) 2 c,.int .i64 q] 35)):=Blk.new w _ _
  have hgV:Grew w (w.alloc (Obj.cells #[.int .i64 6,.string ⟨#[]⟩,.int .i16 0,.int .i64 (on:Int),.slice (some ⟨bz,oz,none⟩) 2 c,.int .i64 q] 35)):=(Grew.refl w).alloc _
  have hne_:w.heap.size≠b:=by have:=HB.out.lt;omega
  generalize (w.alloc (Obj.cells #[.int .i64 6,.string ⟨#[]⟩,.int .i16 0,.int .i64 (on:Int),.slice (some ⟨bz,oz,none⟩) 2 c,.int .i64 q] 35))=V0 at hb1_ hgV ⊢
  generalize w.heap.size=S at hb1_ hne_ ⊢
  have HW0:=zh (Wrote.of_grew (N:=N) (b:=b) hgV HNw.out)
  have HB0:=zh (HB.out.grew hgV)
  have HN0:=zh (Nat.le_trans HNw.out hgV.sz)
  have HX0:=zh hb1_
  have HNE:=zh hne_
  clear hb1_ hgV hne_
  have x0V0:V0.cell? ⟨S,0,none⟩=some (.int .i64 6):=HX0.out.cell 0
  have x1V0:V0.cell? ⟨S,1,none⟩=some (.string ⟨#[]⟩):=HX0.out.cell 1
  have x2V0:V0.cell? ⟨S,2,none⟩=some (.int .i16 0):=HX0.out.cell 2
  have x3V0:V0.cell? ⟨S,3,none⟩=some (.int .i64 (on:Int)):=HX0.out.cell 3
  have x4V0:V0.cell? ⟨S,4,none⟩=some (.slice (some ⟨bz,oz,none⟩) 2 c):=HX0.out.cell 4
  have x5V0:V0.cell? ⟨S,5,none⟩=some (.int .i64 q):=HX0.out.cell 5
  have bw_aV0:=HW0.out.bel
  have a0V0:V0.cell? ⟨bz,oz,none⟩=some (.int .i64 ka):=(by simpa [Nat.add_assoc] using below_cell bw_aV0 HLT.out (HCa.out 0 _ rfl))
  have a1V0:V0.cell? ⟨bz,oz+1,none⟩=some (.string sa):=(by simpa [Nat.add_assoc] using below_cell bw_aV0 HLT.out (HCa.out 1 _ rfl))
  have a2V0:V0.cell? ⟨bz,oz+2,none⟩=some (.int .i16 va):=(by simpa [Nat.add_assoc] using below_cell bw_aV0 HLT.out (HCa.out 2 _ rfl))
  have a3V0:V0.cell? ⟨bz,oz+3,none⟩=some (.int .i64 oa):=(by simpa [Nat.add_assoc] using below_cell bw_aV0 HLT.out (HCa.out 3 _ rfl))
  have a4V0:V0.cell? ⟨bz,oz+4,none⟩=some (.slice pa ra.length ca):=(by simpa [Nat.add_assoc] using below_cell bw_aV0 HLT.out (HCa.out 4 _ rfl))
  have a5V0:V0.cell? ⟨bz,oz+5,none⟩=some (.int .i64 qa):=(by simpa [Nat.add_assoc] using below_cell bw_aV0 HLT.out (HCa.out 5 _ rfl))
  have bw_bV0:=HW0.out.bel
  have b0V0:V0.cell? ⟨bz,oz+6,none⟩=some (.int .i64 kb):=(by simpa [Nat.add_assoc] using below_cell bw_bV0 HLT.out (HCb.out 0 _ rfl))
  have b1V0:V0.cell? ⟨bz,oz+7,none⟩=some (.string sb):=(by simpa [Nat.add_assoc] using below_cell bw_bV0 HLT.out (HCb.out 1 _ rfl))
  have b2V0:V0.cell? ⟨bz,oz+8,none⟩=some (.int .i16 vb):=(by simpa [Nat.add_assoc] using below_cell bw_bV0 HLT.out (HCb.out 2 _ rfl))
  have b3V0:V0.cell? ⟨bz,oz+9,none⟩=some (.int .i64 ob):=(by simpa [Nat.add_assoc] using below_cell bw_bV0 HLT.out (HCb.out 3 _ rfl))
  have b4V0:V0.cell? ⟨bz,oz+10,none⟩=some (.slice pb rb.length cb):=(by simpa [Nat.add_assoc] using below_cell bw_bV0 HLT.out (HCb.out 4 _ rfl))
  have b5V0:V0.cell? ⟨bz,oz+11,none⟩=some (.int .i64 qb):=(by simpa [Nat.add_assoc] using below_cell bw_bV0 HLT.out (HCb.out 5 _ rfl))
  have t0V:V0.cell? ⟨1,on * 2,none⟩=some (.string ⟨(sgT (on:Int)).toArray⟩):=below_cell HW0.out.bel HGO.out HT0.out
  have t1V:V0.cell? ⟨1,on * 2+1,none⟩=some (.int .i64 (lvO (on:Int))):=below_cell HW0.out.bel HGO.out HT1.out
  have b3_:1 < V0.heap.size:=World.block_lt_of_cell? _ _ t0V
  clear hsg1
  go_upto_region 18 with fail
  have hb1_:Blk V0.heap.size [.string ⟨(sgT (on:Int)).toArray⟩,.int .i64 (lvO (on:Int))] 151 (V0.alloc (Obj.cells #[.string ⟨(sgT (on:Int)).toArray⟩,.int .i64 (lvO (on:Int))] 151)):=Blk.new V0 _ _
  have hgV:Grew V0 (V0.alloc (Obj.cells #[.string ⟨(sgT (on:Int)).toArray⟩,.int .i64 (lvO (on:Int))] 151)):=(Grew.refl V0).alloc _
  have hne_:V0.heap.size≠b:=by have:=HB0.out.lt;omega
  generalize (V0.alloc (Obj.cells #[.string ⟨(sgT (on:Int)).toArray⟩,.int .i64 (lvO (on:Int))] 151))=V1 at hb1_ hgV ⊢
  generalize V0.heap.size=O at hb1_ hne_ ⊢
  have HW1:=zh (HW0.out.grew hgV HNw.out)
  have HB1:=zh (HB0.out.grew hgV)
  have HN1:=zh (Nat.le_trans HN0.out hgV.sz)
  have HX1:=zh (HX0.out.grew hgV)
  have HO1:=zh hb1_
  have HNO:=zh hne_
  clear hb1_ hgV hne_
  have d3:Atv ⟨S,3,none⟩ (.int .i64 (on:Int)) V1.drew:=(HX1.out.grew (Grew.refl _).drw).atv 3 rfl
  have d4:Atv ⟨S,4,none⟩ (.slice (some ⟨bz,oz,none⟩) 2 c) V1.drew:=(HX1.out.grew (Grew.refl _).drw).atv 4 rfl
  have l0:Atv ⟨O,0,none⟩ (.string ⟨(sgT (on:Int)).toArray⟩) V1.drew:=(HO1.out.grew (Grew.refl _).drw).atv 0 rfl
  have l1:Atv ⟨O,1,none⟩ (.int .i64 (lvO (on:Int))) V1.drew:=(HO1.out.grew (Grew.refl _).drw).atv 1 rfl
  have bw_:Below N w V1.drew:=Below.drew HW1.out.bel
  have a0:Atv ⟨bz,oz+0 * 6,none⟩ (.int .i64 ka) V1.drew:=below_cell bw_ HLT.out (HCa.out 0 _ rfl)
  have a1:Atv ⟨bz,oz+0 * 6+1,none⟩ (.string sa) V1.drew:=below_cell bw_ HLT.out (HCa.out 1 _ rfl)
  have a2:Atv ⟨bz,oz+0 * 6+2,none⟩ (.int .i16 va) V1.drew:=below_cell bw_ HLT.out (HCa.out 2 _ rfl)
  have a3:Atv ⟨bz,oz+0 * 6+3,none⟩ (.int .i64 oa) V1.drew:=below_cell bw_ HLT.out (HCa.out 3 _ rfl)
  have a4:Atv ⟨bz,oz+0 * 6+4,none⟩ (.slice pa ra.length ca) V1.drew:=below_cell bw_ HLT.out (HCa.out 4 _ rfl)
  have a5:Atv ⟨bz,oz+0 * 6+5,none⟩ (.int .i64 qa) V1.drew:=below_cell bw_ HLT.out (HCa.out 5 _ rfl)
  have b0:Atv ⟨bz,oz+1 * 6,none⟩ (.int .i64 kb) V1.drew:=below_cell bw_ HLT.out (HCb.out 0 _ rfl)
  have b1:Atv ⟨bz,oz+1 * 6+1,none⟩ (.string sb) V1.drew:=below_cell bw_ HLT.out (HCb.out 1 _ rfl)
  have b2:Atv ⟨bz,oz+1 * 6+2,none⟩ (.int .i16 vb) V1.drew:=below_cell bw_ HLT.out (HCb.out 2 _ rfl)
  have b3:Atv ⟨bz,oz+1 * 6+3,none⟩ (.int .i64 ob) V1.drew:=below_cell bw_ HLT.out (HCb.out 3 _ rfl)
  have b4:Atv ⟨bz,oz+1 * 6+4,none⟩ (.slice pb rb.length cb) V1.drew:=below_cell bw_ HLT.out (HCb.out 4 _ rfl)
  have b5:Atv ⟨bz,oz+1 * 6+5,none⟩ (.int .i64 qb) V1.drew:=below_cell bw_ HLT.out (HCb.out 5 _ rfl)
  refine wp_grew_tail 7 [some 69,some 70,some 71,some 72,some 73,some 74,some 75] (Zfg (Zfg (Zfc (Zfa (Ztc (Ztb (Zta (Zfe [])))))))) [fun v _=>v=.pointer (some ⟨b,0,none⟩),fun v _=>v=.pointer (some ⟨S,4,none⟩),fun v _=>v=.slice (some ⟨bz,oz,none⟩) (2) (c),fun v _=>v=.pointer (some ⟨bz,oz+0 * 6,none⟩),fun v _=>v=.agg #[.int .i64 (ka),.string sa,.int .i16 (va),.int .i64 (oa),.slice pa ra.length ca,.int .i64 (qa)],fun v _=>v=.agg #[.string ⟨(sgT (on:Int)).toArray⟩,.int .i64 (lvO (on:Int))],fun v _=>v=.int .i64 (lfT (on:Int))] (by kernel_rfl) (by kernel_rfl) (by kernel_rfl) rfl ?_ ⟨?_,?_,?_,?_,?_,?_,?_,trivial⟩ ?_
  ·exact⟨Zi,Zi,Zi,Zi,Zi,Zi,Zi,trivial⟩
  ·intro u w hR hd;exact runs_mv (ev rfl) Zr
  ·intro u w hR hd;exact rn_fld_35_4 (ev rfl) Zr
  ·intro u w hR hd;exact rn_ld_33 (ev (hd.1 rfl)) (d4.kept hR) Zr
  ·intro u w hR hd;exact rn_idx_33 (0) (ev (hd.1 rfl)) rfl (by omega) Zr
  ·intro u w hR hd;exact rn_ld_35 (ev (hd.1 rfl)) (a0.kept hR) (a1.kept hR) (a2.kept hR) (a3.kept hR) (a4.kept hR) (a5.kept hR) Zr
  ·intro u w hR hd;exact rn_ld_151 (ev rfl) (l0.kept hR) (l1.kept hR) Zr
  ·intro u w hR hd;exact runs_c1 en_ll (ev (hd.1 rfl)) (callp (fun _ e=>e) ((least_any _ _ _ (by have h_:=HLO.out;omega)).mono fun e w9 h=>⟨h.1.trans (congrArg (fun z=>Ending.returned (.int .i64 z)) HLF.out),h.2⟩))
  ·intro u w5 hR5 h
   have e0:u 69=PtrTo b:=h 0 (by decide)
   have e4:u 73=.agg #[.int .i64 (ka),.string sa,.int .i16 (va),.int .i64 (oa),.slice pa ra.length ca,.int .i64 (qa)]:=h 4 (by decide)
   have e6:u 75=.int .i64 (lfT (on:Int)):=h 6 (by decide)
   have g5:Grew V1 w5:=(Grew.refl V1).drw.trans hR5
   have HW5:=zh (HW1.out.grew g5 HNw.out)
   have HB5:=zh (HB1.out.grew g5)
   have HN5:=zh (Nat.le_trans HN1.out g5.sz)
   have HX5:=zh (HX1.out.grew g5)
   have HO5:=zh (HO1.out.grew g5)
   refine wpAny_one (i:=7) (some 76) (by kernel_rfl) rfl rfl rfl (runs_c3 en_wo (ev e0) (ev e4) (ev e6) ((HIA.out (lfT (on:Int)) N b xs B w5 pa ca HB5.out HN5.out HBN.out (HAa.out.below HBN.out HW5.out.bel) HZa.out (HE.out.wrote HW5.out) HOA.out (by have h_:=HLN.out;first | omega | (simp only [app_list,List.length_append,List.length_cons,List.length_nil] at h_ ⊢;omega) | (simp only [app_list,List.length_append,List.length_cons,List.length_nil] at h_ ⊢;done) | (simp [app_list,List.length_append] at h_ ⊢;omega))).mono ?_))
   rintro e_ V2 ⟨rfl,hb_,hw_⟩
   refine⟨_,rfl,?_⟩
   refine wpAny_done (by kernel_rfl) ?_ _
   simp only [zz1,zz2,zz3,Act.put,mixA,mixL,zz9,zz0,zz4,zz5,zz6]
   try simp only [Nat.zero_add,Nat.reduceAdd]
   have HW2:=zh (HW5.out.trans hw_)
   have HB2:=zh hb_
   have HN2:=zh (Nat.le_trans HN5.out hw_.bel.size)
   have HX2:=zh (HX5.out.wrote hw_ HNE.out (by decide))
   have HO2:=zh (HO5.out.wrote hw_ HNO.out (by decide))
   clear h hR5 g5 hb_ hw_ e0 e4 e6 HW5 HB5 HN5 HX5 HO5 d3 d4 l0 l1 bw_ a0 a1 a2 a3 a4 a5 b0 b1 b2 b3 b4 b5
   generalize u 69=z69
   generalize u 70=z70
   generalize u 71=z71
   generalize u 72=z72
   generalize u 73=z73
   generalize u 74=z74
   generalize u 75=z75
   have y0V2:V2.cell? ⟨O,0,none⟩=some (.string ⟨(sgT (on:Int)).toArray⟩):=HO2.out.cell 0
   have y1V2:V2.cell? ⟨O,1,none⟩=some (.int .i64 (lvO (on:Int))):=HO2.out.cell 1

   have hsg1:=HSZ.out
   generalize hsg:(⟨(sgT (on:Int)).toArray⟩:ByteArray)=sg_ at y0V2 hsg1
   have HSG2:Hid (sg_.data.toList.length=(sgT (on:Int)).length∧(⟨#[32]⟩:ByteArray).data.toList.length=1):=zh (hsg ▸ HSG.out)
   have HSGE:=zh hsg
   clear hsg
   go_upto_region 20 with (go_at_call 93;(with_reducible refine(wstrS_any btB N b (xs++opd (lfT (on:Int)) ka oa (txX ⟨ka,sa,va,oa,ra,qa⟩)) ((⟨#[32]⟩:ByteArray)++sg_++⟨#[32]⟩) V2 HB2.out (by have h_:=HLN.out;have h2_:=HSG2.out;simp only [app_list,List.length_append,List.length_cons,List.length_nil] at h_ h2_ ⊢;omega) HN2.out).mono ?_);rintro e V3 ⟨⟨v_1,rfl⟩,hb_,hw_⟩;have HW3:=zh (HW2.out.trans hw_);have HB3:=zh hb_;have HN3:=zh (Nat.le_trans HN2.out hw_.bel.size);have HX3:=zh (HX2.out.wrote hw_ HNE.out (by decide));have HO3:=zh (HO2.out.wrote hw_ HNO.out (by decide));clear hb_ hw_)
   obtain rfl:=HSGE.out
   have d3:Atv ⟨S,3,none⟩ (.int .i64 (on:Int)) V3.drew:=(HX3.out.grew (Grew.refl _).drw).atv 3 rfl
   have d4:Atv ⟨S,4,none⟩ (.slice (some ⟨bz,oz,none⟩) 2 c) V3.drew:=(HX3.out.grew (Grew.refl _).drw).atv 4 rfl
   have l0:Atv ⟨O,0,none⟩ (.string ⟨(sgT (on:Int)).toArray⟩) V3.drew:=(HO3.out.grew (Grew.refl _).drw).atv 0 rfl
   have l1:Atv ⟨O,1,none⟩ (.int .i64 (lvO (on:Int))) V3.drew:=(HO3.out.grew (Grew.refl _).drw).atv 1 rfl
   have bw_:Below N w V3.drew:=Below.drew HW3.out.bel
   have a0:Atv ⟨bz,oz+0 * 6,none⟩ (.int .i64 ka) V3.drew:=below_cell bw_ HLT.out (HCa.out 0 _ rfl)
   have a1:Atv ⟨bz,oz+0 * 6+1,none⟩ (.string sa) V3.drew:=below_cell bw_ HLT.out (HCa.out 1 _ rfl)
   have a2:Atv ⟨bz,oz+0 * 6+2,none⟩ (.int .i16 va) V3.drew:=below_cell bw_ HLT.out (HCa.out 2 _ rfl)
   have a3:Atv ⟨bz,oz+0 * 6+3,none⟩ (.int .i64 oa) V3.drew:=below_cell bw_ HLT.out (HCa.out 3 _ rfl)
   have a4:Atv ⟨bz,oz+0 * 6+4,none⟩ (.slice pa ra.length ca) V3.drew:=below_cell bw_ HLT.out (HCa.out 4 _ rfl)
   have a5:Atv ⟨bz,oz+0 * 6+5,none⟩ (.int .i64 qa) V3.drew:=below_cell bw_ HLT.out (HCa.out 5 _ rfl)
   have b0:Atv ⟨bz,oz+1 * 6,none⟩ (.int .i64 kb) V3.drew:=below_cell bw_ HLT.out (HCb.out 0 _ rfl)
   have b1:Atv ⟨bz,oz+1 * 6+1,none⟩ (.string sb) V3.drew:=below_cell bw_ HLT.out (HCb.out 1 _ rfl)
   have b2:Atv ⟨bz,oz+1 * 6+2,none⟩ (.int .i16 vb) V3.drew:=below_cell bw_ HLT.out (HCb.out 2 _ rfl)
   have b3:Atv ⟨bz,oz+1 * 6+3,none⟩ (.int .i64 ob) V3.drew:=below_cell bw_ HLT.out (HCb.out 3 _ rfl)
   have b4:Atv ⟨bz,oz+1 * 6+4,none⟩ (.slice pb rb.length cb) V3.drew:=below_cell bw_ HLT.out (HCb.out 4 _ rfl)
   have b5:Atv ⟨bz,oz+1 * 6+5,none⟩ (.int .i64 qb) V3.drew:=below_cell bw_ HLT.out (HCb.out 5 _ rfl)
   refine wp_grew_tail 8 [some 83,some 84,some 85,some 86,some 87,some 88,some 89,some 90] (Zfg (Zfg (Zfe (Zfb (Zfa (Ztd (Zfa []))))))) [fun v _=>v=.pointer (some ⟨b,0,none⟩),fun v _=>v=.pointer (some ⟨S,4,none⟩),fun v _=>v=.slice (some ⟨bz,oz,none⟩) (2) (c),fun v _=>v=.pointer (some ⟨bz,oz+1 * 6,none⟩),fun v _=>v=.agg #[.int .i64 (kb),.string sb,.int .i16 (vb),.int .i64 (ob),.slice pb rb.length cb,.int .i64 (qb)],fun v _=>v=.pointer (some ⟨O,1,none⟩),fun v _=>v=.int .i64 (lvO (on:Int)),fun v _=>v=.int .i64 ((lvO (on:Int))+(1))] (by kernel_rfl) (by kernel_rfl) (by kernel_rfl) rfl ?_ ⟨?_,?_,?_,?_,?_,?_,?_,?_,trivial⟩ ?_
   ·exact⟨Zi,Zi,Zi,Zi,Zi,Zi,Zi,Zi,trivial⟩
   ·intro u w hR hd;exact runs_mv (ev rfl) Zr
   ·intro u w hR hd;exact rn_fld_35_4 (ev rfl) Zr
   ·intro u w hR hd;exact rn_ld_33 (ev (hd.1 rfl)) (d4.kept hR) Zr
   ·intro u w hR hd;exact rn_idx_33 (1) (ev (hd.1 rfl)) rfl (by omega) Zr
   ·intro u w hR hd;exact rn_ld_35 (ev (hd.1 rfl)) (b0.kept hR) (b1.kept hR) (b2.kept hR) (b3.kept hR) (b4.kept hR) (b5.kept hR) Zr
   ·intro u w hR hd;exact rn_fld_151_1 (ev rfl) Zr
   ·intro u w hR hd;exact rn_ld_3 (ev (hd.1 rfl)) (l1.kept hR) Zr
   ·intro u w hR hd;exact rn_add_3 (ev (hd.1 rfl)) rfl (by have:=HLO.out;omega) Zr
   ·intro u w5 hR5 h
    have e0:u 83=PtrTo b:=h 0 (by decide)
    have e4:u 87=.agg #[.int .i64 (kb),.string sb,.int .i16 (vb),.int .i64 (ob),.slice pb rb.length cb,.int .i64 (qb)]:=h 4 (by decide)
    have e6:u 90=.int .i64 ((lvO (on:Int))+(1)):=h 7 (by decide)
    have g5:Grew V3 w5:=(Grew.refl V3).drw.trans hR5
    have HW5:=zh (HW3.out.grew g5 HNw.out)
    have HB5:=zh (HB3.out.grew g5)
    have HN5:=zh (Nat.le_trans HN3.out g5.sz)
    have HX5:=zh (HX3.out.grew g5)
    have HO5:=zh (HO3.out.grew g5)
    refine wpAny_one (i:=8) (some 91) (by kernel_rfl) rfl rfl rfl (runs_c3 en_wo (ev e0) (ev e4) (ev e6) ((HIB.out (lvO (on:Int)+1) N b ((xs++opd (lfT (on:Int)) ka oa (txX ⟨ka,sa,va,oa,ra,qa⟩))++((⟨#[32]⟩:ByteArray)++⟨(sgT (on:Int)).toArray⟩++⟨#[32]⟩).data.toList) B w5 pb cb HB5.out HN5.out HBN.out (HAb.out.below HBN.out HW5.out.bel) HZb.out (HE.out.wrote HW5.out) HOB.out (by rw [HL6.out];exact(by have h_:=HLN.out;have h2_:=HSG.out;simp only [app_list,List.length_append,List.length_cons,List.length_nil] at h_ h2_ ⊢;omega))).mono ?_))
    rintro e_ V4 ⟨rfl,hb_,hw_⟩
    refine⟨_,rfl,?_⟩
    refine wpAny_done (by kernel_rfl) ?_ _
    simp only [zz1,zz2,zz3,Act.put,mixA,mixL,zz9,zz0,zz4,zz5,zz6]
    try simp only [Nat.zero_add,Nat.reduceAdd]
    have HW4:=zh (HW5.out.trans hw_)
    have HB4:=zh hb_
    have HN4:=zh (Nat.le_trans HN5.out hw_.bel.size)
    have HX4:=zh (HX5.out.wrote hw_ HNE.out (by decide))
    have HO4:=zh (HO5.out.wrote hw_ HNO.out (by decide))
    clear h hR5 g5 hb_ hw_ e0 e4 e6 HW5 HB5 HN5 HX5 HO5 d3 d4 l0 l1 bw_ a0 a1 a2 a3 a4 a5 b0 b1 b2 b3 b4 b5
    generalize u 83=z83
    generalize u 84=z84
    generalize u 85=z85
    generalize u 86=z86
    generalize u 87=z87
    generalize u 88=z88
    generalize u 89=z89
    generalize u 90=z90
    go_wp2
    go_end0
    exact⟨rfl,by have h_:=HB4.out;rw [HL6.out] at h_;simpa [app_list,List.append_assoc] using h_,HW4.out⟩
set_option maxHeartbeats 8000000 in
theorem textP_any (x:Xp) (B:Nat→Prop) (w:World) (p:Option Addr) (c:Nat) (hB:∀i,B i→i < w.heap.size) (hX:XL B w p c x.ar) (hz:x.s.size≤1048576∧x.v≤32767) (hE:Env w) (hok:okX x=true) (hlen:(txX x).length≤140737488355328) :
 Calls Tryz.prog 49 #[xv x.k x.s x.v x.o p x.ar.length c x.q] w fun e w'=>e=.returned (.string ⟨(txX x).toArray⟩)∧Grew w w':=by
 obtain ⟨N,hN⟩:∃N,w.heap.size=N:=⟨_,rfl⟩
 rw [hN] at hB
 have HE:Hid (EnvB N w):=zh (hN ▸ EnvB.of hE)
 have HXL:=zh hX
 have HBN:=zh hB
 have HZ:=zh hz
 have HOK:=zh hok
 have HLN:=zh hlen
 have hcap:=hX.cap.1
 have hmax:=hX.cap.2.1
 have HNS:=zh hN
 clear hE hX hB hz hok hlen hN
 go_enter Tryz.func49,Tryz.ntmps49
 go_upto_region 2 with fail
 have hb1_:Blk w.heap.size [.int .i64 x.k,.string x.s,.int .i16 x.v,.int .i64 x.o,.slice p x.ar.length c,.int .i64 x.q] 35 (w.alloc (Obj.cells #[.int .i64 x.k,.string x.s,.int .i16 x.v,.int .i64 x.o,.slice p x.ar.length c,.int .i64 x.q] 35)):=Blk.new w _ _
 have hgV:Grew w (w.alloc (Obj.cells #[.int .i64 x.k,.string x.s,.int .i16 x.v,.int .i64 x.o,.slice p x.ar.length c,.int .i64 x.q] 35)):=(Grew.refl w).alloc _
 have hVs:(w.alloc (Obj.cells #[.int .i64 x.k,.string x.s,.int .i16 x.v,.int .i64 x.o,.slice p x.ar.length c,.int .i64 x.q] 35)).heap.size=w.heap.size+1:=by rw [alloc_sz]
 generalize (w.alloc (Obj.cells #[.int .i64 x.k,.string x.s,.int .i16 x.v,.int .i64 x.o,.slice p x.ar.length c,.int .i64 x.q] 35))=V at hb1_ hgV hVs ⊢
 have hS:w.heap.size < V.heap.size:=hb1_.lt
 have hN:=HNS.out
 generalize w.heap.size=S at hb1_ hS hN hVs ⊢
 have hbd:BldT 70 [] N V.heap.size [] (V.alloc (Obj.cells #[.pointer none,.slice none 0 0] 70)):=BldT.made N V (by omega) _ rfl
 have hgW:Grew V (V.alloc (Obj.cells #[.pointer none,.slice none 0 0] 70)):=(Grew.refl V).alloc _
 have hbS:=hb1_.grew hgW
 have hgT:=hgV.trans hgW
 have hne_:S≠V.heap.size:=by omega
 generalize (V.alloc (Obj.cells #[.pointer none,.slice none 0 0] 70))=V0 at hbd hgW hbS hgT ⊢
 have hNb:N≤V.heap.size:=by omega
 have hN0:N≤V0.heap.size:=Nat.le_trans hNb hgW.sz
 rw [hVs] at hbd hne_ hNb
 clear hVs
 generalize S+1=b at hbd hne_ hNb ⊢
 have HB0:=zh hbd
 have HN0:=zh hN0
 have HX0:=zh hbS
 have HW0:Hid (Wrote N b w V0):=zh (Wrote.of_grew hgT (Nat.le_of_eq HNS.out.symm))
 have HGT:=zh hgT
 have q0V0:V0.cell? ⟨S,0,none⟩=some (.int .i64 x.k):=HX0.out.cell 0
 have q1V0:V0.cell? ⟨S,1,none⟩=some (.string x.s):=HX0.out.cell 1
 have q2V0:V0.cell? ⟨S,2,none⟩=some (.int .i16 x.v):=HX0.out.cell 2
 have q3V0:V0.cell? ⟨S,3,none⟩=some (.int .i64 x.o):=HX0.out.cell 3
 have q4V0:V0.cell? ⟨S,4,none⟩=some (.slice p x.ar.length c):=HX0.out.cell 4
 have q5V0:V0.cell? ⟨S,5,none⟩=some (.int .i64 x.q):=HX0.out.cell 5
 clear hb1_ hgV hS hbd hgW hbS hgT hne_ hNb hN0 hN
 go_wp2_with (first
  | (go_at_call 101;(with_reducible refine(wx_any x N b [] B V0 p c HB0.out HN0.out HBN.out (HXL.out.below HBN.out HW0.out.bel) HZ.out (HE.out.wrote HW0.out) HOK.out (by have h_:=HLN.out;simpa using h_)).mono ?_);rintro e V1 ⟨rfl,hb_,hw_⟩;have HW1:=zh (HW0.out.trans hw_);have HB1:=zh hb_;have HN1:=zh (Nat.le_trans HN0.out hw_.bel.size);clear hb_ hw_)
  | (go_at_call 45;(with_reducible refine(str_any N b ([]++txX x) V1 HB1.out HN1.out).mono ?_);rintro e V2 ⟨rfl,hw_⟩;have HW2:=zh (HW1.out.bel.trans hw_);clear hw_))
 go_ret
 exact⟨rfl,by have h_:=HW2.out;rw [← HNS.out] at h_;exact h_⟩
set_option maxHeartbeats 8000000 in
theorem exprP_any (x:Xp) (B:Nat→Prop) (w:World) (p:Option Addr) (c:Nat) (hB:∀i,B i→i < w.heap.size) (hX:XL B w p c x.ar) (hz:x.s.size≤1048576∧x.v≤32767) (hE:Env w) (hn:nX x≤1048576) :
 Calls Tryz.prog 16 #[xv x.k x.s x.v x.o p x.ar.length c x.q] w fun e w'=>e=.returned (.string (if okX x=true then ⟨(txX x).toArray⟩ else ⟨#[]⟩))∧Grew w w':=by
 have hcap:=hX.cap.1
 have hmax:=hX.cap.2.1
 have HF:=zh (fun W (hW:Grew w W)=>formX_any x B W p c hz (hX.kept hW) (hE.grew hW))
 cases hok:okX x with
 | true =>
   rw [if_pos rfl]
   have hlen:(txX x).length≤140737488355328:=by have:=txX_len x hok (XL.fitX hz.2 hX);omega
   have HT:=zh (fun W (hW:Grew w W)=>textP_any x B W p c (fun i hi=>Nat.lt_of_lt_of_le (hB i hi) hW.sz) (hX.kept hW) hz (hE.grew hW) hok hlen)
   rw [hok] at HF
   clear hX hz hE hn hok hlen hB
   have HG1:=zh ((Grew.refl w).alloc (Obj.cells #[.int .i64 x.k,.string x.s,.int .i16 x.v,.int .i64 x.o,.slice p x.ar.length c,.int .i64 x.q] 35))
   go_enter Tryz.func16,Tryz.ntmps16
   go_wp2_with (first
    | (go_at_call 48;(with_reducible refine(HF.out _ HG1.out).mono ?_);rintro e w1 ⟨rfl,g1⟩;have HG:=zh (HG1.out.trans g1);have hbx:=(Blk.new w [.int .i64 x.k,.string x.s,.int .i16 x.v,.int .i64 x.o,.slice p x.ar.length c,.int .i64 x.q] 35).grew g1;have q0:w1.cell? ⟨w.heap.size,0,none⟩=some (.int .i64 x.k):=hbx.cell 0;have q1:w1.cell? ⟨w.heap.size,1,none⟩=some (.string x.s):=hbx.cell 1;have q2:w1.cell? ⟨w.heap.size,2,none⟩=some (.int .i16 x.v):=hbx.cell 2;have q3:w1.cell? ⟨w.heap.size,3,none⟩=some (.int .i64 x.o):=hbx.cell 3;have q4:w1.cell? ⟨w.heap.size,4,none⟩=some (.slice p x.ar.length c):=hbx.cell 4;have q5:w1.cell? ⟨w.heap.size,5,none⟩=some (.int .i64 x.q):=hbx.cell 5;clear g1 hbx)
    | (go_at_call 49;(with_reducible refine(HT.out _ HG.out).mono ?_);rintro e w2 ⟨rfl,g2⟩;have HG2:=zh (HG.out.trans g2);clear g2))
   go_ret
   exact⟨rfl,HG2.out⟩
 | false =>
   rw [if_neg (by simp)]
   rw [hok] at HF
   clear hX hz hE hn hok hB
   have HG1:=zh ((Grew.refl w).alloc (Obj.cells #[.int .i64 x.k,.string x.s,.int .i16 x.v,.int .i64 x.o,.slice p x.ar.length c,.int .i64 x.q] 35))
   go_enter Tryz.func16,Tryz.ntmps16
   go_wp2_with (go_at_call 48;(with_reducible refine(HF.out _ HG1.out).mono ?_);rintro e w1 ⟨rfl,g1⟩;have HG:=zh (HG1.out.trans g1);clear g1)
   go_ret
   exact⟨rfl,HG.out⟩
end Go.Proofs.YtcknpcbkofgdoaaGreatDoor
