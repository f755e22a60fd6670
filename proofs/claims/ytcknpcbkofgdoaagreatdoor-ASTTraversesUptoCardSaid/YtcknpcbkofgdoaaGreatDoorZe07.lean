/-
  LAYER 16 (ast), THE PROGRAM: line, option.
-/
import Derived.Test.YtcknpcbkofgdoaaGreatDoorZeShort
import Derived.Test.YtcknpcbkofgdoaaGreatDoorZe06
import Derived.Test.YtcknpcbkofgdoaaGreatDoorZe02
import Derived.Test.YtcknpcbkofgdoaaGreatDoorZe00
import Derived.Deep.LoopGhost
import Derived.Deep.Cut
import Derived.Lib.Repeat
import Derived.Shelf.Abstract
namespace Go.Proofs.YtcknpcbkofgdoaaGreatDoor
open Go Go.RowKit Go.IntWalk
set_option linter.unusedSimpArgs false
set_option linter.unusedVariables false
set_option maxRecDepth 8000
section
variable {dst:Option Tmp}{ty:TypeId}{pos:String}{after:Array Edge}{g:Option (Nat × Bool)}{a:Act}{w:World}{T:Value→World→Prop}
theorem rn_nil {x:Operand}{q:Addr}(hx:a.eval x=.pointer (some q)) (h:T (.pointer (some q)) w):Runs Tryz.prog ⟨dst,.nilCheck x,ty,pos,after,g⟩ a w T:=by
 refine Runs.value (v:=.pointer (some q)) (w':=w) ?_ h
 simp only [execOp,hx]
 go_simp
theorem rn_fld_72_0 {x:Operand}{S o:Nat}(hx:a.eval x=.pointer (some ⟨S,o,none⟩)) (h:T (.pointer (some ⟨S,o,none⟩)) w):Runs Tryz.prog ⟨dst,.fieldAddr 72 x 0,ty,pos,after,g⟩ a w T:=by
 refine Runs.value (v:=.pointer (some ⟨S,o,none⟩)) (w':=w) ?_ h
 simp only [execOp,hx]
 go_simp
theorem rn_fld_72_1 {x:Operand}{S o:Nat}(hx:a.eval x=.pointer (some ⟨S,o,none⟩)) (h:T (.pointer (some ⟨S,o+2,none⟩)) w):Runs Tryz.prog ⟨dst,.fieldAddr 72 x 1,ty,pos,after,g⟩ a w T:=by
 refine Runs.value (v:=.pointer (some ⟨S,o+2,none⟩)) (w':=w) ?_ h
 simp only [execOp,hx]
 go_simp
end
theorem en_rp:Enters Tryz.prog 94:=fun args w=>by go_simp
theorem en_ln:Enters Tryz.prog 39:=fun args w=>by go_simp
def sp (d:Nat):List UInt8:=List.replicate (4 * d) 32
theorem sp_len (d:Nat):(sp d).length=4 * d:=by rw [sp,List.length_replicate]
theorem sp_in4 (d:Nat):in4 (sp d)=sp (d+1):=by
 rw [in4,sp,sp,show 4 * (d+1)=4 * d+4 by omega,← List.replicate_append_replicate];rfl
theorem rep_sp:∀d:Nat,Lib.repeatL [32,32,32,32] d=sp d
 | 0=>rfl
 | d+1=>by
   rw [Lib.repeatL,rep_sp d,sp,sp,show 4 * (d+1)=4+4 * d by omega,← List.replicate_append_replicate];rfl
theorem repeat_sp (d:Nat) (w:World) (hd:d≤1000000):Calls Tryz.prog 94 #[.string ⟨#[32,32,32,32]⟩,.int .i64 (d:Int)] w fun e w'=>e=.returned (.string ⟨(sp d).toArray⟩)∧Grew w w':=by
 have h:=Tryz.strings_Repeat ⟨#[32,32,32,32]⟩ d w (by omega) (by show 4 * d≤_;omega)
 refine h.mono fun e w' hh=>⟨?_,hh.2⟩
 rw [hh.1,← rep_sp d]
def flat (L:List ByteArray):List UInt8:=L.flatMap fun s=>s.data.toList
theorem flat_snoc {L:List ByteArray}{j:Nat}{x:ByteArray}(h:L.take (j+1)=L.take j++[x]):flat (L.take (j+1))=flat (L.take j)++x.data.toList:=by
 rw [h,flat,flat,List.flatMap_append];simp
theorem flat_take (L:List ByteArray) (n:Nat):(flat (L.take n)).length≤(flat L).length:=by
 have h:flat L=flat (L.take n)++flat (L.drop n):=by
  conv=>lhs;rw [← List.take_append_drop n L]
  rw [flat,List.flatMap_append];rfl
 rw [h,List.length_append];omega
theorem line_fin {xs:List UInt8}{d:Nat}{L:List ByteArray}:((xs++sp d)++flat L)++[10]=xs++(sp d++(flat L++[10])):=by simp
set_option maxHeartbeats 8000000 in
theorem line_any (N b d:Nat) (xs:List UInt8) (L:List ByteArray) (g:Nat) (w:World) (h:BldT 72 [.int .i64 (d:Int)] N b xs w) (hN:N≤w.heap.size) (hd:d≤1000000) (hr:Blk g (L.map Value.string) 9 w) (hg:g≠b) (hl:xs.length+(sp d++(flat L++[10])).length≤140737488355328) (hL:L.length≤100) :
 Calls Tryz.prog 39 #[PtrTo b,.slice (some ⟨g,0,none⟩) L.length L.length] w fun e w'=>e=.returned (.tuple #[])∧BldT 72 [.int .i64 (d:Int)] N b (xs++(sp d++(flat L++[10]))) w'∧Wrote N b w w':=by
 have HB:=zh h
 have HR:=zh hr
 have HG:=zh hg
 have HLN:Hid (xs.length+4 * d+(flat L).length+1≤140737488355328):=zh (by simp only [List.length_append,List.length_cons,List.length_nil,sp_len] at hl;omega)
 have HNw:=zh hN
 have dd:Atv ⟨b,2,none⟩ (.int .i64 (d:Int)) w.drew:=(h.grew (Grew.refl w).drw).rest (j:=0) rfl
 clear h hr hg hl hN
 go_enter Tryz.func39,Tryz.ntmps39
 go_upto_region 0 with fail
 refine wp_grew_tail 8 [some 6,some 7,some 8,some 9,some 10,some 11,some 12,some 13] (Zfc (Zfb (Ztd (Zfe (Zfa []))))) [fun v _=>v=.pointer (some ⟨b,0,none⟩),fun v _=>v=.pointer (some ⟨b,0,none⟩),fun v _=>v=.pointer (some ⟨b,0,none⟩),fun v _=>v=.pointer (some ⟨b,0,none⟩),fun v _=>v=.pointer (some ⟨b,0,none⟩),fun v _=>v=.pointer (some ⟨b,2,none⟩),fun v _=>v=.int .i64 ((d:Int)),fun v _=>v=.string ⟨(sp d).toArray⟩] (by kernel_rfl) (by kernel_rfl) (by kernel_rfl) rfl ?_ ⟨?_,?_,?_,?_,?_,?_,?_,?_,trivial⟩ ?_
 ·exact⟨Zi,Zi,Zi,Zi,Zi,Zi,Zi,Zi,trivial⟩
 ·intro u w hR hd;exact runs_mv (ev rfl) Zr
 ·intro u w hR hd;exact rn_nil (ev (hd.1 rfl)) Zr
 ·intro u w hR hd;exact rn_fld_72_0 (ev (hd.1 rfl)) Zr
 ·intro u w hR hd;exact runs_mv (ev rfl) Zr
 ·intro u w hR hd;exact rn_nil (ev (hd.1 rfl)) Zr
 ·intro u w hR hd;exact rn_fld_72_1 (ev (hd.1 rfl)) Zr
 ·intro u w hR hd;exact rn_ld_3 (ev (hd.1 rfl)) (dd.kept hR) Zr
 ·intro u w hR hd;exact runs_c2 en_rp rfl (ev (hd.1 rfl)) (callp (fun _ e=>e) (repeat_sp d _ (by omega)))
 ·intro u w5 hR h
  have g5:Grew w w5:=(Grew.refl w).drw.trans hR
  have HB5:=zh (HB.out.grew g5)
  have HN5:=zh (Nat.le_trans HNw.out g5.sz)
  have HR5:=zh (HR.out.grew g5)
  have HW5:=zh (Wrote.of_grew (N:=N) (b:=b) g5 HNw.out)
  have e0:u 8=PtrTo b:=h 2 (by decide)
  have e1:u 13=.string ⟨(sp d).toArray⟩:=h 7 (by decide)
  refine wpAny_one (i:=8) (some 14) (by kernel_rfl) rfl rfl rfl (runs_c2 en_ws (ev e0) (ev e1) ((wstr_any btP N b xs (sp d) w5 HB5.out (by rw [sp_len];have:=HLN.out;omega) HN5.out).mono ?_))
  rintro e_ w6 ⟨⟨v_,rfl⟩,hb_,hw_⟩
  refine⟨_,rfl,?_⟩
  refine wpAny_done (by kernel_rfl) ?_ _
  simp only [zz1,zz2,zz3,Act.put,mixA,mixL,zz9,zz0,zz4,zz5,zz6]
  try simp only [Nat.zero_add,Nat.reduceAdd]
  generalize u 6=z6
  generalize u 7=z7
  generalize u 8=z8
  generalize u 9=z9
  generalize u 10=z10
  generalize u 11=z11
  generalize u 12=z12
  generalize u 13=z13
  have HB6:=zh hb_
  have HW6:=zh (HW5.out.trans hw_)
  have HN6:=zh (Nat.le_trans HN5.out hw_.bel.size)
  have HR6:=zh (HR5.out.wrote hw_ HG.out (by decide))
  clear e0 e1 hb_ hw_ h hR dd g5 HB5 HN5 HR5 HW5
  go_wp2
  go_loopg [5,17] L.length (fun gg sv_ iv wr=>∃(j:Nat),iv=.int .i64 (j:Int)∧j≤L.length∧gg=L.length - j∧Hid (BldT 72 [.int .i64 (d:Int)] N b ((xs++sp d)++flat (L.take j)) wr)∧Hid (Wrote N b w wr)∧Hid (N≤wr.heap.size)∧Hid (Blk g (L.map Value.string) 9 wr))
  case atStart=>exact⟨0,rfl,Nat.zero_le _,rfl,zh (by rw [List.take_zero];simpa [flat] using HB6.out),HW6,HN6,HR6⟩
  case round =>
   obtain ⟨j,rfl,hj,rfl,HBj,HWj,HNj,HRj⟩:=hrel
   by_cases hlt:j < L.length
   ·have HTK:=zh (List.take_succ_eq_append_getElem hlt)
    have hc:wr.cell? ⟨g,j,none⟩=some (.string L[j]):=by
     rw [HRj.out.cell j,List.getElem?_map,List.getElem?_eq_getElem hlt];rfl
    have HLT:=zh (Nat.succ_le_of_lt hlt)
    have hle:=flat_take L (j+1)
    rw [flat_snoc HTK.out,List.length_append] at hle
    have HLE:=zh hle
    generalize L[j]=s at hc HTK HLE
    clear hle
    go_wp2_with (go_at_call 93;(with_reducible refine(wstrS_any btP N b _ s wr HBj.out (by have h1:=HLE.out;have h2:=HLN.out;simp only [List.length_append,sp_len];omega) HNj.out).mono ?_);rintro e w7 ⟨⟨v_,rfl⟩,hb_,hw_⟩;have HB7:=zh hb_;have HW7:=zh (HWj.out.trans hw_);have HN7:=zh (Nat.le_trans HNj.out hw_.bel.size);have HR7:=zh (HRj.out.wrote hw_ HG.out (by decide));clear hb_ hw_)
    go_roundg (L.length - (j+1))
    case measure=>have:=HLT.out;omega
    case rel=>exact⟨j+1,by go_num,HLT.out,rfl,zh (by rw [flat_snoc HTK.out,← List.append_assoc];exact HB7.out),HW7,HN7,HR7⟩
   ·obtain rfl:j=L.length:=by omega
    rw [List.take_length] at HBj
    go_wp2_with (go_at_call 93;(with_reducible refine(wstr_any btP N b _ [10] wr HBj.out (by have h2:=HLN.out;simp only [List.length_append,sp_len,List.length_cons,List.length_nil];omega) HNj.out).mono ?_);rintro e w7 ⟨⟨v_,rfl⟩,hb_,hw_⟩;have HB7:=zh hb_;have HW7:=zh (HWj.out.trans hw_);clear hb_ hw_)
    go_end0
    exact⟨rfl,by have h_:=HB7.out;rwa [line_fin] at h_,HW7.out⟩
theorem en_op:Enters Tryz.prog 43:=fun args w=>by go_simp
set_option maxHeartbeats 4000000 in
theorem optP_any (k:ByteArray) (hk:k.size≤100) (n:Int) (hn:0≤n∧n≤32767) (w:World) (hE:Env w) :
 Calls Tryz.prog 43 #[.string k,.int .i64 n] w fun e w'=>e=.returned (.string ⟨(optT k.data.toList n).toArray⟩)∧Grew w w':=by
 by_cases h0:n=0
 ·subst h0
  have ho:optT k.data.toList 0=[]:=by rw [optT,if_pos rfl]
  rw [ho]
  clear hE hn ho
  go_enter Tryz.func43,Tryz.ntmps43
  go_wp2
  go_ret
  exact⟨rfl,Grew.refl _⟩
 ·have ho:(⟨(optT k.data.toList n).toArray⟩:ByteArray)=(⟨#[32]⟩:ByteArray)++k++⟨#[32]⟩++⟨(numZ n).toArray⟩:=by
   rw [optT,if_neg h0,lit_cat [32] k,str_append,str_append]
  have hl:=numZ_len (z:=n) (by omega)
  have hz:(⟨(numZ n).toArray⟩:ByteArray).size≤6:=by show (numZ n).toArray.size≤6;rw [List.size_toArray];exact hl
  have HI:=zh (itoa_any n (by omega) w hE)
  have hne:(n==0)=false:=beq_eq_false_iff_ne.2 h0
  rw [ho]
  generalize (⟨(numZ n).toArray⟩:ByteArray)=Z at hz HI ⊢
  clear hE ho hl h0
  go_enter Tryz.func43,Tryz.ntmps43
  go_wp2_with (go_at_call 40;(with_reducible refine(HI.out).mono ?_);rintro e w1 ⟨rfl,g1⟩;have HG:=zh g1;clear g1)
  go_ret
  exact⟨rfl,HG.out⟩
end Go.Proofs.YtcknpcbkofgdoaaGreatDoor
