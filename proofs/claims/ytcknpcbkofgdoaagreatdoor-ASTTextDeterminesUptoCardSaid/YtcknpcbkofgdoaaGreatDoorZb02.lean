/-
  THE REFERENCE OF LAYER 16: StmtsOK.
  THE REFERENCE OF LAYER 16: TaskOK.
  WHAT IS WELL-FORMED: programs (layer 16).
  CANONICAL TEXTS: statements (layer 16).
-/
import Derived.Test.YtcknpcbkofgdoaaGreatDoorZbShort
import Derived.Test.YtcknpcbkofgdoaaGreatDoorZb01
import Derived.Test.YtcknpcbkofgdoaaGreatDoorZb00
import Derived.Deep.LoopGhost
import Derived.Deep.Cut
namespace Go.Proofs.YtcknpcbkofgdoaaGreatDoor
open Go Go.RowKit Go.IntWalk
set_option linter.unusedSimpArgs false
set_option linter.unusedVariables false
set_option maxRecDepth 8000
section
variable {dst:Option Tmp}{ty:TypeId}{pos:String}{after:Array Edge}{g:Option (Nat × Bool)}{a:Act}{w:World}{T:Value→World→Prop}
theorem rn_fld_49_3 {x:Operand}{S o:Nat}(hx:a.eval x=.pointer (some ⟨S,o,none⟩)) (h:T (.pointer (some ⟨S,o+3,none⟩)) w):Runs Tryz.prog ⟨dst,.fieldAddr 49 x 3,ty,pos,after,g⟩ a w T:=by
 refine Runs.value (v:=.pointer (some ⟨S,o+3,none⟩)) (w':=w) ?_ h
 simp only [execOp,hx]
 go_simp
theorem rn_fld_167_4 {x:Operand}{S o:Nat}(hx:a.eval x=.pointer (some ⟨S,o,none⟩)) (h:T (.pointer (some ⟨S,o+4,none⟩)) w):Runs Tryz.prog ⟨dst,.fieldAddr 167 x 4,ty,pos,after,g⟩ a w T:=by
 refine Runs.value (v:=.pointer (some ⟨S,o+4,none⟩)) (w':=w) ?_ h
 simp only [execOp,hx]
 go_simp
theorem rn_fld_167_0 {x:Operand}{S o:Nat}(hx:a.eval x=.pointer (some ⟨S,o,none⟩)) (h:T (.pointer (some ⟨S,o,none⟩)) w):Runs Tryz.prog ⟨dst,.fieldAddr 167 x 0,ty,pos,after,g⟩ a w T:=by
 refine Runs.value (v:=.pointer (some ⟨S,o,none⟩)) (w':=w) ?_ h
 simp only [execOp,hx]
 go_simp
theorem rn_ld_4 {x:Operand}{q:Addr}{v:Value}(hx:a.eval x=.pointer (some q)) (hc:w.cell? q=some v) (h:T v w):Runs Tryz.prog ⟨dst,.load 4 x,ty,pos,after,g⟩ a w T:=by
 refine Runs.value (v:=v) (w':=w) ?_ h
 simp only [execOp,hx]
 go_simp
theorem rn_fld_49_1 {x:Operand}{S o:Nat}(hx:a.eval x=.pointer (some ⟨S,o,none⟩)) (h:T (.pointer (some ⟨S,o+1,none⟩)) w):Runs Tryz.prog ⟨dst,.fieldAddr 49 x 1,ty,pos,after,g⟩ a w T:=by
 refine Runs.value (v:=.pointer (some ⟨S,o+1,none⟩)) (w':=w) ?_ h
 simp only [execOp,hx]
 go_simp
theorem rn_fld_49_2 {x:Operand}{S o:Nat}(hx:a.eval x=.pointer (some ⟨S,o,none⟩)) (h:T (.pointer (some ⟨S,o+2,none⟩)) w):Runs Tryz.prog ⟨dst,.fieldAddr 49 x 2,ty,pos,after,g⟩ a w T:=by
 refine Runs.value (v:=.pointer (some ⟨S,o+2,none⟩)) (w':=w) ?_ h
 simp only [execOp,hx]
 go_simp
theorem rn_fld_167_1 {x:Operand}{S o:Nat}(hx:a.eval x=.pointer (some ⟨S,o,none⟩)) (h:T (.pointer (some ⟨S,o+1,none⟩)) w):Runs Tryz.prog ⟨dst,.fieldAddr 167 x 1,ty,pos,after,g⟩ a w T:=by
 refine Runs.value (v:=.pointer (some ⟨S,o+1,none⟩)) (w':=w) ?_ h
 simp only [execOp,hx]
 go_simp
theorem rn_fld_167_2 {x:Operand}{S o:Nat}(hx:a.eval x=.pointer (some ⟨S,o,none⟩)) (h:T (.pointer (some ⟨S,o+2,none⟩)) w):Runs Tryz.prog ⟨dst,.fieldAddr 167 x 2,ty,pos,after,g⟩ a w T:=by
 refine Runs.value (v:=.pointer (some ⟨S,o+2,none⟩)) (w':=w) ?_ h
 simp only [execOp,hx]
 go_simp
theorem rn_gtr_3 {o1 o2:Operand}{b c:Int}(hx:a.eval o1=.int .i64 b) (hy:a.eval o2=.int .i64 c) (h:T (.bool (decide (c < b))) w):Runs Tryz.prog ⟨dst,.binOp .gtr 3 o1 o2 3,ty,pos,after,g⟩ a w T:=by
 refine Runs.value (v:=.bool (decide (c < b))) (w':=w) ?_ h
 simp only [execOp,hx,hy]
 go_simp
theorem rn_fld_167_3 {x:Operand}{S o:Nat}(hx:a.eval x=.pointer (some ⟨S,o,none⟩)) (h:T (.pointer (some ⟨S,o+3,none⟩)) w):Runs Tryz.prog ⟨dst,.fieldAddr 167 x 3,ty,pos,after,g⟩ a w T:=by
 refine Runs.value (v:=.pointer (some ⟨S,o+3,none⟩)) (w':=w) ?_ h
 simp only [execOp,hx]
 go_simp
end
theorem enters_id:Enters Tryz.prog 62:=fun args w=>by go_simp
theorem enters_nu:Enters Tryz.prog 63:=fun args w=>by go_simp
set_option maxHeartbeats 8000000 in
theorem stok_any:∀(n:Nat) (l:List Sm),nSs l < n→∀(B:Nat→Prop) (w:World) (p:Option Addr) (c:Nat),SL B w p c l →
 Calls Tryz.prog 116 #[.slice p l.length c] w fun e w'=>e=.returned (.bool (okSs l))∧Grew w w':=by
 intro n
 induction n with
 | zero=>intro _ h;exact absurd h (Nat.not_lt_zero _)
 | succ n ih =>
 intro l hln B w p c hx
 have HX:Hid (SL B w p c l):=Lib.hid hx
 have hcap:l.length≤c:=hx.cap.1
 have hmax:=hx.cap.2.1
 obtain ⟨b,hb⟩:∃b,okSs l=b:=⟨_,rfl⟩
 have HOK:=Lib.hid hb
 have HFALSE:=Lib.hid (fun(x:Sm) (hm:x ∈ l) (h:okS x=false)=>(show b=false from hb ▸ okSs_no hm h))
 rw [hb]
 clear hx hb
 go_enter Tryz.func116,Tryz.ntmps116
 go_wp2
 go_loopg [4,5,6,8,11] l.length (fun gg bv hv ov b8 iv wr=>∃(j:Nat),iv=.int .i64 (j:Int)∧j≤l.length∧gg=l.length - j∧Hid (okSs (l.take j)=true)∧Hid (Grew w wr))
 case atStart=>exact⟨0,rfl,Nat.zero_le _,rfl,Lib.hid rfl,Lib.hid (Grew.refl _)⟩
 case round =>
  obtain ⟨j,rfl,hj,rfl,HI,HG⟩:=hrel
  by_cases hlt:j < l.length
  ·
   obtain ⟨ba,oa,paa,caa,pba,cba,pea,cea,rfl,hba,haa,hboa,hela,hca⟩:=HX.out.get j hlt
   have hma:=List.getElem_mem hlt
   have hna:=nSs_mem hma
   have hta:=List.take_succ_eq_append_getElem hlt
   have HLa:=Lib.hid (Nat.succ_le_of_lt hlt)
   generalize l[j]=xa at *
   obtain ⟨ka,sa,na,ra,ya,ea,qa⟩:=xa
   replace hba:sa.size≤1048576:=hba.2
   have HTa:=Lib.hid hta
   have HAa:Hid (XL B w paa caa ra):=Lib.hid haa
   have HYa:Hid (SL B w pba cba ya):=Lib.hid hboa
   have HEa:Hid (SL B w pea cea ea):=Lib.hid hela
   have hcapa:ra.length≤caa∧ya.length≤cba∧ea.length≤cea:=⟨haa.cap.1,hboa.cap.1,hela.cap.1⟩
   have hmaxa:=And.intro haa.cap.2.1 (And.intro hboa.cap.2.1 hela.cap.2.1)
   replace hca:∀i_ u_,(sdc ⟨ka,sa,na,paa,ra.length,caa,pba,ya.length,cba,pea,ea.length,cea,qa⟩)[i_]?=some u_→wr.cell? ⟨ba,oa+j * 7+i_,none⟩=some u_:=fun i_ u_ h_=>Atv.kept (hca i_ u_ h_) HG.out
   have ca0:wr.cell? ⟨ba,oa+j * 7,none⟩=some (.int .i64 ka):=by simpa using hca 0 _ rfl
   have ca1:wr.cell? ⟨ba,oa+j * 7+1,none⟩=some (.string sa):=hca 1 _ rfl
   have ca2:wr.cell? ⟨ba,oa+j * 7+2,none⟩=some (.int .i64 na):=hca 2 _ rfl
   have ca3:wr.cell? ⟨ba,oa+j * 7+3,none⟩=some (.slice paa ra.length caa):=hca 3 _ rfl
   have ca4:wr.cell? ⟨ba,oa+j * 7+4,none⟩=some (.slice pba ya.length cba):=hca 4 _ rfl
   have ca5:wr.cell? ⟨ba,oa+j * 7+5,none⟩=some (.slice pea ea.length cea):=hca 5 _ rfl
   have ca6:wr.cell? ⟨ba,oa+j * 7+6,none⟩=some (.int .i64 qa):=hca 6 _ rfl
   clear hca haa hboa hela hta
   have hns:nS ⟨ka,sa,na,ra,ya,ea,qa⟩=nSs ya+nSs ea+1:=rfl
   have hoks:okS ⟨ka,sa,na,ra,ya,ea,qa⟩=(hdS ka sa na ra.length ya.length ea.length&&(okXs ra&&(okSs ya&&okSs ea))):=by rw [okS]
   have HF:=Lib.hid (fun(h:(hdS ka sa na ra.length ya.length ea.length&&(okXs ra&&(okSs ya&&okSs ea)))=false)=>(show b=false from HFALSE.out _ hma (hoks.trans h)))
   have HOKS:=Lib.hid hoks
   obtain ⟨m1,hm1⟩:∃m,okSs ya=m:=⟨_,rfl⟩
   obtain ⟨m2,hm2⟩:∃m,okSs ea=m:=⟨_,rfl⟩
   have HIY:=Lib.hid (fun W (hW:Grew w W)=>(show Calls Tryz.prog 116 #[.slice pba ya.length cba] W fun e w'=>e=.returned (.bool m1)∧Grew W w' from hm1 ▸ ih ya (by omega) B W pba cba (HYa.out.kept hW)))
   have HIE:=Lib.hid (fun W (hW:Grew w W)=>(show Calls Tryz.prog 116 #[.slice pea ea.length cea] W fun e w'=>e=.returned (.bool m2)∧Grew W w' from hm2 ▸ ih ea (by omega) B W pea cea (HEa.out.kept hW)))
   have HID:=Lib.hid (fun W=>ident_any sa hba W)
   have HNU:=Lib.hid (fun W=>(number_any na 0 W).mono fun e w' h=>(⟨h.1,h.2 ▸ Grew.refl _⟩:e=.returned (.bool (num1 na 0))∧Grew W w'))
   rw [hm1,hm2] at HF HOKS
   clear hma hna hns hoks hm1 hm2 HFALSE
   go_upto_region 5 with (go_at_call 152;(with_reducible refine(shape_any _ _).mono ?_);rintro e w1 ⟨rfl,g1⟩;have HG1:=Lib.hid g1;clear g1)
   have hb1:Blk wr.heap.size [.int .i64 ka,.string sa,.int .i64 na,.slice paa ra.length caa,.slice pba ya.length cba,.slice pea ea.length cea,.int .i64 qa] 49 w1:=(Blk.new wr _ _).grew HG1.out
   have hb2:Blk w1.heap.size [.bool (shN ka),.bool (shM ka),.bool (shB ka),.bool (shE ka),.int .i64 (shA ka)] 167 (w1.alloc (Obj.cells #[.bool (shN ka),.bool (shM ka),.bool (shB ka),.bool (shE ka),.int .i64 (shA ka)] 167)):=Blk.new w1 _ _
   have hb3:=hb1.grew ((Grew.refl w1).alloc (Obj.cells #[.bool (shN ka),.bool (shM ka),.bool (shB ka),.bool (shE ka),.int .i64 (shA ka)] 167))
   have hgV:Grew w (w1.alloc (Obj.cells #[.bool (shN ka),.bool (shM ka),.bool (shB ka),.bool (shE ka),.int .i64 (shA ka)] 167)):=((HG.out.alloc _).trans HG1.out).alloc _
   generalize (w1.alloc (Obj.cells #[.bool (shN ka),.bool (shM ka),.bool (shB ka),.bool (shE ka),.int .i64 (shA ka)] 167))=V at hb2 hb3 hgV ⊢
   generalize wr.heap.size=S1 at hb3 ⊢
   generalize w1.heap.size=S2 at hb2 ⊢
   have HB:=Lib.hid hb3
   have HGV:=Lib.hid hgV
   have d0:Atv ⟨S1,0,none⟩ (.int .i64 ka) V:=hb3.atv 0 rfl
   have d1:Atv ⟨S1,1,none⟩ (.string sa) V:=hb3.atv 1 rfl
   have d2:Atv ⟨S1,2,none⟩ (.int .i64 na) V:=hb3.atv 2 rfl
   have d3:Atv ⟨S1,3,none⟩ (.slice paa ra.length caa) V:=hb3.atv 3 rfl
   have d4:Atv ⟨S1,4,none⟩ (.slice pba ya.length cba) V:=hb3.atv 4 rfl
   have d5:Atv ⟨S1,5,none⟩ (.slice pea ea.length cea) V:=hb3.atv 5 rfl
   have e0:Atv ⟨S2,0,none⟩ (.bool (shN ka)) V:=hb2.atv 0 rfl
   have e1:Atv ⟨S2,1,none⟩ (.bool (shM ka)) V:=hb2.atv 1 rfl
   have e2:Atv ⟨S2,2,none⟩ (.bool (shB ka)) V:=hb2.atv 2 rfl
   have e3:Atv ⟨S2,3,none⟩ (.bool (shE ka)) V:=hb2.atv 3 rfl
   have e4:Atv ⟨S2,4,none⟩ (.int .i64 (shA ka)) V:=hb2.atv 4 rfl
   clear hb1 hb2 hb3 hgV HG1 ca0 ca1 ca2 ca3 ca4 ca5 ca6 HG
   refine wp_postsL [some 21,some 22,some 23,some 24,some 25,some 26,some 27,some 28,some 29,some 30,some 31,some 32,some 33,some 34,some 35,some 36,some 37,some 38,some 39,some 40,some 41,some 42,some 43,some 44,some 45,some 46,some 47,some 48,some 49,some 50,some 51,some 52,some 53,some 54,some 55,some 56,some 57,some 58,some 59,some 60,some 61,some 62,some 63,some 64,some 65,some 66,some 67,some 68,some 69,some 70,some 71,some 72,some 73,some 74,some 75,some 76,some 77,some 78,some 79,some 80,some 81,some 82,some 83,some 84,some 85,some 86,some 87,some 88] [Zf,Zf,Zf,Zf,Zf,Zf,Zf,Zf,Zf,Zf,Zf,Zf,Zf,Zf,Zf,Zf,Zf,Zf,Zf,Zf,Zf,Zt,Zt,Zt,Zt,Zt,Zt,Zt,Zt,Zt,Zt,Zt,Zt,Zt,Zt,Zt,Zt,Zt,Zt,Zt,Zt,Zt,Zt,Zt,Zt,Zt,Zt,Zt,Zt,Zt,Zt,Zt,Zt,Zt,Zt,Zt,Zt,Zt,Zt,Zt,Zt,Zt,Zt,Zt,Zt,Zt,Zt,Zt,Zt,Zt,Zt,Zt,Zt,Zt,Zt,Zt,Zt,Zt,Zt,Zt,Zt,Zt,Zt,Zt,Zt,Zt,Zt,Zt,Zt,Zf,Zf,Zf,Zf,Zf,Zf,Zf,Zf,Zf,Zf,Zf,Zf,Zf,Zf,Zf,Zf,Zf,Zf,Zf,Zf,Zf,Zf] [fun v _=>v=.bool (shO ka),fun v _=>v=.bool (!(shO ka)),fun v _=>v=.bool (!(shO ka)),fun v _=>(((!(shO ka))=false)→v=.pointer (some ⟨S1,3,none⟩))∧(¬ ((!(shO ka))=false)→v=undef),fun v _=>(((!(shO ka))=false)→v=.slice paa (ra.length) (caa))∧(¬ ((!(shO ka))=false)→v=undef),fun v _=>(((!(shO ka))=false)→v=.int .i64 (((ra.length:Nat):Int)))∧(¬ ((!(shO ka))=false)→v=undef),fun v _=>(((!(shO ka))=false)→v=.pointer (some ⟨S2,4,none⟩))∧(¬ ((!(shO ka))=false)→v=undef),fun v _=>(((!(shO ka))=false)→v=.int .i64 (shA ka))∧(¬ ((!(shO ka))=false)→v=undef),fun v _=>(((!(shO ka))=false)→v=.bool ((((ra.length:Nat):Int)) != (shA ka)))∧(¬ ((!(shO ka))=false)→v=undef),fun v _=>v=.bool ((!(shO ka))||((((ra.length:Nat):Int)) != (shA ka))),fun v _=>v=.bool ((!(shO ka))||((((ra.length:Nat):Int)) != (shA ka))),fun v _=>((((!(shO ka))||((((ra.length:Nat):Int)) != (shA ka)))=false)→v=.pointer (some ⟨S2,0,none⟩))∧(¬ (((!(shO ka))||((((ra.length:Nat):Int)) != (shA ka)))=false)→v=undef),fun v _=>((((!(shO ka))||((((ra.length:Nat):Int)) != (shA ka)))=false)→v=.bool (shN ka))∧(¬ (((!(shO ka))||((((ra.length:Nat):Int)) != (shA ka)))=false)→v=undef),fun v _=>((((!(shO ka))||((((ra.length:Nat):Int)) != (shA ka)))=false)→v=.bool (shN ka))∧(¬ (((!(shO ka))||((((ra.length:Nat):Int)) != (shA ka)))=false)→v=undef),fun v _=>(((((!(shO ka))||((((ra.length:Nat):Int)) != (shA ka)))=false)∧((shN ka)=true))→v=.pointer (some ⟨S1,1,none⟩))∧(¬ ((((!(shO ka))||((((ra.length:Nat):Int)) != (shA ka)))=false)∧((shN ka)=true))→v=undef),fun v _=>(((((!(shO ka))||((((ra.length:Nat):Int)) != (shA ka)))=false)∧((shN ka)=true))→v=.string sa)∧(¬ ((((!(shO ka))||((((ra.length:Nat):Int)) != (shA ka)))=false)∧((shN ka)=true))→v=undef),fun v _=>(((((!(shO ka))||((((ra.length:Nat):Int)) != (shA ka)))=false)∧((shN ka)=true))→v=.bool (idn sa))∧(¬ ((((!(shO ka))||((((ra.length:Nat):Int)) != (shA ka)))=false)∧((shN ka)=true))→v=undef),fun v _=>(((((!(shO ka))||((((ra.length:Nat):Int)) != (shA ka)))=false)∧((shN ka)=true))→v=.bool (!(idn sa)))∧(¬ ((((!(shO ka))||((((ra.length:Nat):Int)) != (shA ka)))=false)∧((shN ka)=true))→v=undef),fun v _=>((((!(shO ka))||((((ra.length:Nat):Int)) != (shA ka)))=false)→v=.bool ((shN ka)&&(!(idn sa))))∧(¬ (((!(shO ka))||((((ra.length:Nat):Int)) != (shA ka)))=false)→v=undef),fun v _=>v=.bool (((!(shO ka))||((((ra.length:Nat):Int)) != (shA ka)))||((shN ka)&&(!(idn sa)))),fun v _=>v=.bool (((!(shO ka))||((((ra.length:Nat):Int)) != (shA ka)))||((shN ka)&&(!(idn sa)))),fun v _=>(((((!(shO ka))||((((ra.length:Nat):Int)) != (shA ka)))||((shN ka)&&(!(idn sa))))=false)→v=.pointer (some ⟨S2,0,none⟩))∧(¬ ((((!(shO ka))||((((ra.length:Nat):Int)) != (shA ka)))||((shN ka)&&(!(idn sa))))=false)→v=undef),fun v _=>(((((!(shO ka))||((((ra.length:Nat):Int)) != (shA ka)))||((shN ka)&&(!(idn sa))))=false)→v=.bool (shN ka))∧(¬ ((((!(shO ka))||((((ra.length:Nat):Int)) != (shA ka)))||((shN ka)&&(!(idn sa))))=false)→v=undef),fun v _=>(((((!(shO ka))||((((ra.length:Nat):Int)) != (shA ka)))||((shN ka)&&(!(idn sa))))=false)→v=.bool (!(shN ka)))∧(¬ ((((!(shO ka))||((((ra.length:Nat):Int)) != (shA ka)))||((shN ka)&&(!(idn sa))))=false)→v=undef),fun v _=>(((((!(shO ka))||((((ra.length:Nat):Int)) != (shA ka)))||((shN ka)&&(!(idn sa))))=false)→v=.bool (!(shN ka)))∧(¬ ((((!(shO ka))||((((ra.length:Nat):Int)) != (shA ka)))||((shN ka)&&(!(idn sa))))=false)→v=undef),fun v _=>((((((!(shO ka))||((((ra.length:Nat):Int)) != (shA ka)))||((shN ka)&&(!(idn sa))))=false)∧((!(shN ka))=true))→v=.pointer (some ⟨S1,1,none⟩))∧(¬ (((((!(shO ka))||((((ra.length:Nat):Int)) != (shA ka)))||((shN ka)&&(!(idn sa))))=false)∧((!(shN ka))=true))→v=undef),fun v _=>((((((!(shO ka))||((((ra.length:Nat):Int)) != (shA ka)))||((shN ka)&&(!(idn sa))))=false)∧((!(shN ka))=true))→v=.string sa)∧(¬ (((((!(shO ka))||((((ra.length:Nat):Int)) != (shA ka)))||((shN ka)&&(!(idn sa))))=false)∧((!(shN ka))=true))→v=undef),fun v _=>((((((!(shO ka))||((((ra.length:Nat):Int)) != (shA ka)))||((shN ka)&&(!(idn sa))))=false)∧((!(shN ka))=true))→v=.bool (!decide ((sa)=((⟨([]).toArray⟩:ByteArray)))))∧(¬ (((((!(shO ka))||((((ra.length:Nat):Int)) != (shA ka)))||((shN ka)&&(!(idn sa))))=false)∧((!(shN ka))=true))→v=undef),fun v _=>(((((!(shO ka))||((((ra.length:Nat):Int)) != (shA ka)))||((shN ka)&&(!(idn sa))))=false)→v=.bool ((!(shN ka))&&(!decide ((sa)=((⟨([]).toArray⟩:ByteArray))))))∧(¬ ((((!(shO ka))||((((ra.length:Nat):Int)) != (shA ka)))||((shN ka)&&(!(idn sa))))=false)→v=undef),fun v _=>v=.bool ((((!(shO ka))||((((ra.length:Nat):Int)) != (shA ka)))||((shN ka)&&(!(idn sa))))||((!(shN ka))&&(!decide ((sa)=((⟨([]).toArray⟩:ByteArray)))))),fun v _=>v=.bool ((((!(shO ka))||((((ra.length:Nat):Int)) != (shA ka)))||((shN ka)&&(!(idn sa))))||((!(shN ka))&&(!decide ((sa)=((⟨([]).toArray⟩:ByteArray)))))),fun v _=>((((((!(shO ka))||((((ra.length:Nat):Int)) != (shA ka)))||((shN ka)&&(!(idn sa))))||((!(shN ka))&&(!decide ((sa)=((⟨([]).toArray⟩:ByteArray))))))=false)→v=.pointer (some ⟨S1,2,none⟩))∧(¬ (((((!(shO ka))||((((ra.length:Nat):Int)) != (shA ka)))||((shN ka)&&(!(idn sa))))||((!(shN ka))&&(!decide ((sa)=((⟨([]).toArray⟩:ByteArray))))))=false)→v=undef),fun v _=>((((((!(shO ka))||((((ra.length:Nat):Int)) != (shA ka)))||((shN ka)&&(!(idn sa))))||((!(shN ka))&&(!decide ((sa)=((⟨([]).toArray⟩:ByteArray))))))=false)→v=.int .i64 (na))∧(¬ (((((!(shO ka))||((((ra.length:Nat):Int)) != (shA ka)))||((shN ka)&&(!(idn sa))))||((!(shN ka))&&(!decide ((sa)=((⟨([]).toArray⟩:ByteArray))))))=false)→v=undef),fun v _=>((((((!(shO ka))||((((ra.length:Nat):Int)) != (shA ka)))||((shN ka)&&(!(idn sa))))||((!(shN ka))&&(!decide ((sa)=((⟨([]).toArray⟩:ByteArray))))))=false)→v=.bool (num1 na 0))∧(¬ (((((!(shO ka))||((((ra.length:Nat):Int)) != (shA ka)))||((shN ka)&&(!(idn sa))))||((!(shN ka))&&(!decide ((sa)=((⟨([]).toArray⟩:ByteArray))))))=false)→v=undef),fun v _=>((((((!(shO ka))||((((ra.length:Nat):Int)) != (shA ka)))||((shN ka)&&(!(idn sa))))||((!(shN ka))&&(!decide ((sa)=((⟨([]).toArray⟩:ByteArray))))))=false)→v=.bool (!(num1 na 0)))∧(¬ (((((!(shO ka))||((((ra.length:Nat):Int)) != (shA ka)))||((shN ka)&&(!(idn sa))))||((!(shN ka))&&(!decide ((sa)=((⟨([]).toArray⟩:ByteArray))))))=false)→v=undef),fun v _=>v=.bool (((((!(shO ka))||((((ra.length:Nat):Int)) != (shA ka)))||((shN ka)&&(!(idn sa))))||((!(shN ka))&&(!decide ((sa)=((⟨([]).toArray⟩:ByteArray))))))||(!(num1 na 0))),fun v _=>v=.bool (((((!(shO ka))||((((ra.length:Nat):Int)) != (shA ka)))||((shN ka)&&(!(idn sa))))||((!(shN ka))&&(!decide ((sa)=((⟨([]).toArray⟩:ByteArray))))))||(!(num1 na 0))),fun v _=>(((((((!(shO ka))||((((ra.length:Nat):Int)) != (shA ka)))||((shN ka)&&(!(idn sa))))||((!(shN ka))&&(!decide ((sa)=((⟨([]).toArray⟩:ByteArray))))))||(!(num1 na 0)))=false)→v=.pointer (some ⟨S2,1,none⟩))∧(¬ ((((((!(shO ka))||((((ra.length:Nat):Int)) != (shA ka)))||((shN ka)&&(!(idn sa))))||((!(shN ka))&&(!decide ((sa)=((⟨([]).toArray⟩:ByteArray))))))||(!(num1 na 0)))=false)→v=undef),fun v _=>(((((((!(shO ka))||((((ra.length:Nat):Int)) != (shA ka)))||((shN ka)&&(!(idn sa))))||((!(shN ka))&&(!decide ((sa)=((⟨([]).toArray⟩:ByteArray))))))||(!(num1 na 0)))=false)→v=.bool (shM ka))∧(¬ ((((((!(shO ka))||((((ra.length:Nat):Int)) != (shA ka)))||((shN ka)&&(!(idn sa))))||((!(shN ka))&&(!decide ((sa)=((⟨([]).toArray⟩:ByteArray))))))||(!(num1 na 0)))=false)→v=undef),fun v _=>(((((((!(shO ka))||((((ra.length:Nat):Int)) != (shA ka)))||((shN ka)&&(!(idn sa))))||((!(shN ka))&&(!decide ((sa)=((⟨([]).toArray⟩:ByteArray))))))||(!(num1 na 0)))=false)→v=.bool (!(shM ka)))∧(¬ ((((((!(shO ka))||((((ra.length:Nat):Int)) != (shA ka)))||((shN ka)&&(!(idn sa))))||((!(shN ka))&&(!decide ((sa)=((⟨([]).toArray⟩:ByteArray))))))||(!(num1 na 0)))=false)→v=undef),fun v _=>(((((((!(shO ka))||((((ra.length:Nat):Int)) != (shA ka)))||((shN ka)&&(!(idn sa))))||((!(shN ka))&&(!decide ((sa)=((⟨([]).toArray⟩:ByteArray))))))||(!(num1 na 0)))=false)→v=.bool (!(shM ka)))∧(¬ ((((((!(shO ka))||((((ra.length:Nat):Int)) != (shA ka)))||((shN ka)&&(!(idn sa))))||((!(shN ka))&&(!decide ((sa)=((⟨([]).toArray⟩:ByteArray))))))||(!(num1 na 0)))=false)→v=undef),fun v _=>((((((((!(shO ka))||((((ra.length:Nat):Int)) != (shA ka)))||((shN ka)&&(!(idn sa))))||((!(shN ka))&&(!decide ((sa)=((⟨([]).toArray⟩:ByteArray))))))||(!(num1 na 0)))=false)∧((!(shM ka))=true))→v=.pointer (some ⟨S1,2,none⟩))∧(¬ (((((((!(shO ka))||((((ra.length:Nat):Int)) != (shA ka)))||((shN ka)&&(!(idn sa))))||((!(shN ka))&&(!decide ((sa)=((⟨([]).toArray⟩:ByteArray))))))||(!(num1 na 0)))=false)∧((!(shM ka))=true))→v=undef),fun v _=>((((((((!(shO ka))||((((ra.length:Nat):Int)) != (shA ka)))||((shN ka)&&(!(idn sa))))||((!(shN ka))&&(!decide ((sa)=((⟨([]).toArray⟩:ByteArray))))))||(!(num1 na 0)))=false)∧((!(shM ka))=true))→v=.int .i64 (na))∧(¬ (((((((!(shO ka))||((((ra.length:Nat):Int)) != (shA ka)))||((shN ka)&&(!(idn sa))))||((!(shN ka))&&(!decide ((sa)=((⟨([]).toArray⟩:ByteArray))))))||(!(num1 na 0)))=false)∧((!(shM ka))=true))→v=undef),fun v _=>((((((((!(shO ka))||((((ra.length:Nat):Int)) != (shA ka)))||((shN ka)&&(!(idn sa))))||((!(shN ka))&&(!decide ((sa)=((⟨([]).toArray⟩:ByteArray))))))||(!(num1 na 0)))=false)∧((!(shM ka))=true))→v=.bool ((na) != (0)))∧(¬ (((((((!(shO ka))||((((ra.length:Nat):Int)) != (shA ka)))||((shN ka)&&(!(idn sa))))||((!(shN ka))&&(!decide ((sa)=((⟨([]).toArray⟩:ByteArray))))))||(!(num1 na 0)))=false)∧((!(shM ka))=true))→v=undef),fun v _=>(((((((!(shO ka))||((((ra.length:Nat):Int)) != (shA ka)))||((shN ka)&&(!(idn sa))))||((!(shN ka))&&(!decide ((sa)=((⟨([]).toArray⟩:ByteArray))))))||(!(num1 na 0)))=false)→v=.bool ((!(shM ka))&&((na) != (0))))∧(¬ ((((((!(shO ka))||((((ra.length:Nat):Int)) != (shA ka)))||((shN ka)&&(!(idn sa))))||((!(shN ka))&&(!decide ((sa)=((⟨([]).toArray⟩:ByteArray))))))||(!(num1 na 0)))=false)→v=undef),fun v _=>v=.bool ((((((!(shO ka))||((((ra.length:Nat):Int)) != (shA ka)))||((shN ka)&&(!(idn sa))))||((!(shN ka))&&(!decide ((sa)=((⟨([]).toArray⟩:ByteArray))))))||(!(num1 na 0)))||((!(shM ka))&&((na) != (0)))),fun v _=>v=.bool ((((((!(shO ka))||((((ra.length:Nat):Int)) != (shA ka)))||((shN ka)&&(!(idn sa))))||((!(shN ka))&&(!decide ((sa)=((⟨([]).toArray⟩:ByteArray))))))||(!(num1 na 0)))||((!(shM ka))&&((na) != (0)))),fun v _=>((((((((!(shO ka))||((((ra.length:Nat):Int)) != (shA ka)))||((shN ka)&&(!(idn sa))))||((!(shN ka))&&(!decide ((sa)=((⟨([]).toArray⟩:ByteArray))))))||(!(num1 na 0)))||((!(shM ka))&&((na) != (0))))=false)→v=.pointer (some ⟨S2,2,none⟩))∧(¬ (((((((!(shO ka))||((((ra.length:Nat):Int)) != (shA ka)))||((shN ka)&&(!(idn sa))))||((!(shN ka))&&(!decide ((sa)=((⟨([]).toArray⟩:ByteArray))))))||(!(num1 na 0)))||((!(shM ka))&&((na) != (0))))=false)→v=undef),fun v _=>((((((((!(shO ka))||((((ra.length:Nat):Int)) != (shA ka)))||((shN ka)&&(!(idn sa))))||((!(shN ka))&&(!decide ((sa)=((⟨([]).toArray⟩:ByteArray))))))||(!(num1 na 0)))||((!(shM ka))&&((na) != (0))))=false)→v=.bool (shB ka))∧(¬ (((((((!(shO ka))||((((ra.length:Nat):Int)) != (shA ka)))||((shN ka)&&(!(idn sa))))||((!(shN ka))&&(!decide ((sa)=((⟨([]).toArray⟩:ByteArray))))))||(!(num1 na 0)))||((!(shM ka))&&((na) != (0))))=false)→v=undef),fun v _=>((((((((!(shO ka))||((((ra.length:Nat):Int)) != (shA ka)))||((shN ka)&&(!(idn sa))))||((!(shN ka))&&(!decide ((sa)=((⟨([]).toArray⟩:ByteArray))))))||(!(num1 na 0)))||((!(shM ka))&&((na) != (0))))=false)→v=.bool (!(shB ka)))∧(¬ (((((((!(shO ka))||((((ra.length:Nat):Int)) != (shA ka)))||((shN ka)&&(!(idn sa))))||((!(shN ka))&&(!decide ((sa)=((⟨([]).toArray⟩:ByteArray))))))||(!(num1 na 0)))||((!(shM ka))&&((na) != (0))))=false)→v=undef),fun v _=>((((((((!(shO ka))||((((ra.length:Nat):Int)) != (shA ka)))||((shN ka)&&(!(idn sa))))||((!(shN ka))&&(!decide ((sa)=((⟨([]).toArray⟩:ByteArray))))))||(!(num1 na 0)))||((!(shM ka))&&((na) != (0))))=false)→v=.bool (!(shB ka)))∧(¬ (((((((!(shO ka))||((((ra.length:Nat):Int)) != (shA ka)))||((shN ka)&&(!(idn sa))))||((!(shN ka))&&(!decide ((sa)=((⟨([]).toArray⟩:ByteArray))))))||(!(num1 na 0)))||((!(shM ka))&&((na) != (0))))=false)→v=undef),fun v _=>(((((((((!(shO ka))||((((ra.length:Nat):Int)) != (shA ka)))||((shN ka)&&(!(idn sa))))||((!(shN ka))&&(!decide ((sa)=((⟨([]).toArray⟩:ByteArray))))))||(!(num1 na 0)))||((!(shM ka))&&((na) != (0))))=false)∧((!(shB ka))=true))→v=.pointer (some ⟨S1,4,none⟩))∧(¬ ((((((((!(shO ka))||((((ra.length:Nat):Int)) != (shA ka)))||((shN ka)&&(!(idn sa))))||((!(shN ka))&&(!decide ((sa)=((⟨([]).toArray⟩:ByteArray))))))||(!(num1 na 0)))||((!(shM ka))&&((na) != (0))))=false)∧((!(shB ka))=true))→v=undef),fun v _=>(((((((((!(shO ka))||((((ra.length:Nat):Int)) != (shA ka)))||((shN ka)&&(!(idn sa))))||((!(shN ka))&&(!decide ((sa)=((⟨([]).toArray⟩:ByteArray))))))||(!(num1 na 0)))||((!(shM ka))&&((na) != (0))))=false)∧((!(shB ka))=true))→v=.slice pba (ya.length) (cba))∧(¬ ((((((((!(shO ka))||((((ra.length:Nat):Int)) != (shA ka)))||((shN ka)&&(!(idn sa))))||((!(shN ka))&&(!decide ((sa)=((⟨([]).toArray⟩:ByteArray))))))||(!(num1 na 0)))||((!(shM ka))&&((na) != (0))))=false)∧((!(shB ka))=true))→v=undef),fun v _=>(((((((((!(shO ka))||((((ra.length:Nat):Int)) != (shA ka)))||((shN ka)&&(!(idn sa))))||((!(shN ka))&&(!decide ((sa)=((⟨([]).toArray⟩:ByteArray))))))||(!(num1 na 0)))||((!(shM ka))&&((na) != (0))))=false)∧((!(shB ka))=true))→v=.int .i64 (((ya.length:Nat):Int)))∧(¬ ((((((((!(shO ka))||((((ra.length:Nat):Int)) != (shA ka)))||((shN ka)&&(!(idn sa))))||((!(shN ka))&&(!decide ((sa)=((⟨([]).toArray⟩:ByteArray))))))||(!(num1 na 0)))||((!(shM ka))&&((na) != (0))))=false)∧((!(shB ka))=true))→v=undef),fun v _=>(((((((((!(shO ka))||((((ra.length:Nat):Int)) != (shA ka)))||((shN ka)&&(!(idn sa))))||((!(shN ka))&&(!decide ((sa)=((⟨([]).toArray⟩:ByteArray))))))||(!(num1 na 0)))||((!(shM ka))&&((na) != (0))))=false)∧((!(shB ka))=true))→v=.bool (decide ((0) < (((ya.length:Nat):Int)))))∧(¬ ((((((((!(shO ka))||((((ra.length:Nat):Int)) != (shA ka)))||((shN ka)&&(!(idn sa))))||((!(shN ka))&&(!decide ((sa)=((⟨([]).toArray⟩:ByteArray))))))||(!(num1 na 0)))||((!(shM ka))&&((na) != (0))))=false)∧((!(shB ka))=true))→v=undef),fun v _=>((((((((!(shO ka))||((((ra.length:Nat):Int)) != (shA ka)))||((shN ka)&&(!(idn sa))))||((!(shN ka))&&(!decide ((sa)=((⟨([]).toArray⟩:ByteArray))))))||(!(num1 na 0)))||((!(shM ka))&&((na) != (0))))=false)→v=.bool ((!(shB ka))&&(decide ((0) < (((ya.length:Nat):Int))))))∧(¬ (((((((!(shO ka))||((((ra.length:Nat):Int)) != (shA ka)))||((shN ka)&&(!(idn sa))))||((!(shN ka))&&(!decide ((sa)=((⟨([]).toArray⟩:ByteArray))))))||(!(num1 na 0)))||((!(shM ka))&&((na) != (0))))=false)→v=undef),fun v _=>v=.bool (((((((!(shO ka))||((((ra.length:Nat):Int)) != (shA ka)))||((shN ka)&&(!(idn sa))))||((!(shN ka))&&(!decide ((sa)=((⟨([]).toArray⟩:ByteArray))))))||(!(num1 na 0)))||((!(shM ka))&&((na) != (0))))||((!(shB ka))&&(decide ((0) < (((ya.length:Nat):Int)))))),fun v _=>v=.bool (((((((!(shO ka))||((((ra.length:Nat):Int)) != (shA ka)))||((shN ka)&&(!(idn sa))))||((!(shN ka))&&(!decide ((sa)=((⟨([]).toArray⟩:ByteArray))))))||(!(num1 na 0)))||((!(shM ka))&&((na) != (0))))||((!(shB ka))&&(decide ((0) < (((ya.length:Nat):Int)))))),fun v _=>(((((((((!(shO ka))||((((ra.length:Nat):Int)) != (shA ka)))||((shN ka)&&(!(idn sa))))||((!(shN ka))&&(!decide ((sa)=((⟨([]).toArray⟩:ByteArray))))))||(!(num1 na 0)))||((!(shM ka))&&((na) != (0))))||((!(shB ka))&&(decide ((0) < (((ya.length:Nat):Int))))))=false)→v=.pointer (some ⟨S2,3,none⟩))∧(¬ ((((((((!(shO ka))||((((ra.length:Nat):Int)) != (shA ka)))||((shN ka)&&(!(idn sa))))||((!(shN ka))&&(!decide ((sa)=((⟨([]).toArray⟩:ByteArray))))))||(!(num1 na 0)))||((!(shM ka))&&((na) != (0))))||((!(shB ka))&&(decide ((0) < (((ya.length:Nat):Int))))))=false)→v=undef),fun v _=>(((((((((!(shO ka))||((((ra.length:Nat):Int)) != (shA ka)))||((shN ka)&&(!(idn sa))))||((!(shN ka))&&(!decide ((sa)=((⟨([]).toArray⟩:ByteArray))))))||(!(num1 na 0)))||((!(shM ka))&&((na) != (0))))||((!(shB ka))&&(decide ((0) < (((ya.length:Nat):Int))))))=false)→v=.bool (shE ka))∧(¬ ((((((((!(shO ka))||((((ra.length:Nat):Int)) != (shA ka)))||((shN ka)&&(!(idn sa))))||((!(shN ka))&&(!decide ((sa)=((⟨([]).toArray⟩:ByteArray))))))||(!(num1 na 0)))||((!(shM ka))&&((na) != (0))))||((!(shB ka))&&(decide ((0) < (((ya.length:Nat):Int))))))=false)→v=undef),fun v _=>(((((((((!(shO ka))||((((ra.length:Nat):Int)) != (shA ka)))||((shN ka)&&(!(idn sa))))||((!(shN ka))&&(!decide ((sa)=((⟨([]).toArray⟩:ByteArray))))))||(!(num1 na 0)))||((!(shM ka))&&((na) != (0))))||((!(shB ka))&&(decide ((0) < (((ya.length:Nat):Int))))))=false)→v=.bool (!(shE ka)))∧(¬ ((((((((!(shO ka))||((((ra.length:Nat):Int)) != (shA ka)))||((shN ka)&&(!(idn sa))))||((!(shN ka))&&(!decide ((sa)=((⟨([]).toArray⟩:ByteArray))))))||(!(num1 na 0)))||((!(shM ka))&&((na) != (0))))||((!(shB ka))&&(decide ((0) < (((ya.length:Nat):Int))))))=false)→v=undef),fun v _=>(((((((((!(shO ka))||((((ra.length:Nat):Int)) != (shA ka)))||((shN ka)&&(!(idn sa))))||((!(shN ka))&&(!decide ((sa)=((⟨([]).toArray⟩:ByteArray))))))||(!(num1 na 0)))||((!(shM ka))&&((na) != (0))))||((!(shB ka))&&(decide ((0) < (((ya.length:Nat):Int))))))=false)→v=.bool (!(shE ka)))∧(¬ ((((((((!(shO ka))||((((ra.length:Nat):Int)) != (shA ka)))||((shN ka)&&(!(idn sa))))||((!(shN ka))&&(!decide ((sa)=((⟨([]).toArray⟩:ByteArray))))))||(!(num1 na 0)))||((!(shM ka))&&((na) != (0))))||((!(shB ka))&&(decide ((0) < (((ya.length:Nat):Int))))))=false)→v=undef),fun v _=>((((((((((!(shO ka))||((((ra.length:Nat):Int)) != (shA ka)))||((shN ka)&&(!(idn sa))))||((!(shN ka))&&(!decide ((sa)=((⟨([]).toArray⟩:ByteArray))))))||(!(num1 na 0)))||((!(shM ka))&&((na) != (0))))||((!(shB ka))&&(decide ((0) < (((ya.length:Nat):Int))))))=false)∧((!(shE ka))=true))→v=.pointer (some ⟨S1,5,none⟩))∧(¬ (((((((((!(shO ka))||((((ra.length:Nat):Int)) != (shA ka)))||((shN ka)&&(!(idn sa))))||((!(shN ka))&&(!decide ((sa)=((⟨([]).toArray⟩:ByteArray))))))||(!(num1 na 0)))||((!(shM ka))&&((na) != (0))))||((!(shB ka))&&(decide ((0) < (((ya.length:Nat):Int))))))=false)∧((!(shE ka))=true))→v=undef),fun v _=>((((((((((!(shO ka))||((((ra.length:Nat):Int)) != (shA ka)))||((shN ka)&&(!(idn sa))))||((!(shN ka))&&(!decide ((sa)=((⟨([]).toArray⟩:ByteArray))))))||(!(num1 na 0)))||((!(shM ka))&&((na) != (0))))||((!(shB ka))&&(decide ((0) < (((ya.length:Nat):Int))))))=false)∧((!(shE ka))=true))→v=.slice pea (ea.length) (cea))∧(¬ (((((((((!(shO ka))||((((ra.length:Nat):Int)) != (shA ka)))||((shN ka)&&(!(idn sa))))||((!(shN ka))&&(!decide ((sa)=((⟨([]).toArray⟩:ByteArray))))))||(!(num1 na 0)))||((!(shM ka))&&((na) != (0))))||((!(shB ka))&&(decide ((0) < (((ya.length:Nat):Int))))))=false)∧((!(shE ka))=true))→v=undef),fun v _=>((((((((((!(shO ka))||((((ra.length:Nat):Int)) != (shA ka)))||((shN ka)&&(!(idn sa))))||((!(shN ka))&&(!decide ((sa)=((⟨([]).toArray⟩:ByteArray))))))||(!(num1 na 0)))||((!(shM ka))&&((na) != (0))))||((!(shB ka))&&(decide ((0) < (((ya.length:Nat):Int))))))=false)∧((!(shE ka))=true))→v=.int .i64 (((ea.length:Nat):Int)))∧(¬ (((((((((!(shO ka))||((((ra.length:Nat):Int)) != (shA ka)))||((shN ka)&&(!(idn sa))))||((!(shN ka))&&(!decide ((sa)=((⟨([]).toArray⟩:ByteArray))))))||(!(num1 na 0)))||((!(shM ka))&&((na) != (0))))||((!(shB ka))&&(decide ((0) < (((ya.length:Nat):Int))))))=false)∧((!(shE ka))=true))→v=undef),fun v _=>((((((((((!(shO ka))||((((ra.length:Nat):Int)) != (shA ka)))||((shN ka)&&(!(idn sa))))||((!(shN ka))&&(!decide ((sa)=((⟨([]).toArray⟩:ByteArray))))))||(!(num1 na 0)))||((!(shM ka))&&((na) != (0))))||((!(shB ka))&&(decide ((0) < (((ya.length:Nat):Int))))))=false)∧((!(shE ka))=true))→v=.bool (decide ((0) < (((ea.length:Nat):Int)))))∧(¬ (((((((((!(shO ka))||((((ra.length:Nat):Int)) != (shA ka)))||((shN ka)&&(!(idn sa))))||((!(shN ka))&&(!decide ((sa)=((⟨([]).toArray⟩:ByteArray))))))||(!(num1 na 0)))||((!(shM ka))&&((na) != (0))))||((!(shB ka))&&(decide ((0) < (((ya.length:Nat):Int))))))=false)∧((!(shE ka))=true))→v=undef),fun v _=>(((((((((!(shO ka))||((((ra.length:Nat):Int)) != (shA ka)))||((shN ka)&&(!(idn sa))))||((!(shN ka))&&(!decide ((sa)=((⟨([]).toArray⟩:ByteArray))))))||(!(num1 na 0)))||((!(shM ka))&&((na) != (0))))||((!(shB ka))&&(decide ((0) < (((ya.length:Nat):Int))))))=false)→v=.bool ((!(shE ka))&&(decide ((0) < (((ea.length:Nat):Int))))))∧(¬ ((((((((!(shO ka))||((((ra.length:Nat):Int)) != (shA ka)))||((shN ka)&&(!(idn sa))))||((!(shN ka))&&(!decide ((sa)=((⟨([]).toArray⟩:ByteArray))))))||(!(num1 na 0)))||((!(shM ka))&&((na) != (0))))||((!(shB ka))&&(decide ((0) < (((ya.length:Nat):Int))))))=false)→v=undef),fun v _=>v=.bool ((((((((!(shO ka))||((((ra.length:Nat):Int)) != (shA ka)))||((shN ka)&&(!(idn sa))))||((!(shN ka))&&(!decide ((sa)=((⟨([]).toArray⟩:ByteArray))))))||(!(num1 na 0)))||((!(shM ka))&&((na) != (0))))||((!(shB ka))&&(decide ((0) < (((ya.length:Nat):Int))))))||((!(shE ka))&&(decide ((0) < (((ea.length:Nat):Int))))))] (by kernel_rfl) rfl ?_ ⟨?_,?_,?_,?_,?_,?_,?_,?_,?_,?_,?_,?_,?_,?_,?_,?_,?_,?_,?_,?_,?_,?_,?_,?_,?_,?_,?_,?_,?_,?_,?_,?_,?_,?_,?_,?_,?_,?_,?_,?_,?_,?_,?_,?_,?_,?_,?_,?_,?_,?_,?_,?_,?_,?_,?_,?_,?_,?_,?_,?_,?_,?_,?_,?_,?_,?_,?_,?_,trivial⟩ ?_
   ·exact⟨Zi,Zi,Zi,Zi,Zi,Zi,Zi,Zi,Zi,Zi,Zi,Zi,Zi,Zi,Zi,Zi,Zi,Zi,Zi,Zi,Zi,Zi,Zi,Zi,Zi,Zi,Zi,Zi,Zi,Zi,Zi,Zi,Zi,Zi,Zi,Zi,Zi,Zi,Zi,Zi,Zi,Zi,Zi,Zi,Zi,Zi,Zi,Zi,Zi,Zi,Zi,Zi,Zi,Zi,Zi,Zi,Zi,Zi,Zi,Zi,Zi,Zi,Zi,Zi,Zi,Zi,Zi,Zi,trivial⟩
   ·intro u w hR hd;exact runs_mv (ev rfl) Zr
   ·intro u w hR hd;exact runs_nt (ev (hd.1 rfl)) Zr
   ·intro u w hR hd;exact runs_mv (ev (hd.1 rfl)) Zr
   ·intro u w hR hd;exact⟨fun hg=>have hG:((!(shO ka))=false):=Value.bool.inj ((hd.1 rfl).symm.trans hg);rn_fld_49_3 (ev rfl) (Zs hG),Zn (hd.1 rfl)⟩
   ·intro u w hR hd;exact⟨fun hg=>have hG:((!(shO ka))=false):=Value.bool.inj ((hd.2.1 rfl).symm.trans hg);rn_ld_33 (ev ((hd.1 rfl).1 hG)) (d3.kept hR) (Zs hG),Zn (hd.2.1 rfl)⟩
   ·intro u w hR hd;exact⟨fun hg=>have hG:((!(shO ka))=false):=Value.bool.inj ((hd.2.1 rfl).symm.trans hg);rn_len_33 (ev ((hd.1 rfl).1 hG)) (Zs hG),Zn (hd.2.1 rfl)⟩
   ·intro u w hR hd;exact⟨fun hg=>have hG:((!(shO ka))=false):=Value.bool.inj ((hd.1 rfl).symm.trans hg);rn_fld_167_4 (ev rfl) (Zs hG),Zn (hd.1 rfl)⟩
   ·intro u w hR hd;exact⟨fun hg=>have hG:((!(shO ka))=false):=Value.bool.inj ((hd.2.1 rfl).symm.trans hg);rn_ld_3 (ev ((hd.1 rfl).1 hG)) (e4.kept hR) (Zs hG),Zn (hd.2.1 rfl)⟩
   ·intro u w hR hd;exact⟨fun hg=>have hG:((!(shO ka))=false):=Value.bool.inj ((hd.2.2.1 rfl).symm.trans hg);rn_neq_3 (ev ((hd.1 rfl).1 hG)) (ev ((hd.2.1 rfl).1 hG)) (Zs hG),Zn (hd.2.2.1 rfl)⟩
   ·intro u w hR hd;exact runs_or2 (ev (hd.1 rfl)) (fun hb=>ev ((hd.2.1 rfl).1 hb)) Zr
   ·intro u w hR hd;exact runs_mv (ev (hd.1 rfl)) Zr
   ·intro u w hR hd;exact⟨fun hg=>have hG:(((!(shO ka))||((((ra.length:Nat):Int)) != (shA ka)))=false):=Value.bool.inj ((hd.1 rfl).symm.trans hg);rn_fld_167_0 (ev rfl) (Zs hG),Zn (hd.1 rfl)⟩
   ·intro u w hR hd;exact⟨fun hg=>have hG:(((!(shO ka))||((((ra.length:Nat):Int)) != (shA ka)))=false):=Value.bool.inj ((hd.2.1 rfl).symm.trans hg);rn_ld_4 (ev ((hd.1 rfl).1 hG)) (e0.kept hR) (Zs hG),Zn (hd.2.1 rfl)⟩
   ·intro u w hR hd;exact⟨fun hg=>have hG:(((!(shO ka))||((((ra.length:Nat):Int)) != (shA ka)))=false):=Value.bool.inj ((hd.2.1 rfl).symm.trans hg);runs_mv (ev ((hd.1 rfl).1 hG)) (Zs hG),Zn (hd.2.1 rfl)⟩
   ·intro u w hR hd;exact⟨fun hg=>have hP:(((!(shO ka))||((((ra.length:Nat):Int)) != (shA ka)))=false):=Classical.byContradiction (fun hnp=>absurd (((hd.1 rfl).2 hnp).symm.trans hg) (fun h=>by first | cases h | (simp [undef] at h)));have hG:((((!(shO ka))||((((ra.length:Nat):Int)) != (shA ka)))=false)∧((shN ka)=true)):=⟨hP,Value.bool.inj (((hd.1 rfl).1 hP).symm.trans hg)⟩;rn_fld_49_1 (ev rfl) (Zs hG),fun hn=>⟨fun hG=>absurd (((hd.1 rfl).1 hG.1).trans (congrArg Value.bool hG.2)) hn,fun _=>rfl⟩⟩
   ·intro u w hR hd;exact⟨fun hg=>have hP:(((!(shO ka))||((((ra.length:Nat):Int)) != (shA ka)))=false):=Classical.byContradiction (fun hnp=>absurd (((hd.2.1 rfl).2 hnp).symm.trans hg) (fun h=>by first | cases h | (simp [undef] at h)));have hG:((((!(shO ka))||((((ra.length:Nat):Int)) != (shA ka)))=false)∧((shN ka)=true)):=⟨hP,Value.bool.inj (((hd.2.1 rfl).1 hP).symm.trans hg)⟩;rn_ld_9 (ev ((hd.1 rfl).1 hG)) (d1.kept hR) (Zs hG),fun hn=>⟨fun hG=>absurd (((hd.2.1 rfl).1 hG.1).trans (congrArg Value.bool hG.2)) hn,fun _=>rfl⟩⟩
   ·intro u w hR hd;exact⟨fun hg=>have hP:(((!(shO ka))||((((ra.length:Nat):Int)) != (shA ka)))=false):=Classical.byContradiction (fun hnp=>absurd (((hd.2.1 rfl).2 hnp).symm.trans hg) (fun h=>by first | cases h | (simp [undef] at h)));have hG:((((!(shO ka))||((((ra.length:Nat):Int)) != (shA ka)))=false)∧((shN ka)=true)):=⟨hP,Value.bool.inj (((hd.2.1 rfl).1 hP).symm.trans hg)⟩;runs_c1 enters_id (ev ((hd.1 rfl).1 hG)) (callp (fun _ e=>⟨fun _=>e,fun hn=>absurd hG hn⟩) (HID.out _)),fun hn=>⟨fun hG=>absurd (((hd.2.1 rfl).1 hG.1).trans (congrArg Value.bool hG.2)) hn,fun _=>rfl⟩⟩
   ·intro u w hR hd;exact⟨fun hg=>have hP:(((!(shO ka))||((((ra.length:Nat):Int)) != (shA ka)))=false):=Classical.byContradiction (fun hnp=>absurd (((hd.2.1 rfl).2 hnp).symm.trans hg) (fun h=>by first | cases h | (simp [undef] at h)));have hG:((((!(shO ka))||((((ra.length:Nat):Int)) != (shA ka)))=false)∧((shN ka)=true)):=⟨hP,Value.bool.inj (((hd.2.1 rfl).1 hP).symm.trans hg)⟩;runs_nt (ev ((hd.1 rfl).1 hG)) (Zs hG),fun hn=>⟨fun hG=>absurd (((hd.2.1 rfl).1 hG.1).trans (congrArg Value.bool hG.2)) hn,fun _=>rfl⟩⟩
   ·intro u w hR hd;exact⟨fun hg=>have hG:(((!(shO ka))||((((ra.length:Nat):Int)) != (shA ka)))=false):=Value.bool.inj ((hd.2.2.1 rfl).symm.trans hg);runs_an (ev ((hd.1 rfl).1 hG)) (fun hb=>ev ((hd.2.1 rfl).1 ⟨hG,hb⟩)) (Zs hG),Zn (hd.2.2.1 rfl)⟩
   ·intro u w hR hd;exact runs_or2 (ev (hd.1 rfl)) (fun hb=>ev ((hd.2.1 rfl).1 hb)) Zr
   ·intro u w hR hd;exact runs_mv (ev (hd.1 rfl)) Zr
   ·intro u w hR hd;exact⟨fun hg=>have hG:((((!(shO ka))||((((ra.length:Nat):Int)) != (shA ka)))||((shN ka)&&(!(idn sa))))=false):=Value.bool.inj ((hd.1 rfl).symm.trans hg);rn_fld_167_0 (ev rfl) (Zs hG),Zn (hd.1 rfl)⟩
   ·intro u w hR hd;exact⟨fun hg=>have hG:((((!(shO ka))||((((ra.length:Nat):Int)) != (shA ka)))||((shN ka)&&(!(idn sa))))=false):=Value.bool.inj ((hd.2.1 rfl).symm.trans hg);rn_ld_4 (ev ((hd.1 rfl).1 hG)) (e0.kept hR) (Zs hG),Zn (hd.2.1 rfl)⟩
   ·intro u w hR hd;exact⟨fun hg=>have hG:((((!(shO ka))||((((ra.length:Nat):Int)) != (shA ka)))||((shN ka)&&(!(idn sa))))=false):=Value.bool.inj ((hd.2.1 rfl).symm.trans hg);runs_nt (ev ((hd.1 rfl).1 hG)) (Zs hG),Zn (hd.2.1 rfl)⟩
   ·intro u w hR hd;exact⟨fun hg=>have hG:((((!(shO ka))||((((ra.length:Nat):Int)) != (shA ka)))||((shN ka)&&(!(idn sa))))=false):=Value.bool.inj ((hd.2.1 rfl).symm.trans hg);runs_mv (ev ((hd.1 rfl).1 hG)) (Zs hG),Zn (hd.2.1 rfl)⟩
   ·intro u w hR hd;exact⟨fun hg=>have hP:((((!(shO ka))||((((ra.length:Nat):Int)) != (shA ka)))||((shN ka)&&(!(idn sa))))=false):=Classical.byContradiction (fun hnp=>absurd (((hd.1 rfl).2 hnp).symm.trans hg) (fun h=>by first | cases h | (simp [undef] at h)));have hG:(((((!(shO ka))||((((ra.length:Nat):Int)) != (shA ka)))||((shN ka)&&(!(idn sa))))=false)∧((!(shN ka))=true)):=⟨hP,Value.bool.inj (((hd.1 rfl).1 hP).symm.trans hg)⟩;rn_fld_49_1 (ev rfl) (Zs hG),fun hn=>⟨fun hG=>absurd (((hd.1 rfl).1 hG.1).trans (congrArg Value.bool hG.2)) hn,fun _=>rfl⟩⟩
   ·intro u w hR hd;exact⟨fun hg=>have hP:((((!(shO ka))||((((ra.length:Nat):Int)) != (shA ka)))||((shN ka)&&(!(idn sa))))=false):=Classical.byContradiction (fun hnp=>absurd (((hd.2.1 rfl).2 hnp).symm.trans hg) (fun h=>by first | cases h | (simp [undef] at h)));have hG:(((((!(shO ka))||((((ra.length:Nat):Int)) != (shA ka)))||((shN ka)&&(!(idn sa))))=false)∧((!(shN ka))=true)):=⟨hP,Value.bool.inj (((hd.2.1 rfl).1 hP).symm.trans hg)⟩;rn_ld_9 (ev ((hd.1 rfl).1 hG)) (d1.kept hR) (Zs hG),fun hn=>⟨fun hG=>absurd (((hd.2.1 rfl).1 hG.1).trans (congrArg Value.bool hG.2)) hn,fun _=>rfl⟩⟩
   ·intro u w hR hd;exact⟨fun hg=>have hP:((((!(shO ka))||((((ra.length:Nat):Int)) != (shA ka)))||((shN ka)&&(!(idn sa))))=false):=Classical.byContradiction (fun hnp=>absurd (((hd.2.1 rfl).2 hnp).symm.trans hg) (fun h=>by first | cases h | (simp [undef] at h)));have hG:(((((!(shO ka))||((((ra.length:Nat):Int)) != (shA ka)))||((shN ka)&&(!(idn sa))))=false)∧((!(shN ka))=true)):=⟨hP,Value.bool.inj (((hd.2.1 rfl).1 hP).symm.trans hg)⟩;rn_nes_9 (ev ((hd.1 rfl).1 hG)) rfl (Zs hG),fun hn=>⟨fun hG=>absurd (((hd.2.1 rfl).1 hG.1).trans (congrArg Value.bool hG.2)) hn,fun _=>rfl⟩⟩
   ·intro u w hR hd;exact⟨fun hg=>have hG:((((!(shO ka))||((((ra.length:Nat):Int)) != (shA ka)))||((shN ka)&&(!(idn sa))))=false):=Value.bool.inj ((hd.2.2.1 rfl).symm.trans hg);runs_an (ev ((hd.1 rfl).1 hG)) (fun hb=>ev ((hd.2.1 rfl).1 ⟨hG,hb⟩)) (Zs hG),Zn (hd.2.2.1 rfl)⟩
   ·intro u w hR hd;exact runs_or2 (ev (hd.1 rfl)) (fun hb=>ev ((hd.2.1 rfl).1 hb)) Zr
   ·intro u w hR hd;exact runs_mv (ev (hd.1 rfl)) Zr
   ·intro u w hR hd;exact⟨fun hg=>have hG:(((((!(shO ka))||((((ra.length:Nat):Int)) != (shA ka)))||((shN ka)&&(!(idn sa))))||((!(shN ka))&&(!decide ((sa)=((⟨([]).toArray⟩:ByteArray))))))=false):=Value.bool.inj ((hd.1 rfl).symm.trans hg);rn_fld_49_2 (ev rfl) (Zs hG),Zn (hd.1 rfl)⟩
   ·intro u w hR hd;exact⟨fun hg=>have hG:(((((!(shO ka))||((((ra.length:Nat):Int)) != (shA ka)))||((shN ka)&&(!(idn sa))))||((!(shN ka))&&(!decide ((sa)=((⟨([]).toArray⟩:ByteArray))))))=false):=Value.bool.inj ((hd.2.1 rfl).symm.trans hg);rn_ld_3 (ev ((hd.1 rfl).1 hG)) (d2.kept hR) (Zs hG),Zn (hd.2.1 rfl)⟩
   ·intro u w hR hd;exact⟨fun hg=>have hG:(((((!(shO ka))||((((ra.length:Nat):Int)) != (shA ka)))||((shN ka)&&(!(idn sa))))||((!(shN ka))&&(!decide ((sa)=((⟨([]).toArray⟩:ByteArray))))))=false):=Value.bool.inj ((hd.2.1 rfl).symm.trans hg);runs_c2 enters_nu (ev ((hd.1 rfl).1 hG)) rfl (callp (fun _ e=>⟨fun _=>e,fun hn=>absurd hG hn⟩) (HNU.out _)),Zn (hd.2.1 rfl)⟩
   ·intro u w hR hd;exact⟨fun hg=>have hG:(((((!(shO ka))||((((ra.length:Nat):Int)) != (shA ka)))||((shN ka)&&(!(idn sa))))||((!(shN ka))&&(!decide ((sa)=((⟨([]).toArray⟩:ByteArray))))))=false):=Value.bool.inj ((hd.2.1 rfl).symm.trans hg);runs_nt (ev ((hd.1 rfl).1 hG)) (Zs hG),Zn (hd.2.1 rfl)⟩
   ·intro u w hR hd;exact runs_or2 (ev (hd.1 rfl)) (fun hb=>ev ((hd.2.1 rfl).1 hb)) Zr
   ·intro u w hR hd;exact runs_mv (ev (hd.1 rfl)) Zr
   ·intro u w hR hd;exact⟨fun hg=>have hG:((((((!(shO ka))||((((ra.length:Nat):Int)) != (shA ka)))||((shN ka)&&(!(idn sa))))||((!(shN ka))&&(!decide ((sa)=((⟨([]).toArray⟩:ByteArray))))))||(!(num1 na 0)))=false):=Value.bool.inj ((hd.1 rfl).symm.trans hg);rn_fld_167_1 (ev rfl) (Zs hG),Zn (hd.1 rfl)⟩
   ·intro u w hR hd;exact⟨fun hg=>have hG:((((((!(shO ka))||((((ra.length:Nat):Int)) != (shA ka)))||((shN ka)&&(!(idn sa))))||((!(shN ka))&&(!decide ((sa)=((⟨([]).toArray⟩:ByteArray))))))||(!(num1 na 0)))=false):=Value.bool.inj ((hd.2.1 rfl).symm.trans hg);rn_ld_4 (ev ((hd.1 rfl).1 hG)) (e1.kept hR) (Zs hG),Zn (hd.2.1 rfl)⟩
   ·intro u w hR hd;exact⟨fun hg=>have hG:((((((!(shO ka))||((((ra.length:Nat):Int)) != (shA ka)))||((shN ka)&&(!(idn sa))))||((!(shN ka))&&(!decide ((sa)=((⟨([]).toArray⟩:ByteArray))))))||(!(num1 na 0)))=false):=Value.bool.inj ((hd.2.1 rfl).symm.trans hg);runs_nt (ev ((hd.1 rfl).1 hG)) (Zs hG),Zn (hd.2.1 rfl)⟩
   ·intro u w hR hd;exact⟨fun hg=>have hG:((((((!(shO ka))||((((ra.length:Nat):Int)) != (shA ka)))||((shN ka)&&(!(idn sa))))||((!(shN ka))&&(!decide ((sa)=((⟨([]).toArray⟩:ByteArray))))))||(!(num1 na 0)))=false):=Value.bool.inj ((hd.2.1 rfl).symm.trans hg);runs_mv (ev ((hd.1 rfl).1 hG)) (Zs hG),Zn (hd.2.1 rfl)⟩
   ·intro u w hR hd;exact⟨fun hg=>have hP:((((((!(shO ka))||((((ra.length:Nat):Int)) != (shA ka)))||((shN ka)&&(!(idn sa))))||((!(shN ka))&&(!decide ((sa)=((⟨([]).toArray⟩:ByteArray))))))||(!(num1 na 0)))=false):=Classical.byContradiction (fun hnp=>absurd (((hd.1 rfl).2 hnp).symm.trans hg) (fun h=>by first | cases h | (simp [undef] at h)));have hG:(((((((!(shO ka))||((((ra.length:Nat):Int)) != (shA ka)))||((shN ka)&&(!(idn sa))))||((!(shN ka))&&(!decide ((sa)=((⟨([]).toArray⟩:ByteArray))))))||(!(num1 na 0)))=false)∧((!(shM ka))=true)):=⟨hP,Value.bool.inj (((hd.1 rfl).1 hP).symm.trans hg)⟩;rn_fld_49_2 (ev rfl) (Zs hG),fun hn=>⟨fun hG=>absurd (((hd.1 rfl).1 hG.1).trans (congrArg Value.bool hG.2)) hn,fun _=>rfl⟩⟩
   ·intro u w hR hd;exact⟨fun hg=>have hP:((((((!(shO ka))||((((ra.length:Nat):Int)) != (shA ka)))||((shN ka)&&(!(idn sa))))||((!(shN ka))&&(!decide ((sa)=((⟨([]).toArray⟩:ByteArray))))))||(!(num1 na 0)))=false):=Classical.byContradiction (fun hnp=>absurd (((hd.2.1 rfl).2 hnp).symm.trans hg) (fun h=>by first | cases h | (simp [undef] at h)));have hG:(((((((!(shO ka))||((((ra.length:Nat):Int)) != (shA ka)))||((shN ka)&&(!(idn sa))))||((!(shN ka))&&(!decide ((sa)=((⟨([]).toArray⟩:ByteArray))))))||(!(num1 na 0)))=false)∧((!(shM ka))=true)):=⟨hP,Value.bool.inj (((hd.2.1 rfl).1 hP).symm.trans hg)⟩;rn_ld_3 (ev ((hd.1 rfl).1 hG)) (d2.kept hR) (Zs hG),fun hn=>⟨fun hG=>absurd (((hd.2.1 rfl).1 hG.1).trans (congrArg Value.bool hG.2)) hn,fun _=>rfl⟩⟩
   ·intro u w hR hd;exact⟨fun hg=>have hP:((((((!(shO ka))||((((ra.length:Nat):Int)) != (shA ka)))||((shN ka)&&(!(idn sa))))||((!(shN ka))&&(!decide ((sa)=((⟨([]).toArray⟩:ByteArray))))))||(!(num1 na 0)))=false):=Classical.byContradiction (fun hnp=>absurd (((hd.2.1 rfl).2 hnp).symm.trans hg) (fun h=>by first | cases h | (simp [undef] at h)));have hG:(((((((!(shO ka))||((((ra.length:Nat):Int)) != (shA ka)))||((shN ka)&&(!(idn sa))))||((!(shN ka))&&(!decide ((sa)=((⟨([]).toArray⟩:ByteArray))))))||(!(num1 na 0)))=false)∧((!(shM ka))=true)):=⟨hP,Value.bool.inj (((hd.2.1 rfl).1 hP).symm.trans hg)⟩;rn_neq_3 (ev ((hd.1 rfl).1 hG)) rfl (Zs hG),fun hn=>⟨fun hG=>absurd (((hd.2.1 rfl).1 hG.1).trans (congrArg Value.bool hG.2)) hn,fun _=>rfl⟩⟩
   ·intro u w hR hd;exact⟨fun hg=>have hG:((((((!(shO ka))||((((ra.length:Nat):Int)) != (shA ka)))||((shN ka)&&(!(idn sa))))||((!(shN ka))&&(!decide ((sa)=((⟨([]).toArray⟩:ByteArray))))))||(!(num1 na 0)))=false):=Value.bool.inj ((hd.2.2.1 rfl).symm.trans hg);runs_an (ev ((hd.1 rfl).1 hG)) (fun hb=>ev ((hd.2.1 rfl).1 ⟨hG,hb⟩)) (Zs hG),Zn (hd.2.2.1 rfl)⟩
   ·intro u w hR hd;exact runs_or2 (ev (hd.1 rfl)) (fun hb=>ev ((hd.2.1 rfl).1 hb)) Zr
   ·intro u w hR hd;exact runs_mv (ev (hd.1 rfl)) Zr
   ·intro u w hR hd;exact⟨fun hg=>have hG:(((((((!(shO ka))||((((ra.length:Nat):Int)) != (shA ka)))||((shN ka)&&(!(idn sa))))||((!(shN ka))&&(!decide ((sa)=((⟨([]).toArray⟩:ByteArray))))))||(!(num1 na 0)))||((!(shM ka))&&((na) != (0))))=false):=Value.bool.inj ((hd.1 rfl).symm.trans hg);rn_fld_167_2 (ev rfl) (Zs hG),Zn (hd.1 rfl)⟩
   ·intro u w hR hd;exact⟨fun hg=>have hG:(((((((!(shO ka))||((((ra.length:Nat):Int)) != (shA ka)))||((shN ka)&&(!(idn sa))))||((!(shN ka))&&(!decide ((sa)=((⟨([]).toArray⟩:ByteArray))))))||(!(num1 na 0)))||((!(shM ka))&&((na) != (0))))=false):=Value.bool.inj ((hd.2.1 rfl).symm.trans hg);rn_ld_4 (ev ((hd.1 rfl).1 hG)) (e2.kept hR) (Zs hG),Zn (hd.2.1 rfl)⟩
   ·intro u w hR hd;exact⟨fun hg=>have hG:(((((((!(shO ka))||((((ra.length:Nat):Int)) != (shA ka)))||((shN ka)&&(!(idn sa))))||((!(shN ka))&&(!decide ((sa)=((⟨([]).toArray⟩:ByteArray))))))||(!(num1 na 0)))||((!(shM ka))&&((na) != (0))))=false):=Value.bool.inj ((hd.2.1 rfl).symm.trans hg);runs_nt (ev ((hd.1 rfl).1 hG)) (Zs hG),Zn (hd.2.1 rfl)⟩
   ·intro u w hR hd;exact⟨fun hg=>have hG:(((((((!(shO ka))||((((ra.length:Nat):Int)) != (shA ka)))||((shN ka)&&(!(idn sa))))||((!(shN ka))&&(!decide ((sa)=((⟨([]).toArray⟩:ByteArray))))))||(!(num1 na 0)))||((!(shM ka))&&((na) != (0))))=false):=Value.bool.inj ((hd.2.1 rfl).symm.trans hg);runs_mv (ev ((hd.1 rfl).1 hG)) (Zs hG),Zn (hd.2.1 rfl)⟩
   ·intro u w hR hd;exact⟨fun hg=>have hP:(((((((!(shO ka))||((((ra.length:Nat):Int)) != (shA ka)))||((shN ka)&&(!(idn sa))))||((!(shN ka))&&(!decide ((sa)=((⟨([]).toArray⟩:ByteArray))))))||(!(num1 na 0)))||((!(shM ka))&&((na) != (0))))=false):=Classical.byContradiction (fun hnp=>absurd (((hd.1 rfl).2 hnp).symm.trans hg) (fun h=>by first | cases h | (simp [undef] at h)));have hG:((((((((!(shO ka))||((((ra.length:Nat):Int)) != (shA ka)))||((shN ka)&&(!(idn sa))))||((!(shN ka))&&(!decide ((sa)=((⟨([]).toArray⟩:ByteArray))))))||(!(num1 na 0)))||((!(shM ka))&&((na) != (0))))=false)∧((!(shB ka))=true)):=⟨hP,Value.bool.inj (((hd.1 rfl).1 hP).symm.trans hg)⟩;rn_fld_49_4 (ev rfl) (Zs hG),fun hn=>⟨fun hG=>absurd (((hd.1 rfl).1 hG.1).trans (congrArg Value.bool hG.2)) hn,fun _=>rfl⟩⟩
   ·intro u w hR hd;exact⟨fun hg=>have hP:(((((((!(shO ka))||((((ra.length:Nat):Int)) != (shA ka)))||((shN ka)&&(!(idn sa))))||((!(shN ka))&&(!decide ((sa)=((⟨([]).toArray⟩:ByteArray))))))||(!(num1 na 0)))||((!(shM ka))&&((na) != (0))))=false):=Classical.byContradiction (fun hnp=>absurd (((hd.2.1 rfl).2 hnp).symm.trans hg) (fun h=>by first | cases h | (simp [undef] at h)));have hG:((((((((!(shO ka))||((((ra.length:Nat):Int)) != (shA ka)))||((shN ka)&&(!(idn sa))))||((!(shN ka))&&(!decide ((sa)=((⟨([]).toArray⟩:ByteArray))))))||(!(num1 na 0)))||((!(shM ka))&&((na) != (0))))=false)∧((!(shB ka))=true)):=⟨hP,Value.bool.inj (((hd.2.1 rfl).1 hP).symm.trans hg)⟩;rn_ld_40 (ev ((hd.1 rfl).1 hG)) (d4.kept hR) (Zs hG),fun hn=>⟨fun hG=>absurd (((hd.2.1 rfl).1 hG.1).trans (congrArg Value.bool hG.2)) hn,fun _=>rfl⟩⟩
   ·intro u w hR hd;exact⟨fun hg=>have hP:(((((((!(shO ka))||((((ra.length:Nat):Int)) != (shA ka)))||((shN ka)&&(!(idn sa))))||((!(shN ka))&&(!decide ((sa)=((⟨([]).toArray⟩:ByteArray))))))||(!(num1 na 0)))||((!(shM ka))&&((na) != (0))))=false):=Classical.byContradiction (fun hnp=>absurd (((hd.2.1 rfl).2 hnp).symm.trans hg) (fun h=>by first | cases h | (simp [undef] at h)));have hG:((((((((!(shO ka))||((((ra.length:Nat):Int)) != (shA ka)))||((shN ka)&&(!(idn sa))))||((!(shN ka))&&(!decide ((sa)=((⟨([]).toArray⟩:ByteArray))))))||(!(num1 na 0)))||((!(shM ka))&&((na) != (0))))=false)∧((!(shB ka))=true)):=⟨hP,Value.bool.inj (((hd.2.1 rfl).1 hP).symm.trans hg)⟩;rn_len_40 (ev ((hd.1 rfl).1 hG)) (Zs hG),fun hn=>⟨fun hG=>absurd (((hd.2.1 rfl).1 hG.1).trans (congrArg Value.bool hG.2)) hn,fun _=>rfl⟩⟩
   ·intro u w hR hd;exact⟨fun hg=>have hP:(((((((!(shO ka))||((((ra.length:Nat):Int)) != (shA ka)))||((shN ka)&&(!(idn sa))))||((!(shN ka))&&(!decide ((sa)=((⟨([]).toArray⟩:ByteArray))))))||(!(num1 na 0)))||((!(shM ka))&&((na) != (0))))=false):=Classical.byContradiction (fun hnp=>absurd (((hd.2.1 rfl).2 hnp).symm.trans hg) (fun h=>by first | cases h | (simp [undef] at h)));have hG:((((((((!(shO ka))||((((ra.length:Nat):Int)) != (shA ka)))||((shN ka)&&(!(idn sa))))||((!(shN ka))&&(!decide ((sa)=((⟨([]).toArray⟩:ByteArray))))))||(!(num1 na 0)))||((!(shM ka))&&((na) != (0))))=false)∧((!(shB ka))=true)):=⟨hP,Value.bool.inj (((hd.2.1 rfl).1 hP).symm.trans hg)⟩;rn_gtr_3 (ev ((hd.1 rfl).1 hG)) rfl (Zs hG),fun hn=>⟨fun hG=>absurd (((hd.2.1 rfl).1 hG.1).trans (congrArg Value.bool hG.2)) hn,fun _=>rfl⟩⟩
   ·intro u w hR hd;exact⟨fun hg=>have hG:(((((((!(shO ka))||((((ra.length:Nat):Int)) != (shA ka)))||((shN ka)&&(!(idn sa))))||((!(shN ka))&&(!decide ((sa)=((⟨([]).toArray⟩:ByteArray))))))||(!(num1 na 0)))||((!(shM ka))&&((na) != (0))))=false):=Value.bool.inj ((hd.2.2.1 rfl).symm.trans hg);runs_an (ev ((hd.1 rfl).1 hG)) (fun hb=>ev ((hd.2.1 rfl).1 ⟨hG,hb⟩)) (Zs hG),Zn (hd.2.2.1 rfl)⟩
   ·intro u w hR hd;exact runs_or2 (ev (hd.1 rfl)) (fun hb=>ev ((hd.2.1 rfl).1 hb)) Zr
   ·intro u w hR hd;exact runs_mv (ev (hd.1 rfl)) Zr
   ·intro u w hR hd;exact⟨fun hg=>have hG:((((((((!(shO ka))||((((ra.length:Nat):Int)) != (shA ka)))||((shN ka)&&(!(idn sa))))||((!(shN ka))&&(!decide ((sa)=((⟨([]).toArray⟩:ByteArray))))))||(!(num1 na 0)))||((!(shM ka))&&((na) != (0))))||((!(shB ka))&&(decide ((0) < (((ya.length:Nat):Int))))))=false):=Value.bool.inj ((hd.1 rfl).symm.trans hg);rn_fld_167_3 (ev rfl) (Zs hG),Zn (hd.1 rfl)⟩
   ·intro u w hR hd;exact⟨fun hg=>have hG:((((((((!(shO ka))||((((ra.length:Nat):Int)) != (shA ka)))||((shN ka)&&(!(idn sa))))||((!(shN ka))&&(!decide ((sa)=((⟨([]).toArray⟩:ByteArray))))))||(!(num1 na 0)))||((!(shM ka))&&((na) != (0))))||((!(shB ka))&&(decide ((0) < (((ya.length:Nat):Int))))))=false):=Value.bool.inj ((hd.2.1 rfl).symm.trans hg);rn_ld_4 (ev ((hd.1 rfl).1 hG)) (e3.kept hR) (Zs hG),Zn (hd.2.1 rfl)⟩
   ·intro u w hR hd;exact⟨fun hg=>have hG:((((((((!(shO ka))||((((ra.length:Nat):Int)) != (shA ka)))||((shN ka)&&(!(idn sa))))||((!(shN ka))&&(!decide ((sa)=((⟨([]).toArray⟩:ByteArray))))))||(!(num1 na 0)))||((!(shM ka))&&((na) != (0))))||((!(shB ka))&&(decide ((0) < (((ya.length:Nat):Int))))))=false):=Value.bool.inj ((hd.2.1 rfl).symm.trans hg);runs_nt (ev ((hd.1 rfl).1 hG)) (Zs hG),Zn (hd.2.1 rfl)⟩
   ·intro u w hR hd;exact⟨fun hg=>have hG:((((((((!(shO ka))||((((ra.length:Nat):Int)) != (shA ka)))||((shN ka)&&(!(idn sa))))||((!(shN ka))&&(!decide ((sa)=((⟨([]).toArray⟩:ByteArray))))))||(!(num1 na 0)))||((!(shM ka))&&((na) != (0))))||((!(shB ka))&&(decide ((0) < (((ya.length:Nat):Int))))))=false):=Value.bool.inj ((hd.2.1 rfl).symm.trans hg);runs_mv (ev ((hd.1 rfl).1 hG)) (Zs hG),Zn (hd.2.1 rfl)⟩
   ·intro u w hR hd;exact⟨fun hg=>have hP:((((((((!(shO ka))||((((ra.length:Nat):Int)) != (shA ka)))||((shN ka)&&(!(idn sa))))||((!(shN ka))&&(!decide ((sa)=((⟨([]).toArray⟩:ByteArray))))))||(!(num1 na 0)))||((!(shM ka))&&((na) != (0))))||((!(shB ka))&&(decide ((0) < (((ya.length:Nat):Int))))))=false):=Classical.byContradiction (fun hnp=>absurd (((hd.1 rfl).2 hnp).symm.trans hg) (fun h=>by first | cases h | (simp [undef] at h)));have hG:(((((((((!(shO ka))||((((ra.length:Nat):Int)) != (shA ka)))||((shN ka)&&(!(idn sa))))||((!(shN ka))&&(!decide ((sa)=((⟨([]).toArray⟩:ByteArray))))))||(!(num1 na 0)))||((!(shM ka))&&((na) != (0))))||((!(shB ka))&&(decide ((0) < (((ya.length:Nat):Int))))))=false)∧((!(shE ka))=true)):=⟨hP,Value.bool.inj (((hd.1 rfl).1 hP).symm.trans hg)⟩;rn_fld_49_5 (ev rfl) (Zs hG),fun hn=>⟨fun hG=>absurd (((hd.1 rfl).1 hG.1).trans (congrArg Value.bool hG.2)) hn,fun _=>rfl⟩⟩
   ·intro u w hR hd;exact⟨fun hg=>have hP:((((((((!(shO ka))||((((ra.length:Nat):Int)) != (shA ka)))||((shN ka)&&(!(idn sa))))||((!(shN ka))&&(!decide ((sa)=((⟨([]).toArray⟩:ByteArray))))))||(!(num1 na 0)))||((!(shM ka))&&((na) != (0))))||((!(shB ka))&&(decide ((0) < (((ya.length:Nat):Int))))))=false):=Classical.byContradiction (fun hnp=>absurd (((hd.2.1 rfl).2 hnp).symm.trans hg) (fun h=>by first | cases h | (simp [undef] at h)));have hG:(((((((((!(shO ka))||((((ra.length:Nat):Int)) != (shA ka)))||((shN ka)&&(!(idn sa))))||((!(shN ka))&&(!decide ((sa)=((⟨([]).toArray⟩:ByteArray))))))||(!(num1 na 0)))||((!(shM ka))&&((na) != (0))))||((!(shB ka))&&(decide ((0) < (((ya.length:Nat):Int))))))=false)∧((!(shE ka))=true)):=⟨hP,Value.bool.inj (((hd.2.1 rfl).1 hP).symm.trans hg)⟩;rn_ld_40 (ev ((hd.1 rfl).1 hG)) (d5.kept hR) (Zs hG),fun hn=>⟨fun hG=>absurd (((hd.2.1 rfl).1 hG.1).trans (congrArg Value.bool hG.2)) hn,fun _=>rfl⟩⟩
   ·intro u w hR hd;exact⟨fun hg=>have hP:((((((((!(shO ka))||((((ra.length:Nat):Int)) != (shA ka)))||((shN ka)&&(!(idn sa))))||((!(shN ka))&&(!decide ((sa)=((⟨([]).toArray⟩:ByteArray))))))||(!(num1 na 0)))||((!(shM ka))&&((na) != (0))))||((!(shB ka))&&(decide ((0) < (((ya.length:Nat):Int))))))=false):=Classical.byContradiction (fun hnp=>absurd (((hd.2.1 rfl).2 hnp).symm.trans hg) (fun h=>by first | cases h | (simp [undef] at h)));have hG:(((((((((!(shO ka))||((((ra.length:Nat):Int)) != (shA ka)))||((shN ka)&&(!(idn sa))))||((!(shN ka))&&(!decide ((sa)=((⟨([]).toArray⟩:ByteArray))))))||(!(num1 na 0)))||((!(shM ka))&&((na) != (0))))||((!(shB ka))&&(decide ((0) < (((ya.length:Nat):Int))))))=false)∧((!(shE ka))=true)):=⟨hP,Value.bool.inj (((hd.2.1 rfl).1 hP).symm.trans hg)⟩;rn_len_40 (ev ((hd.1 rfl).1 hG)) (Zs hG),fun hn=>⟨fun hG=>absurd (((hd.2.1 rfl).1 hG.1).trans (congrArg Value.bool hG.2)) hn,fun _=>rfl⟩⟩
   ·intro u w hR hd;exact⟨fun hg=>have hP:((((((((!(shO ka))||((((ra.length:Nat):Int)) != (shA ka)))||((shN ka)&&(!(idn sa))))||((!(shN ka))&&(!decide ((sa)=((⟨([]).toArray⟩:ByteArray))))))||(!(num1 na 0)))||((!(shM ka))&&((na) != (0))))||((!(shB ka))&&(decide ((0) < (((ya.length:Nat):Int))))))=false):=Classical.byContradiction (fun hnp=>absurd (((hd.2.1 rfl).2 hnp).symm.trans hg) (fun h=>by first | cases h | (simp [undef] at h)));have hG:(((((((((!(shO ka))||((((ra.length:Nat):Int)) != (shA ka)))||((shN ka)&&(!(idn sa))))||((!(shN ka))&&(!decide ((sa)=((⟨([]).toArray⟩:ByteArray))))))||(!(num1 na 0)))||((!(shM ka))&&((na) != (0))))||((!(shB ka))&&(decide ((0) < (((ya.length:Nat):Int))))))=false)∧((!(shE ka))=true)):=⟨hP,Value.bool.inj (((hd.2.1 rfl).1 hP).symm.trans hg)⟩;rn_gtr_3 (ev ((hd.1 rfl).1 hG)) rfl (Zs hG),fun hn=>⟨fun hG=>absurd (((hd.2.1 rfl).1 hG.1).trans (congrArg Value.bool hG.2)) hn,fun _=>rfl⟩⟩
   ·intro u w hR hd;exact⟨fun hg=>have hG:((((((((!(shO ka))||((((ra.length:Nat):Int)) != (shA ka)))||((shN ka)&&(!(idn sa))))||((!(shN ka))&&(!decide ((sa)=((⟨([]).toArray⟩:ByteArray))))))||(!(num1 na 0)))||((!(shM ka))&&((na) != (0))))||((!(shB ka))&&(decide ((0) < (((ya.length:Nat):Int))))))=false):=Value.bool.inj ((hd.2.2.1 rfl).symm.trans hg);runs_an (ev ((hd.1 rfl).1 hG)) (fun hb=>ev ((hd.2.1 rfl).1 ⟨hG,hb⟩)) (Zs hG),Zn (hd.2.2.1 rfl)⟩
   ·intro u w hR hd;exact runs_or2 (ev (hd.1 rfl)) (fun hb=>ev ((hd.2.1 rfl).1 hb)) Zr
   ·intro u w4 hR h
    have he:u 88=.bool ((((((((!(shO ka))||((((ra.length:Nat):Int)) != (shA ka)))||((shN ka)&&(!(idn sa))))||((!(shN ka))&&(!decide ((sa)=((⟨([]).toArray⟩:ByteArray))))))||(!(num1 na 0)))||((!(shM ka))&&((na) != (0))))||((!(shB ka))&&(decide ((0) < (((ya.length:Nat):Int))))))||((!(shE ka))&&(decide ((0) < (((ea.length:Nat):Int)))))):=h 67 (by decide)
    have hE:((((((((!(shO ka))||((((ra.length:Nat):Int)) != (shA ka)))||((shN ka)&&(!(idn sa))))||((!(shN ka))&&(!decide ((sa)=((⟨([]).toArray⟩:ByteArray))))))||(!(num1 na 0)))||((!(shM ka))&&((na) != (0))))||((!(shB ka))&&(decide ((0) < (((ya.length:Nat):Int))))))||((!(shE ka))&&(decide ((0) < (((ea.length:Nat):Int))))))=!hdS ka sa na ra.length ya.length ea.length:=by rw [hdS,Bool.not_not]
    rw [hE] at he
    simp only [mixA,mixL,zz9,zz0,he]
    have HG4:Hid (Grew w w4):=Lib.hid (HGV.out.trans hR)
    have HB4:=Lib.hid (HB.out.grew hR)
    clear h he hE d0 d1 d2 d3 d4 d5 e0 e1 e2 e3 e4 hR HGV HB
    generalize w4=W4 at HG4 HB4 ⊢
    cases hh:hdS ka sa na ra.length ya.length ea.length with
    | false =>
      have HF2:=Lib.hid (HF.out (by rw [hh,Bool.false_and]))
      clear HF
      go_wp2
      go_ret
      exact⟨ret_bool HF2.out.symm,HG4.out⟩
    | true =>
      rw [hh,Bool.true_and] at HF HOKS
      have r3:W4.cell? ⟨S1,3,none⟩=some (.slice paa ra.length caa):=HB4.out.cell 3
      go_wp2
      clear r3
      go_loopg [8,92] ra.length (fun gg bv iv wr=>∃(i:Nat),iv=.int .i64 (i:Int)∧i≤ra.length∧gg=ra.length - i∧Hid (okXs (ra.take i)=true)∧Hid (Grew W4 wr))
      case atStart=>exact⟨0,rfl,Nat.zero_le _,rfl,Lib.hid rfl,Lib.hid (Grew.refl _)⟩
      case round =>
       obtain ⟨i,rfl,hi,rfl,HI2,HGr⟩:=hrel
       have HG5:=Lib.hid (HG4.out.trans HGr.out)
       by_cases hlt:i < ra.length
       ·
        obtain ⟨bz,oz,pz,cz,rfl,hbz,haz,hcz⟩:=HAa.out.get i hlt
        have hmz:=List.getElem_mem hlt
        have hnz:=nXs_mem hmz
        have htz:=List.take_succ_eq_append_getElem hlt
        have HLz:=Lib.hid (Nat.succ_le_of_lt hlt)
        generalize ra[i]=xz at *
        obtain ⟨kz,sz,vz,o_z,rz,qz⟩:=xz
        replace hbz:sz.size≤1048576∧vz≤32767:=hbz.2
        have HTz:=Lib.hid htz
        have HAz:Hid (XL B w pz cz rz):=Lib.hid haz
        have hcapz:rz.length≤cz:=haz.cap.1
        have hmaxz:=haz.cap.2.1
        replace hcz:∀i_ u_,(xdc ⟨kz,sz,vz,o_z,pz,rz.length,cz,qz⟩)[i_]?=some u_→wr.cell? ⟨bz,oz+i * 6+i_,none⟩=some u_:=fun i_ u_ h_=>Atv.kept (hcz i_ u_ h_) HG5.out
        have cz0:wr.cell? ⟨bz,oz+i * 6,none⟩=some (.int .i64 kz):=by simpa using hcz 0 _ rfl
        have cz1:wr.cell? ⟨bz,oz+i * 6+1,none⟩=some (.string sz):=hcz 1 _ rfl
        have cz2:wr.cell? ⟨bz,oz+i * 6+2,none⟩=some (.int .i16 vz):=hcz 2 _ rfl
        have cz3:wr.cell? ⟨bz,oz+i * 6+3,none⟩=some (.int .i64 o_z):=hcz 3 _ rfl
        have cz4:wr.cell? ⟨bz,oz+i * 6+4,none⟩=some (.slice pz rz.length cz):=hcz 4 _ rfl
        have cz5:wr.cell? ⟨bz,oz+i * 6+5,none⟩=some (.int .i64 qz):=hcz 5 _ rfl
        clear hcz haz htz
        obtain ⟨d,hd⟩:∃d,okX ⟨kz,sz,vz,o_z,rz,qz⟩=d:=⟨_,rfl⟩
        have HD:=Lib.hid hd
        have HNO:=Lib.hid (fun(h:d=false)=>(show b=false from HF.out (by rw [okXs_no hmz (hd.trans h),Bool.false_and])))
        have HIH:=Lib.hid (fun W (hW:Grew w W)=>(show Calls Tryz.prog 50 #[xv kz sz vz o_z pz rz.length cz qz] W fun e w'=>e=.returned (.bool d)∧Grew W w' from hd ▸ exok_any ⟨kz,sz,vz,o_z,rz,qz⟩ B W pz cz hbz.1 (HAz.out.kept hW)))
        clear hmz hnz hd
        cases d with
        | false =>
          have HN2:Hid (b=false):=Lib.hid (HNO.out rfl)
          clear HNO
          go_wp2_with (go_at_call 50;(with_reducible refine(HIH.out _ (HG5.out.alloc _)).mono ?_);rintro e w6 ⟨rfl,g6⟩;have HG6:=Lib.hid ((HG5.out.alloc _).trans g6);clear g6)
          go_ret
          exact⟨ret_bool HN2.out.symm,HG6.out⟩
        | true =>
          go_wp2_with (go_at_call 50;(with_reducible refine(HIH.out _ (HG5.out.alloc _)).mono ?_);rintro e w6 ⟨rfl,g6⟩;have HG6:=Lib.hid ((HGr.out.alloc _).trans g6);clear g6)
          go_roundg (ra.length - (i+1))
          case measure=>have:=HLz.out;omega
          case rel=>exact⟨i+1,by go_num,HLz.out,rfl,Lib.hid (by rw [okXs_snoc HTz.out,HI2.out,HD.out];rfl),HG6⟩
       ·obtain rfl:i=ra.length:=by omega
        rw [List.take_length] at HI2
        rw [HI2.out,Bool.true_and] at HF HOKS
        have HB5:=Lib.hid (HB4.out.grew HGr.out)
        have r4:wr.cell? ⟨S1,4,none⟩=some (.slice pba ya.length cba):=HB5.out.cell 4
        have r5:wr.cell? ⟨S1,5,none⟩=some (.slice pea ea.length cea):=HB5.out.cell 5
        cases m1 with
        | false =>
          have HN2:Hid (b=false):=Lib.hid (HF.out rfl)
          clear HF
          go_wp2_with (go_at_call 116;(with_reducible refine(HIY.out _ HG5.out).mono ?_);rintro e w6 ⟨rfl,g6⟩;have HG6:=Lib.hid (HG5.out.trans g6);clear g6)
          go_ret
          exact⟨ret_bool HN2.out.symm,HG6.out⟩
        | true =>
          cases m2 with
          | false =>
            have HN2:Hid (b=false):=Lib.hid (HF.out rfl)
            clear HF
            go_wp2_with (first
             | (go_at_call 116;(with_reducible refine(HIY.out _ HG5.out).mono ?_);rintro e w6 ⟨rfl,g6⟩;have HG6:=Lib.hid (HG5.out.trans g6);have s5:w6.cell? ⟨S1,5,none⟩=some (.slice pea ea.length cea):=(HB5.out.grew g6).cell 5;clear g6)
             | (go_at_call 116;(with_reducible refine(HIE.out _ HG6.out).mono ?_);rintro e w7 ⟨rfl,g7⟩;have HG7:=Lib.hid (HG6.out.trans g7);clear g7))
            go_ret
            exact⟨ret_bool HN2.out.symm,HG7.out⟩
          | true =>
            clear HF
            go_wp2_with (first
             | (go_at_call 116;(with_reducible refine(HIY.out _ HG5.out).mono ?_);rintro e w6 ⟨rfl,g6⟩;have HG6:=Lib.hid (HG5.out.trans g6);have s5:w6.cell? ⟨S1,5,none⟩=some (.slice pea ea.length cea):=(HB5.out.grew g6).cell 5;clear g6)
             | (go_at_call 116;(with_reducible refine(HIE.out _ HG6.out).mono ?_);rintro e w7 ⟨rfl,g7⟩;have HG7:=Lib.hid (HG6.out.trans g7);clear g7))
            go_roundg (l.length - (j+1))
            case measure=>have:=HLa.out;omega
            case rel=>exact⟨j+1,by go_num,HLa.out,rfl,Lib.hid (by rw [okSs_snoc HTa.out,HI.out,HOKS.out];rfl),HG7⟩
  ·obtain rfl:j=l.length:=by omega
   rw [List.take_length] at HI
   go_wp2
   go_ret
   exact⟨ret_bool (HI.out.symm.trans HOK.out),HG.out⟩
end Go.Proofs.YtcknpcbkofgdoaaGreatDoor
namespace Go.Proofs.YtcknpcbkofgdoaaGreatDoor
open Go Go.RowKit Go.IntWalk
set_option linter.unusedSimpArgs false
set_option linter.unusedVariables false
set_option maxRecDepth 8000
section
variable {dst:Option Tmp}{ty:TypeId}{pos:String}{after:Array Edge}{g:Option (Nat × Bool)}{a:Act}{w:World}{T:Value→World→Prop}
theorem rn_fld_42_0 {x:Operand}{S o:Nat}(hx:a.eval x=.pointer (some ⟨S,o,none⟩)) (h:T (.pointer (some ⟨S,o,none⟩)) w):Runs Tryz.prog ⟨dst,.fieldAddr 42 x 0,ty,pos,after,g⟩ a w T:=by
 refine Runs.value (v:=.pointer (some ⟨S,o,none⟩)) (w':=w) ?_ h
 simp only [execOp,hx]
 go_simp
theorem rn_fld_42_2 {x:Operand}{S o:Nat}(hx:a.eval x=.pointer (some ⟨S,o,none⟩)) (h:T (.pointer (some ⟨S,o+2,none⟩)) w):Runs Tryz.prog ⟨dst,.fieldAddr 42 x 2,ty,pos,after,g⟩ a w T:=by
 refine Runs.value (v:=.pointer (some ⟨S,o+2,none⟩)) (w':=w) ?_ h
 simp only [execOp,hx]
 go_simp
theorem rn_fld_42_1 {x:Operand}{S o:Nat}(hx:a.eval x=.pointer (some ⟨S,o,none⟩)) (h:T (.pointer (some ⟨S,o+1,none⟩)) w):Runs Tryz.prog ⟨dst,.fieldAddr 42 x 1,ty,pos,after,g⟩ a w T:=by
 refine Runs.value (v:=.pointer (some ⟨S,o+1,none⟩)) (w':=w) ?_ h
 simp only [execOp,hx]
 go_simp
theorem rn_fld_42_3 {x:Operand}{S o:Nat}(hx:a.eval x=.pointer (some ⟨S,o,none⟩)) (h:T (.pointer (some ⟨S,o+3,none⟩)) w):Runs Tryz.prog ⟨dst,.fieldAddr 42 x 3,ty,pos,after,g⟩ a w T:=by
 refine Runs.value (v:=.pointer (some ⟨S,o+3,none⟩)) (w':=w) ?_ h
 simp only [execOp,hx]
 go_simp
theorem rn_eqs_9 {o1 o2:Operand}{b c:ByteArray}(hx:a.eval o1=.string b) (hy:a.eval o2=.string c) (h:T (.bool (decide (b=c))) w):Runs Tryz.prog ⟨dst,.binOp .eql 9 o1 o2 9,ty,pos,after,g⟩ a w T:=by
 have hs:(b.toList==c.toList)=decide (b=c):=by
  rw [ByteArray.toList_eq,ByteArray.toList_eq,Bool.eq_iff_iff,beq_iff_eq,decide_eq_true_iff]
  exact⟨fun h=>by cases b;cases c;simp at h;rw [h],fun h=>by rw [h]⟩
 refine Runs.value (v:=.bool (decide (b=c))) (w':=w) ?_ h
 rw [← hs]
 simp only [execOp,hx,hy]
 go_simp
theorem rn_fld_42_4 {x:Operand}{S o:Nat}(hx:a.eval x=.pointer (some ⟨S,o,none⟩)) (h:T (.pointer (some ⟨S,o+4,none⟩)) w):Runs Tryz.prog ⟨dst,.fieldAddr 42 x 4,ty,pos,after,g⟩ a w T:=by
 refine Runs.value (v:=.pointer (some ⟨S,o+4,none⟩)) (w':=w) ?_ h
 simp only [execOp,hx]
 go_simp
theorem rn_fld_42_5 {x:Operand}{S o:Nat}(hx:a.eval x=.pointer (some ⟨S,o,none⟩)) (h:T (.pointer (some ⟨S,o+5,none⟩)) w):Runs Tryz.prog ⟨dst,.fieldAddr 42 x 5,ty,pos,after,g⟩ a w T:=by
 refine Runs.value (v:=.pointer (some ⟨S,o+5,none⟩)) (w':=w) ?_ h
 simp only [execOp,hx]
 go_simp
theorem rn_eql_3 {o1 o2:Operand}{b c:Int}(hx:a.eval o1=.int .i64 b) (hy:a.eval o2=.int .i64 c) (h:T (.bool (b==c)) w):Runs Tryz.prog ⟨dst,.binOp .eql 3 o1 o2 3,ty,pos,after,g⟩ a w T:=by
 refine Runs.value (v:=.bool (b==c)) (w':=w) ?_ h
 simp only [execOp,hx,hy]
 go_simp
end
def hdT (s:ByteArray) (d:Int) (y:List Sm):Bool:=!(((!(idn s))||(!(num1 d 0)))||(!(okSs y)))
def tlT (i:Int) (h m:ByteArray) (n:Int):Bool:=if i=0 then (((idn h)&&(idn m))&&(num1 n 0)) else ((((num1 i 1)&&(decide ((h)=((⟨([]).toArray⟩:ByteArray)))))&&(decide ((m)=((⟨([]).toArray⟩:ByteArray)))))&&((n)==(0)))
def okT (t:Ta):Bool:=hdT t.s t.d t.b&&tlT t.p t.c t.m t.w
theorem enters_so:Enters Tryz.prog 116:=fun args w=>by go_simp
abbrev tv (s:ByteArray) (i d:Int) (h m:ByteArray) (n:Int) (bp:Option Addr) (bn bc:Nat) (q:Int):Value:=.agg #[.string s,.int .i64 i,.int .i64 d,.string h,.string m,.int .i64 n,.slice bp bn bc,.int .i64 q]
set_option maxHeartbeats 8000000 in
theorem taskok_any (s:ByteArray) (i d:Int) (h m:ByteArray) (n:Int) (y:List Sm) (q:Int) (B:Nat→Prop) (w:World) (bp:Option Addr) (bc:Nat) (hs:s.size≤1048576) (hh:h.size≤1048576) (hm:m.size≤1048576) (hy:SL B w bp bc y) :
 Calls Tryz.prog 64 #[tv s i d h m n bp y.length bc q] w fun e w'=>e=.returned (.bool (okT ⟨s,i,d,h,m,n,y,q⟩))∧Grew w w':=by
 have HIS:=Lib.hid (fun W=>ident_any s hs W)
 have HIH:=Lib.hid (fun W=>ident_any h hh W)
 have HIM:=Lib.hid (fun W=>ident_any m hm W)
 have HSY:=Lib.hid (fun W (hW:Grew w W)=>stok_any _ y (Nat.lt_succ_self _) B W bp bc (hy.kept hW))
 have hcap:y.length≤bc:=hy.cap.1
 have hmax:=hy.cap.2.1
 obtain ⟨b,hb⟩:∃b,okT ⟨s,i,d,h,m,n,y,q⟩=b:=⟨_,rfl⟩
 rw [hb]
 replace hb:(hdT s d y&&tlT i h m n)=b:=hb
 have HOK:=Lib.hid hb
 clear hs hh hm hy hb
 go_enter Tryz.func64,Tryz.ntmps64
 go_upto_region 1 with fail
 have hb1:Blk w.heap.size [.string s,.int .i64 i,.int .i64 d,.string h,.string m,.int .i64 n,.slice bp y.length bc,.int .i64 q] 42 (w.alloc (Obj.cells #[.string s,.int .i64 i,.int .i64 d,.string h,.string m,.int .i64 n,.slice bp y.length bc,.int .i64 q] 42)):=Blk.new w _ _
 have hgV:Grew w (w.alloc (Obj.cells #[.string s,.int .i64 i,.int .i64 d,.string h,.string m,.int .i64 n,.slice bp y.length bc,.int .i64 q] 42)):=(Grew.refl w).alloc _
 generalize (w.alloc (Obj.cells #[.string s,.int .i64 i,.int .i64 d,.string h,.string m,.int .i64 n,.slice bp y.length bc,.int .i64 q] 42))=V at hb1 hgV ⊢
 generalize w.heap.size=T at hb1 ⊢
 have HB:=Lib.hid hb1
 have HGV:=Lib.hid hgV
 have d0:Atv ⟨T,0,none⟩ (.string s) V:=(hb1).atv 0 rfl
 have d1:Atv ⟨T,1,none⟩ (.int .i64 i) V:=(hb1).atv 1 rfl
 have d2:Atv ⟨T,2,none⟩ (.int .i64 d) V:=(hb1).atv 2 rfl
 have d3:Atv ⟨T,3,none⟩ (.string h) V:=(hb1).atv 3 rfl
 have d4:Atv ⟨T,4,none⟩ (.string m) V:=(hb1).atv 4 rfl
 have d5:Atv ⟨T,5,none⟩ (.int .i64 n) V:=(hb1).atv 5 rfl
 have d6:Atv ⟨T,6,none⟩ (.slice bp y.length bc) V:=(hb1).atv 6 rfl
 clear hb1 hgV
 refine wp_postsL [some 3,some 4,some 5,some 6,some 7,some 8,some 9,some 10,some 11,some 12,some 13,some 14,some 15,some 16,some 17,some 18] [Zf,Zf,Zf,Zt,Zt,Zt,Zt,Zt,Zt,Zt,Zt,Zt,Zt,Zt,Zt,Zt,Zt,Zt,Zt,Zf,Zf,Zf,Zf,Zf,Zf,Zf,Zf,Zf,Zf,Zf,Zf,Zf,Zf,Zf,Zf,Zf,Zf,Zf,Zf,Zf,Zf,Zf,Zf,Zf,Zf,Zf,Zf,Zf,Zf,Zf,Zf,Zf,Zf] [fun v _=>v=.pointer (some ⟨T,0,none⟩),fun v _=>v=.string s,fun v _=>v=.bool (idn s),fun v _=>v=.bool (!(idn s)),fun v _=>v=.bool (!(idn s)),fun v _=>(((!(idn s))=false)→v=.pointer (some ⟨T,2,none⟩))∧(¬ ((!(idn s))=false)→v=undef),fun v _=>(((!(idn s))=false)→v=.int .i64 (d))∧(¬ ((!(idn s))=false)→v=undef),fun v _=>(((!(idn s))=false)→v=.bool (num1 d 0))∧(¬ ((!(idn s))=false)→v=undef),fun v _=>(((!(idn s))=false)→v=.bool (!(num1 d 0)))∧(¬ ((!(idn s))=false)→v=undef),fun v _=>v=.bool ((!(idn s))||(!(num1 d 0))),fun v _=>v=.bool ((!(idn s))||(!(num1 d 0))),fun v _=>((((!(idn s))||(!(num1 d 0)))=false)→v=.pointer (some ⟨T,6,none⟩))∧(¬ (((!(idn s))||(!(num1 d 0)))=false)→v=undef),fun v _=>((((!(idn s))||(!(num1 d 0)))=false)→v=.slice bp (y.length) (bc))∧(¬ (((!(idn s))||(!(num1 d 0)))=false)→v=undef),fun v _=>((((!(idn s))||(!(num1 d 0)))=false)→v=.bool (okSs y))∧(¬ (((!(idn s))||(!(num1 d 0)))=false)→v=undef),fun v _=>((((!(idn s))||(!(num1 d 0)))=false)→v=.bool (!(okSs y)))∧(¬ (((!(idn s))||(!(num1 d 0)))=false)→v=undef),fun v _=>v=.bool (((!(idn s))||(!(num1 d 0)))||(!(okSs y)))] (by kernel_rfl) rfl ?_ ⟨?_,?_,?_,?_,?_,?_,?_,?_,?_,?_,?_,?_,?_,?_,?_,?_,trivial⟩ ?_
 ·exact⟨Zi,Zi,Zi,Zi,Zi,Zi,Zi,Zi,Zi,Zi,Zi,Zi,Zi,Zi,Zi,Zi,trivial⟩
 ·intro u w hR hd;exact rn_fld_42_0 (ev rfl) Zr
 ·intro u w hR hd;exact rn_ld_9 (ev (hd.1 rfl)) (d0.kept hR) Zr
 ·intro u w hR hd;exact runs_c1 enters_id (ev (hd.1 rfl)) (callp (fun _ e=>e) (HIS.out _))
 ·intro u w hR hd;exact runs_nt (ev (hd.1 rfl)) Zr
 ·intro u w hR hd;exact runs_mv (ev (hd.1 rfl)) Zr
 ·intro u w hR hd;exact⟨fun hg=>have hG:((!(idn s))=false):=Value.bool.inj ((hd.1 rfl).symm.trans hg);rn_fld_42_2 (ev rfl) (Zs hG),Zn (hd.1 rfl)⟩
 ·intro u w hR hd;exact⟨fun hg=>have hG:((!(idn s))=false):=Value.bool.inj ((hd.2.1 rfl).symm.trans hg);rn_ld_3 (ev ((hd.1 rfl).1 hG)) (d2.kept hR) (Zs hG),Zn (hd.2.1 rfl)⟩
 ·intro u w hR hd;exact⟨fun hg=>have hG:((!(idn s))=false):=Value.bool.inj ((hd.2.1 rfl).symm.trans hg);runs_c2 enters_nu (ev ((hd.1 rfl).1 hG)) rfl (callp (fun _ e=>⟨fun _=>e,fun hn=>absurd hG hn⟩) ((number_any d 0 _).mono fun e w9 h=>(⟨h.1,h.2 ▸ Grew.refl _⟩))),Zn (hd.2.1 rfl)⟩
 ·intro u w hR hd;exact⟨fun hg=>have hG:((!(idn s))=false):=Value.bool.inj ((hd.2.1 rfl).symm.trans hg);runs_nt (ev ((hd.1 rfl).1 hG)) (Zs hG),Zn (hd.2.1 rfl)⟩
 ·intro u w hR hd;exact runs_or2 (ev (hd.1 rfl)) (fun hb=>ev ((hd.2.1 rfl).1 hb)) Zr
 ·intro u w hR hd;exact runs_mv (ev (hd.1 rfl)) Zr
 ·intro u w hR hd;exact⟨fun hg=>have hG:(((!(idn s))||(!(num1 d 0)))=false):=Value.bool.inj ((hd.1 rfl).symm.trans hg);rn_fld_42_6 (ev rfl) (Zs hG),Zn (hd.1 rfl)⟩
 ·intro u w hR hd;exact⟨fun hg=>have hG:(((!(idn s))||(!(num1 d 0)))=false):=Value.bool.inj ((hd.2.1 rfl).symm.trans hg);rn_ld_40 (ev ((hd.1 rfl).1 hG)) (d6.kept hR) (Zs hG),Zn (hd.2.1 rfl)⟩
 ·intro u w hR hd;exact⟨fun hg=>have hG:(((!(idn s))||(!(num1 d 0)))=false):=Value.bool.inj ((hd.2.1 rfl).symm.trans hg);runs_c1 enters_so (ev ((hd.1 rfl).1 hG)) (callp (fun _ e=>⟨fun _=>e,fun hn=>absurd hG hn⟩) (HSY.out _ (HGV.out.trans hR))),Zn (hd.2.1 rfl)⟩
 ·intro u w hR hd;exact⟨fun hg=>have hG:(((!(idn s))||(!(num1 d 0)))=false):=Value.bool.inj ((hd.2.1 rfl).symm.trans hg);runs_nt (ev ((hd.1 rfl).1 hG)) (Zs hG),Zn (hd.2.1 rfl)⟩
 ·intro u w hR hd;exact runs_or2 (ev (hd.1 rfl)) (fun hb=>ev ((hd.2.1 rfl).1 hb)) Zr
 ·intro u w4 hR hh
  have he:u 18=.bool (((!(idn s))||(!(num1 d 0)))||(!(okSs y))):=hh 15 (by decide)
  have hE:(((!(idn s))||(!(num1 d 0)))||(!(okSs y)))=!hdT s d y:=by rw [hdT,Bool.not_not]
  rw [hE] at he
  simp only [mixA,mixL,zz9,zz0,he]
  have HG4:Hid (Grew w w4):=Lib.hid (HGV.out.trans hR)
  have HB4:=Lib.hid (HB.out.grew hR)
  clear hh he hE d0 d1 d2 d3 d4 d5 d6 hR HGV HB
  generalize w4=W4 at HG4 HB4 ⊢
  cases hh:hdT s d y with
  | false =>
    have HF2:Hid (b=false):=Lib.hid (by rw [← HOK.out,hh,Bool.false_and])
    go_wp2
    go_ret
    exact⟨ret_bool HF2.out.symm,HG4.out⟩
  | true =>
    rw [hh,Bool.true_and] at HOK
    have r1:W4.cell? ⟨T,1,none⟩=some (.int .i64 i):=HB4.out.cell 1
    by_cases hi:i=0
    ·have HT:Hid ((((idn h)&&(idn m))&&(num1 n 0))=b):=Lib.hid (by rw [← HOK.out,tlT,if_pos hi])
     have hi2:(i != 0)=false:=by rw [hi];rfl
     clear hi HOK
     go_upto_region 5 with fail
     have HB4b:=HB4.out
     have d0:Atv ⟨T,0,none⟩ (.string s) W4:=(HB4b).atv 0 rfl
     have d1:Atv ⟨T,1,none⟩ (.int .i64 i) W4:=(HB4b).atv 1 rfl
     have d2:Atv ⟨T,2,none⟩ (.int .i64 d) W4:=(HB4b).atv 2 rfl
     have d3:Atv ⟨T,3,none⟩ (.string h) W4:=(HB4b).atv 3 rfl
     have d4:Atv ⟨T,4,none⟩ (.string m) W4:=(HB4b).atv 4 rfl
     have d5:Atv ⟨T,5,none⟩ (.int .i64 n) W4:=(HB4b).atv 5 rfl
     have d6:Atv ⟨T,6,none⟩ (.slice bp y.length bc) W4:=(HB4b).atv 6 rfl
     clear r1 HB4b
     refine wp_postsL [some 40,some 41,some 42,some 43,some 44,some 45,some 46,some 47,some 48,some 49,some 50,some 51,some 52,some 2] [Zf,Zf,Zt,Zf,Zf,Zf,Zf,Zf,Zf,Zf,Zf,Zf,Zf,Zf,Zf,Zf,Zf,Zf,Zf,Zf,Zf,Zf,Zf,Zf,Zf,Zf,Zf,Zf,Zf,Zf,Zf,Zf,Zf,Zf,Zf,Zf,Zf,Zf,Zf,Zf,Zt,Zt,Zt,Zt,Zt,Zt,Zt,Zt,Zt,Zt,Zt,Zt,Zt] [fun v _=>v=.pointer (some ⟨T,3,none⟩),fun v _=>v=.string h,fun v _=>v=.bool (idn h),fun v _=>v=.bool (idn h),fun v _=>(((idn h)=true)→v=.pointer (some ⟨T,4,none⟩))∧(¬ ((idn h)=true)→v=undef),fun v _=>(((idn h)=true)→v=.string m)∧(¬ ((idn h)=true)→v=undef),fun v _=>(((idn h)=true)→v=.bool (idn m))∧(¬ ((idn h)=true)→v=undef),fun v _=>v=.bool ((idn h)&&(idn m)),fun v _=>v=.bool ((idn h)&&(idn m)),fun v _=>((((idn h)&&(idn m))=true)→v=.pointer (some ⟨T,5,none⟩))∧(¬ (((idn h)&&(idn m))=true)→v=undef),fun v _=>((((idn h)&&(idn m))=true)→v=.int .i64 (n))∧(¬ (((idn h)&&(idn m))=true)→v=undef),fun v _=>((((idn h)&&(idn m))=true)→v=.bool (num1 n 0))∧(¬ (((idn h)&&(idn m))=true)→v=undef),fun v _=>v=.bool (((idn h)&&(idn m))&&(num1 n 0)),fun v _=>v=.bool (((idn h)&&(idn m))&&(num1 n 0))] (by kernel_rfl) rfl ?_ ⟨?_,?_,?_,?_,?_,?_,?_,?_,?_,?_,?_,?_,?_,?_,trivial⟩ ?_
     ·exact⟨Zi,Zi,Zi,Zi,Zi,Zi,Zi,Zi,Zi,Zi,Zi,Zi,Zi,Zi,trivial⟩
     ·intro u w hR hd;exact rn_fld_42_3 (ev rfl) Zr
     ·intro u w hR hd;exact rn_ld_9 (ev (hd.1 rfl)) (d3.kept hR) Zr
     ·intro u w hR hd;exact runs_c1 enters_id (ev (hd.1 rfl)) (callp (fun _ e=>e) (HIH.out _))
     ·intro u w hR hd;exact runs_mv (ev (hd.1 rfl)) Zr
     ·intro u w hR hd;exact⟨fun hg=>have hG:((idn h)=true):=Value.bool.inj ((hd.1 rfl).symm.trans hg);rn_fld_42_4 (ev rfl) (Zs hG),Zn (hd.1 rfl)⟩
     ·intro u w hR hd;exact⟨fun hg=>have hG:((idn h)=true):=Value.bool.inj ((hd.2.1 rfl).symm.trans hg);rn_ld_9 (ev ((hd.1 rfl).1 hG)) (d4.kept hR) (Zs hG),Zn (hd.2.1 rfl)⟩
     ·intro u w hR hd;exact⟨fun hg=>have hG:((idn h)=true):=Value.bool.inj ((hd.2.1 rfl).symm.trans hg);runs_c1 enters_id (ev ((hd.1 rfl).1 hG)) (callp (fun _ e=>⟨fun _=>e,fun hn=>absurd hG hn⟩) (HIM.out _)),Zn (hd.2.1 rfl)⟩
     ·intro u w hR hd;exact runs_an (ev (hd.1 rfl)) (fun hb=>ev ((hd.2.1 rfl).1 hb)) Zr
     ·intro u w hR hd;exact runs_mv (ev (hd.1 rfl)) Zr
     ·intro u w hR hd;exact⟨fun hg=>have hG:(((idn h)&&(idn m))=true):=Value.bool.inj ((hd.1 rfl).symm.trans hg);rn_fld_42_5 (ev rfl) (Zs hG),Zn (hd.1 rfl)⟩
     ·intro u w hR hd;exact⟨fun hg=>have hG:(((idn h)&&(idn m))=true):=Value.bool.inj ((hd.2.1 rfl).symm.trans hg);rn_ld_3 (ev ((hd.1 rfl).1 hG)) (d5.kept hR) (Zs hG),Zn (hd.2.1 rfl)⟩
     ·intro u w hR hd;exact⟨fun hg=>have hG:(((idn h)&&(idn m))=true):=Value.bool.inj ((hd.2.1 rfl).symm.trans hg);runs_c2 enters_nu (ev ((hd.1 rfl).1 hG)) rfl (callp (fun _ e=>⟨fun _=>e,fun hn=>absurd hG hn⟩) ((number_any n 0 _).mono fun e w9 h=>(⟨h.1,h.2 ▸ Grew.refl _⟩))),Zn (hd.2.1 rfl)⟩
     ·intro u w hR hd;exact runs_an (ev (hd.1 rfl)) (fun hb=>ev ((hd.2.1 rfl).1 hb)) Zr
     ·intro u w hR hd;exact runs_mva (ev (hd.1 rfl)) Zr
     ·intro u w5 hR hh
      have he:u 52=.bool (((idn h)&&(idn m))&&(num1 n 0)):=hh 12 (by decide)
      have he2:u 2=.bool (((idn h)&&(idn m))&&(num1 n 0)):=hh 13 (by decide)
      rw [HT.out] at he2
      simp only [mixA,mixL,zz9,zz0,he2]
      have HG5:Hid (Grew w w5):=Lib.hid (HG4.out.trans hR)
      clear hh he he2 hR d0 d1 d2 d3 d4 d5 d6
      go_wp2
      go_ret
      exact⟨rfl,HG5.out⟩
    ·have HT:Hid (((((num1 i 1)&&(decide ((h)=((⟨([]).toArray⟩:ByteArray)))))&&(decide ((m)=((⟨([]).toArray⟩:ByteArray)))))&&((n)==(0)))=b):=Lib.hid (by rw [← HOK.out,tlT,if_neg hi])
     have hi2:(i != 0)=true:=by simpa using hi
     clear hi HOK
     go_upto_region 4 with fail
     have HB4b:=HB4.out
     have d0:Atv ⟨T,0,none⟩ (.string s) W4:=(HB4b).atv 0 rfl
     have d1:Atv ⟨T,1,none⟩ (.int .i64 i) W4:=(HB4b).atv 1 rfl
     have d2:Atv ⟨T,2,none⟩ (.int .i64 d) W4:=(HB4b).atv 2 rfl
     have d3:Atv ⟨T,3,none⟩ (.string h) W4:=(HB4b).atv 3 rfl
     have d4:Atv ⟨T,4,none⟩ (.string m) W4:=(HB4b).atv 4 rfl
     have d5:Atv ⟨T,5,none⟩ (.int .i64 n) W4:=(HB4b).atv 5 rfl
     have d6:Atv ⟨T,6,none⟩ (.slice bp y.length bc) W4:=(HB4b).atv 6 rfl
     clear r1 HB4b
     refine wp_postsL [some 22,some 23,some 24,some 25,some 26,some 27,some 28,some 29,some 30,some 31,some 32,some 33,some 34,some 35,some 36,some 37,some 38,some 39,some 2] [Zf,Zf,Zt,Zf,Zf,Zf,Zf,Zf,Zf,Zf,Zf,Zf,Zf,Zf,Zf,Zf,Zf,Zf,Zf,Zf,Zf,Zf,Zt,Zt,Zt,Zt,Zt,Zt,Zt,Zt,Zt,Zt,Zt,Zt,Zt,Zt,Zt,Zt,Zt,Zt,Zf,Zf,Zf,Zf,Zf,Zf,Zf,Zf,Zf,Zf,Zf,Zf,Zf] [fun v _=>v=.pointer (some ⟨T,1,none⟩),fun v _=>v=.int .i64 (i),fun v _=>v=.bool (num1 i 1),fun v _=>v=.bool (num1 i 1),fun v _=>(((num1 i 1)=true)→v=.pointer (some ⟨T,3,none⟩))∧(¬ ((num1 i 1)=true)→v=undef),fun v _=>(((num1 i 1)=true)→v=.string h)∧(¬ ((num1 i 1)=true)→v=undef),fun v _=>(((num1 i 1)=true)→v=.bool (decide ((h)=((⟨([]).toArray⟩:ByteArray)))))∧(¬ ((num1 i 1)=true)→v=undef),fun v _=>v=.bool ((num1 i 1)&&(decide ((h)=((⟨([]).toArray⟩:ByteArray))))),fun v _=>v=.bool ((num1 i 1)&&(decide ((h)=((⟨([]).toArray⟩:ByteArray))))),fun v _=>((((num1 i 1)&&(decide ((h)=((⟨([]).toArray⟩:ByteArray)))))=true)→v=.pointer (some ⟨T,4,none⟩))∧(¬ (((num1 i 1)&&(decide ((h)=((⟨([]).toArray⟩:ByteArray)))))=true)→v=undef),fun v _=>((((num1 i 1)&&(decide ((h)=((⟨([]).toArray⟩:ByteArray)))))=true)→v=.string m)∧(¬ (((num1 i 1)&&(decide ((h)=((⟨([]).toArray⟩:ByteArray)))))=true)→v=undef),fun v _=>((((num1 i 1)&&(decide ((h)=((⟨([]).toArray⟩:ByteArray)))))=true)→v=.bool (decide ((m)=((⟨([]).toArray⟩:ByteArray)))))∧(¬ (((num1 i 1)&&(decide ((h)=((⟨([]).toArray⟩:ByteArray)))))=true)→v=undef),fun v _=>v=.bool (((num1 i 1)&&(decide ((h)=((⟨([]).toArray⟩:ByteArray)))))&&(decide ((m)=((⟨([]).toArray⟩:ByteArray))))),fun v _=>v=.bool (((num1 i 1)&&(decide ((h)=((⟨([]).toArray⟩:ByteArray)))))&&(decide ((m)=((⟨([]).toArray⟩:ByteArray))))),fun v _=>(((((num1 i 1)&&(decide ((h)=((⟨([]).toArray⟩:ByteArray)))))&&(decide ((m)=((⟨([]).toArray⟩:ByteArray)))))=true)→v=.pointer (some ⟨T,5,none⟩))∧(¬ ((((num1 i 1)&&(decide ((h)=((⟨([]).toArray⟩:ByteArray)))))&&(decide ((m)=((⟨([]).toArray⟩:ByteArray)))))=true)→v=undef),fun v _=>(((((num1 i 1)&&(decide ((h)=((⟨([]).toArray⟩:ByteArray)))))&&(decide ((m)=((⟨([]).toArray⟩:ByteArray)))))=true)→v=.int .i64 (n))∧(¬ ((((num1 i 1)&&(decide ((h)=((⟨([]).toArray⟩:ByteArray)))))&&(decide ((m)=((⟨([]).toArray⟩:ByteArray)))))=true)→v=undef),fun v _=>(((((num1 i 1)&&(decide ((h)=((⟨([]).toArray⟩:ByteArray)))))&&(decide ((m)=((⟨([]).toArray⟩:ByteArray)))))=true)→v=.bool ((n)==(0)))∧(¬ ((((num1 i 1)&&(decide ((h)=((⟨([]).toArray⟩:ByteArray)))))&&(decide ((m)=((⟨([]).toArray⟩:ByteArray)))))=true)→v=undef),fun v _=>v=.bool ((((num1 i 1)&&(decide ((h)=((⟨([]).toArray⟩:ByteArray)))))&&(decide ((m)=((⟨([]).toArray⟩:ByteArray)))))&&((n)==(0))),fun v _=>v=.bool ((((num1 i 1)&&(decide ((h)=((⟨([]).toArray⟩:ByteArray)))))&&(decide ((m)=((⟨([]).toArray⟩:ByteArray)))))&&((n)==(0)))] (by kernel_rfl) rfl ?_ ⟨?_,?_,?_,?_,?_,?_,?_,?_,?_,?_,?_,?_,?_,?_,?_,?_,?_,?_,?_,trivial⟩ ?_
     ·exact⟨Zi,Zi,Zi,Zi,Zi,Zi,Zi,Zi,Zi,Zi,Zi,Zi,Zi,Zi,Zi,Zi,Zi,Zi,Zi,trivial⟩
     ·intro u w hR hd;exact rn_fld_42_1 (ev rfl) Zr
     ·intro u w hR hd;exact rn_ld_3 (ev (hd.1 rfl)) (d1.kept hR) Zr
     ·intro u w hR hd;exact runs_c2 enters_nu (ev (hd.1 rfl)) rfl (callp (fun _ e=>e) ((number_any i 1 _).mono fun e w9 h=>(⟨h.1,h.2 ▸ Grew.refl _⟩)))
     ·intro u w hR hd;exact runs_mv (ev (hd.1 rfl)) Zr
     ·intro u w hR hd;exact⟨fun hg=>have hG:((num1 i 1)=true):=Value.bool.inj ((hd.1 rfl).symm.trans hg);rn_fld_42_3 (ev rfl) (Zs hG),Zn (hd.1 rfl)⟩
     ·intro u w hR hd;exact⟨fun hg=>have hG:((num1 i 1)=true):=Value.bool.inj ((hd.2.1 rfl).symm.trans hg);rn_ld_9 (ev ((hd.1 rfl).1 hG)) (d3.kept hR) (Zs hG),Zn (hd.2.1 rfl)⟩
     ·intro u w hR hd;exact⟨fun hg=>have hG:((num1 i 1)=true):=Value.bool.inj ((hd.2.1 rfl).symm.trans hg);rn_eqs_9 (ev ((hd.1 rfl).1 hG)) rfl (Zs hG),Zn (hd.2.1 rfl)⟩
     ·intro u w hR hd;exact runs_an (ev (hd.1 rfl)) (fun hb=>ev ((hd.2.1 rfl).1 hb)) Zr
     ·intro u w hR hd;exact runs_mv (ev (hd.1 rfl)) Zr
     ·intro u w hR hd;exact⟨fun hg=>have hG:(((num1 i 1)&&(decide ((h)=((⟨([]).toArray⟩:ByteArray)))))=true):=Value.bool.inj ((hd.1 rfl).symm.trans hg);rn_fld_42_4 (ev rfl) (Zs hG),Zn (hd.1 rfl)⟩
     ·intro u w hR hd;exact⟨fun hg=>have hG:(((num1 i 1)&&(decide ((h)=((⟨([]).toArray⟩:ByteArray)))))=true):=Value.bool.inj ((hd.2.1 rfl).symm.trans hg);rn_ld_9 (ev ((hd.1 rfl).1 hG)) (d4.kept hR) (Zs hG),Zn (hd.2.1 rfl)⟩
     ·intro u w hR hd;exact⟨fun hg=>have hG:(((num1 i 1)&&(decide ((h)=((⟨([]).toArray⟩:ByteArray)))))=true):=Value.bool.inj ((hd.2.1 rfl).symm.trans hg);rn_eqs_9 (ev ((hd.1 rfl).1 hG)) rfl (Zs hG),Zn (hd.2.1 rfl)⟩
     ·intro u w hR hd;exact runs_an (ev (hd.1 rfl)) (fun hb=>ev ((hd.2.1 rfl).1 hb)) Zr
     ·intro u w hR hd;exact runs_mv (ev (hd.1 rfl)) Zr
     ·intro u w hR hd;exact⟨fun hg=>have hG:((((num1 i 1)&&(decide ((h)=((⟨([]).toArray⟩:ByteArray)))))&&(decide ((m)=((⟨([]).toArray⟩:ByteArray)))))=true):=Value.bool.inj ((hd.1 rfl).symm.trans hg);rn_fld_42_5 (ev rfl) (Zs hG),Zn (hd.1 rfl)⟩
     ·intro u w hR hd;exact⟨fun hg=>have hG:((((num1 i 1)&&(decide ((h)=((⟨([]).toArray⟩:ByteArray)))))&&(decide ((m)=((⟨([]).toArray⟩:ByteArray)))))=true):=Value.bool.inj ((hd.2.1 rfl).symm.trans hg);rn_ld_3 (ev ((hd.1 rfl).1 hG)) (d5.kept hR) (Zs hG),Zn (hd.2.1 rfl)⟩
     ·intro u w hR hd;exact⟨fun hg=>have hG:((((num1 i 1)&&(decide ((h)=((⟨([]).toArray⟩:ByteArray)))))&&(decide ((m)=((⟨([]).toArray⟩:ByteArray)))))=true):=Value.bool.inj ((hd.2.1 rfl).symm.trans hg);rn_eql_3 (ev ((hd.1 rfl).1 hG)) rfl (Zs hG),Zn (hd.2.1 rfl)⟩
     ·intro u w hR hd;exact runs_an (ev (hd.1 rfl)) (fun hb=>ev ((hd.2.1 rfl).1 hb)) Zr
     ·intro u w hR hd;exact runs_mva (ev (hd.1 rfl)) Zr
     ·intro u w5 hR hh
      have he2:u 2=.bool ((((num1 i 1)&&(decide ((h)=((⟨([]).toArray⟩:ByteArray)))))&&(decide ((m)=((⟨([]).toArray⟩:ByteArray)))))&&((n)==(0))):=hh 18 (by decide)
      rw [HT.out] at he2
      simp only [mixA,mixL,zz9,zz0,he2]
      have HG5:Hid (Grew w w5):=Lib.hid (HG4.out.trans hR)
      clear hh he2 hR d0 d1 d2 d3 d4 d5 d6
      go_wp2
      go_ret
      exact⟨rfl,HG5.out⟩
end Go.Proofs.YtcknpcbkofgdoaaGreatDoor
namespace Go.Proofs.YtcknpcbkofgdoaaGreatDoor
open Go Go.RowKit Go.IntWalk
set_option linter.unusedSimpArgs false
set_option linter.unusedVariables false
set_option maxRecDepth 8000
def okC (s:ByteArray) (z:Int):Bool:=!((!(idn s))||(decide ((z) < (-32767))))
def okG (s:ByteArray) (l i:Int):Bool:=!((((!(idn s))||(!(num1 l 0)))||(decide ((i) < (-32767))))||((decide ((0) < (l)))&&((i) != (0))))
def okH (s:ByteArray) (z:Int):Bool:=!((!(idn s))||(!(num1 z 0)))
def okCs (l:List Cn):Bool:=l.all fun c=>okC c.s c.v
def okGs (l:List Gl):Bool:=l.all fun c=>okG c.s c.l c.i
def okNs (l:List ByteArray):Bool:=l.all fun s=>idn s
def okHs (l:List Cn):Bool:=l.all fun c=>okH c.s c.v
def okTs (l:List Ta):Bool:=l.all fun t=>okT t
def okP (P:Pg):Bool:=okCs P.cs&&(okGs P.gs&&(okNs (P.ss++P.os)&&(okHs P.hs&&okTs P.ts)))
theorem all_snoc {α:Type}{f:α→Bool}{l:List α}{j:Nat}{x:α}(h:l.take (j+1)=l.take j++[x]):(l.take (j+1)).all f=((l.take j).all f&&f x):=by
 rw [h,List.all_append,List.all_cons,List.all_nil,Bool.and_true]
theorem all_no {α:Type}{f:α→Bool}{l:List α}{x:α}(h:x ∈ l) (hx:f x=false):l.all f=false:=by
 cases h1:l.all f with
 | false=>rfl
 | true=>rw [List.all_eq_true.1 h1 x h] at hx;cases hx
end Go.Proofs.YtcknpcbkofgdoaaGreatDoor
namespace Go.Proofs.YtcknpcbkofgdoaaGreatDoor
open Go Go.RowKit Go.IntWalk
set_option linter.unusedSimpArgs false
set_option linter.unusedVariables false
set_option maxRecDepth 8000
theorem okS_cases {k n q:Int}{s:ByteArray}{ar:List Xp}{b e:List Sm}(h:okS ⟨k,s,n,ar,b,e,q⟩=true):okXs ar=true∧okSs b=true∧okSs e=true ∧
 (((k=1∨k=2∨k=7∨k=9)∧(∃a,ar=[a])∧idn s=true∧n=0∧b=[]∧e=[])∨(k=3∧(∃a c,ar=[a,c])∧idn s=true∧n=0∧b=[]∧e=[])∨(k=4∧(∃a,ar=[a])∧s=⟨#[]⟩∧n=0) ∨
   ((k=5∨k=10∨k=11)∧ar=[]∧s=⟨#[]⟩∧(0≤n∧n≤32767)∧e=[])∨(k=6∧(∃a,ar=[a])∧s=⟨#[]⟩∧n=0∧e=[])∨(k=8∧(∃a,ar=[a])∧s=⟨#[]⟩∧n=0∧b=[]∧e=[]) ∨
   ((k=12∨k=13)∧ar=[]∧s=⟨#[]⟩∧n=0∧b=[]∧e=[])):=by
 rw [okS,Bool.and_eq_true,Bool.and_eq_true,Bool.and_eq_true] at h
 obtain ⟨h1,h2,h3,h4⟩:=h
 refine⟨h2,h3,h4,?_⟩
 rw [hdS,Bool.not_eq_true'] at h1
 simp only [Bool.or_eq_false_iff] at h1
 obtain ⟨⟨⟨⟨⟨⟨⟨p1,p2⟩,p3⟩,p4⟩,p5⟩,p6⟩,p7⟩,p8⟩:=h1
 replace p2:(ar.length:Int)=shA k:=by simpa using p2
 have l1:ar.length=1→∃a,ar=[a]:=List.length_eq_one_iff.1
 have hname:shN k=true→idn s=true:=fun h=>by rw [h,Bool.true_and] at p3;simpa using p3
 have hnone:shN k=false→s=⟨#[]⟩:=fun h=>by rw [h,Bool.not_false,Bool.true_and] at p4;simpa using p4
 have hnum:num1 n 0=true:=by simpa using p5
 rw [num1,Bool.and_eq_true,decide_eq_true_eq,decide_eq_true_eq] at hnum
 have hno:shM k=false→n=0:=fun h=>by rw [h,Bool.not_false,Bool.true_and] at p6;simpa using p6
 have hb:shB k=false→b=[]:=fun h=>by
  rw [h,Bool.not_false,Bool.true_and,decide_eq_false_iff_not] at p7
  exact List.eq_nil_of_length_eq_zero (by omega)
 have he:shE k=false→e=[]:=fun h=>by
  rw [h,Bool.not_false,Bool.true_and,decide_eq_false_iff_not] at p8
  exact List.eq_nil_of_length_eq_zero (by omega)
 have hko:1≤k∧k≤13:=by
  replace p1:shO k=true:=by simpa using p1
  rw [shO,Bool.and_eq_true,decide_eq_true_eq,decide_eq_true_eq] at p1
  exact p1
 clear p1 p3 p4 p5 p6 p7 p8
 rcases kx13 k with rfl | rfl | rfl | rfl | rfl | rfl | rfl | rfl | rfl | rfl | rfl | rfl | rfl | hn
 ·exact .inl ⟨by omega,l1 (by have:shA 1=1:=(by decide);omega),hname (by decide),hno (by decide),hb (by decide),he (by decide)⟩
 ·exact .inl ⟨by omega,l1 (by have:shA 2=1:=(by decide);omega),hname (by decide),hno (by decide),hb (by decide),he (by decide)⟩
 ·exact .inr (.inl ⟨rfl,len2 (by have:shA 3=2:=(by decide);omega),hname (by decide),hno (by decide),hb (by decide),he (by decide)⟩)
 ·exact .inr (.inr (.inl ⟨rfl,l1 (by have:shA 4=1:=(by decide);omega),hnone (by decide),hno (by decide)⟩))
 ·exact .inr (.inr (.inr (.inl ⟨by omega,List.eq_nil_of_length_eq_zero (by have:shA 5=0:=(by decide);omega),hnone (by decide),hnum,he (by decide)⟩)))
 ·exact .inr (.inr (.inr (.inr (.inl ⟨rfl,l1 (by have:shA 6=1:=(by decide);omega),hnone (by decide),hno (by decide),he (by decide)⟩))))
 ·exact .inl ⟨by omega,l1 (by have:shA 7=1:=(by decide);omega),hname (by decide),hno (by decide),hb (by decide),he (by decide)⟩
 ·exact .inr (.inr (.inr (.inr (.inr (.inl ⟨rfl,l1 (by have:shA 8=1:=(by decide);omega),hnone (by decide),hno (by decide),hb (by decide),he (by decide)⟩)))))
 ·exact .inl ⟨by omega,l1 (by have:shA 9=1:=(by decide);omega),hname (by decide),hno (by decide),hb (by decide),he (by decide)⟩
 ·exact .inr (.inr (.inr (.inl ⟨by omega,List.eq_nil_of_length_eq_zero (by have:shA 10=0:=(by decide);omega),hnone (by decide),hnum,he (by decide)⟩)))
 ·exact .inr (.inr (.inr (.inl ⟨by omega,List.eq_nil_of_length_eq_zero (by have:shA 11=0:=(by decide);omega),hnone (by decide),hnum,he (by decide)⟩)))
 ·exact .inr (.inr (.inr (.inr (.inr (.inr ⟨by omega,List.eq_nil_of_length_eq_zero (by have:shA 12=0:=(by decide);omega),hnone (by decide),hno (by decide),hb (by decide),he (by decide)⟩)))))
 ·exact .inr (.inr (.inr (.inr (.inr (.inr ⟨by omega,List.eq_nil_of_length_eq_zero (by have:shA 13=0:=(by decide);omega),hnone (by decide),hno (by decide),hb (by decide),he (by decide)⟩)))))
 ·omega
def simT (k:Int) (n ta tb:List UInt8):List UInt8:=if k=1 then ((([108,101,116,32]++n)++[32,61,32])++ta)++[59] else if k=2 then ((n++[32,61,32])++ta)++[59] else if k=3 then ((((n++[91])++ta)++[93,32,61,32])++tb)++[59] else if k=7 then ((([115,101,110,100,32]++n)++[32])++ta)++[59] else if k=9 then ((([111,117,116,112,117,116,32]++n)++[32])++ta)++[59] else if k=8 then ([101,109,105,116,32]++ta)++[59] else if k=12 then [99,104,101,99,107,112,111,105,110,116,59] else [114,101,116,117,114,110,59]
def hedT (k m:Int) (ta:List UInt8):List UInt8:=if k=4 then ([105,102,32]++ta)++[32,123] else if k=6 then ([119,104,105,108,101,32]++ta)++[32,123] else if k=5 then ([114,101,112,101,97,116,32]++numZ m)++[32,123] else if k=10 then ([102,114,101,115,104,32]++numZ m)++[32,123] else if k=11 then ([116,111,103,101,116,104,101,114,32]++numZ m)++[32,123] else []
def agT (ar:List Xp) (i:Nat):List UInt8:=(txXs ar).getD i []
def in4 (i:List UInt8):List UInt8:=i++[32,32,32,32]
mutual
def linS:Sm→List UInt8→List UInt8
 | ⟨k,s,n,ar,b,e,_⟩,i=>if hedT k n (agT ar 0)=[] then simT k s.data.toList (agT ar 0) (agT ar 1)++[10] else (((hedT k n (agT ar 0)++[10])++linL b (in4 i))++i)++elsT e i
def linL:List Sm→List UInt8→List UInt8
 | [],_=>[]
 | x :: xs,i=>(i++linS x i)++linL xs i
def elsT:List Sm→List UInt8→List UInt8
 | [],_=>[125,10]
 | [x],i=>if x.k=4 then [125,32,101,108,115,101,32]++linS x i else ((([125,32,101,108,115,101,32,123,10]++((in4 i++linS x (in4 i))++[]))++i)++[125,10])
 | x :: y :: r,i=>((([125,32,101,108,115,101,32,123,10]++((in4 i++linS x (in4 i))++((in4 i++linS y (in4 i))++linL r (in4 i))))++i)++[125,10])
end
theorem elsT_if (x:Sm) (i:List UInt8) (h:x.k=4):elsT [x] i=[125,32,101,108,115,101,32]++linS x i:=by rw [elsT,if_pos h]
theorem elsT_else {e:List Sm}(i:List UInt8) (h:e≠[]) (h2:∀x,e=[x]→x.k≠4):elsT e i=(([125,32,101,108,115,101,32,123,10]++linL e (in4 i))++i)++[125,10]:=by
 match e with
 | []=>exact absurd rfl h
 | [x]=>rw [elsT,if_neg (h2 x rfl),linL,linL]
 | x :: y :: r=>rw [elsT,linL,linL]
theorem linL_append:∀(a b:List Sm) (i:List UInt8),linL (a++b) i=linL a i++linL b i
 | [],_,_=>by rw [List.nil_append,linL,List.nil_append]
 | x :: a,b,i=>by rw [List.cons_append,linL,linL,linL_append a b i];simp only [List.append_assoc]
theorem linL_snoc {l:List Sm}{j:Nat}{x:Sm}(i:List UInt8) (h:l.take (j+1)=l.take j++[x]):linL (l.take (j+1)) i=(linL (l.take j) i++i)++linS x i:=by
 rw [h,linL_append,linL,linL,List.append_nil,List.append_assoc]
mutual
def fitS:Sm→Prop
 | ⟨_,_,_,ar,b,e,_⟩=>fitXs ar∧fitSs b∧fitSs e
def fitSs:List Sm→Prop
 | []=>True
 | x :: xs=>fitS x∧fitSs xs
end
theorem simT_len (k:Int) (n ta tb:List UInt8):(simT k n ta tb).length≤n.length+ta.length+tb.length+20:=by
 unfold simT
 repeat' split
 all_goals simp only [List.length_append,List.length_cons,List.length_nil];omega
theorem hedT_len (k m:Int) (ta:List UInt8) (hm:0≤m∧m≤32767):(hedT k m ta).length≤ta.length+20:=by
 have:=numZ_len (z:=m) (by omega)
 unfold hedT
 repeat' split
 all_goals simp only [List.length_append,List.length_cons,List.length_nil];omega
theorem agT_len {ar:List Xp}(h:okXs ar=true) (hf:fitXs ar):∀i,(agT ar i).length≤64 * nXs ar:=by
 induction ar with
 | nil=>intro i;rw [agT,txXs];simp
 | cons x xs ih =>
   rw [okXs,Bool.and_eq_true] at h
   rw [fitXs] at hf
   intro i
   cases i with
   | zero =>
     have:=txX_len x h.1 hf.1
     rw [agT,txXs,nXs]
     simp only [List.getD_cons_zero]
     omega
   | succ i =>
     have:=ih h.2 hf.2 i
     rw [agT] at this
     rw [agT,txXs,nXs]
     simp only [List.getD_cons_succ]
     omega
theorem agT_two {ar:List Xp}(h:okXs ar=true) (hf:fitXs ar):(agT ar 0).length+(agT ar 1).length≤64 * nXs ar:=by
 match ar with
 | []=>simp [agT,txXs]
 | [x] =>
   have:=agT_len h hf 0
   have h1:(agT [x] 1).length=0:=by simp [agT,txXs]
   omega
 | x :: y :: r =>
   rw [okXs,okXs,Bool.and_eq_true,Bool.and_eq_true] at h
   rw [fitXs,fitXs] at hf
   have h1:=txX_len x h.1 hf.1
   have h2:=txX_len y h.2.1 hf.2.1
   rw [agT,agT,txXs,txXs,nXs,nXs]
   simp only [List.getD_cons_zero,List.getD_cons_succ]
   omega
theorem idn_size {s:ByteArray}(h:idn s=true∨s=⟨#[]⟩):s.data.toList.length≤32:=by
 rcases h with h | rfl
 ·exact idn_len h
 ·simp
theorem okS_nm {k n q:Int}{s:ByteArray}{ar:List Xp}{b e:List Sm}(h:okS ⟨k,s,n,ar,b,e,q⟩=true):(idn s=true∨s=⟨#[]⟩)∧0≤n∧n≤32767:=by
 obtain ⟨_,_,_,h⟩:=okS_cases h
 rcases h with ⟨_,_,h1,h2,_⟩ | ⟨_,_,h1,h2,_⟩ | ⟨_,_,h1,h2⟩ | ⟨_,_,h1,h2,_⟩ | ⟨_,_,h1,h2,_⟩ | ⟨_,_,h1,h2,_⟩ | ⟨_,_,h1,h2,_⟩
 ·exact⟨.inl h1,by omega⟩
 ·exact⟨.inl h1,by omega⟩
 ·exact⟨.inr h1,by omega⟩
 ·exact⟨.inr h1,h2⟩
 ·exact⟨.inr h1,by omega⟩
 ·exact⟨.inr h1,by omega⟩
 ·exact⟨.inr h1,by omega⟩
mutual
theorem linS_len:∀(x:Sm) (i:List UInt8),okS x=true→fitS x→i.length+4 * dS x≤400→(linS x i).length+400≤3000 * nS x+64 * mS x
 | ⟨k,s,n,ar,b,e,q⟩,i,h,hf,hi=>by
   have hok:=okS_cases h
   obtain ⟨hs,hn⟩:=okS_nm h
   rw [fitS] at hf
   rw [dS] at hi
   have h1:=agT_two hok.1 hf.1
   have h2:=idn_size hs
   have h3:=simT_len k s.data.toList (agT ar 0) (agT ar 1)
   have h4:=hedT_len k n (agT ar 0) hn
   have h5:=linL_len b (in4 i) hok.2.1 hf.2.1 (by rw [in4,List.length_append];simp only [List.length_cons,List.length_nil];omega)
   have h6:=elsT_len e i hok.2.2.1 hf.2.2 (by omega)
   rw [linS,nS,mS]
   split
   ·simp only [List.length_append,List.length_cons,List.length_nil];omega
   ·simp only [List.length_append,List.length_cons,List.length_nil];omega
theorem linL_len:∀(l:List Sm) (i:List UInt8),okSs l=true→fitSs l→i.length+4 * dSs l≤400→(linL l i).length≤3000 * nSs l+64 * mSs l
 | [],i,_,_,_=>by rw [linL];exact Nat.zero_le _
 | x :: xs,i,h,hf,hi=>by
   rw [okSs,Bool.and_eq_true] at h
   rw [fitSs] at hf
   rw [dSs] at hi
   have h1:=linS_len x i h.1 hf.1 (by omega)
   have h2:=linL_len xs i h.2 hf.2 (by omega)
   have h3:=nS_pos x
   rw [linL,nSs,mSs]
   simp only [List.length_append]
   omega
theorem elsT_len:∀(e:List Sm) (i:List UInt8),okSs e=true→fitSs e→i.length+4 * (dSs e+1)≤400→(elsT e i).length≤3000 * nSs e+64 * mSs e+500
 | [],i,_,_,_=>by rw [elsT];simp
 | [x],i,h,hf,hi=>by
   have h0:(in4 i).length=i.length+4:=by rw [in4,List.length_append];rfl
   rw [okSs,Bool.and_eq_true] at h
   rw [fitSs] at hf
   rw [dSs,dSs] at hi
   have h1:=linS_len x i h.1 hf.1 (by omega)
   have h2:=linS_len x (in4 i) h.1 hf.1 (by rw [in4,List.length_append];simp only [List.length_cons,List.length_nil];omega)
   have h3:=nS_pos x
   rw [elsT,nSs,nSs,mSs,mSs]
   split
   ·simp only [List.length_append,List.length_cons,List.length_nil];omega
   ·simp only [List.length_append,List.length_cons,List.length_nil];omega
 | x :: y :: r,i,h,hf,hi=>by
   rw [okSs,okSs,Bool.and_eq_true,Bool.and_eq_true] at h
   rw [fitSs,fitSs] at hf
   rw [dSs,dSs] at hi
   have h0:(in4 i).length=i.length+4:=by rw [in4,List.length_append];rfl
   have h1:=linS_len x (in4 i) h.1 hf.1 (by omega)
   have h2:=linS_len y (in4 i) h.2.1 hf.2.1 (by omega)
   have h4:=linL_len r (in4 i) h.2.2 hf.2.2 (by omega)
   have h3:=nS_pos x
   have h5:=nS_pos y
   rw [elsT,nSs,nSs,mSs,mSs]
   simp only [List.length_append,List.length_cons,List.length_nil];omega
end
end Go.Proofs.YtcknpcbkofgdoaaGreatDoor
