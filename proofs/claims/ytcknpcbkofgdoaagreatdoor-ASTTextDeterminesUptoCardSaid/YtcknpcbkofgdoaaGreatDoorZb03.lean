/-
  THE REFERENCE OF LAYER 16: WellFormed.
  THE REFERENCE OF LAYER 16: text.
  THE REFERENCE OF LAYER 16: simple.
  CANONICAL TEXTS: tasks (layer 16).
  CANONICAL TEXTS: programs (layer 16).
  TREES WITHOUT POSITIONS (layer 16).
  STATEMENTS WITHOUT POSITIONS (layer 16).
  THE REFERENCE OF LAYER 16: line.
  THE REFERENCE OF LAYER 16: Format.
  EQUALITY OF TREES (layer 16).
  EQUALITY OF STATEMENTS (layer 16).
  THE REFERENCE OF LAYER 16: EqualStmts.
  THE REFERENCE OF LAYER 16: names.
  TOKENS OF CANONICAL TEXTS (layers 16, 17): what the lexer makes of the text of a well-formed tree. Nothing of the program stands here.
  A READER OF TOKENS (layers 16, 17): the grammar of the language as a function over tokens of whatever kind; it gives back the tree whose tokens it reads. Nothing of the program stands here.
-/
import Derived.Test.YtcknpcbkofgdoaaGreatDoorZbShort
import Derived.Test.YtcknpcbkofgdoaaGreatDoorZb02
import Derived.Test.YtcknpcbkofgdoaaGreatDoorZb00
import Derived.Deep.LoopGhost
import Derived.Deep.Cut
import Derived.Deep.RegionHeld
import Derived.Test.YtcknpcbkofgdoaaGreatDoorZb01
namespace Go.Proofs.YtcknpcbkofgdoaaGreatDoor
open Go Go.RowKit Go.IntWalk
set_option linter.unusedSimpArgs false
set_option linter.unusedVariables false
set_option maxRecDepth 8000
section
variable {dst:Option Tmp}{ty:TypeId}{pos:String}{after:Array Edge}{g:Option (Nat × Bool)}{a:Act}{w:World}{T:Value→World→Prop}
theorem rn_fld_60_0 {x:Operand}{S o:Nat}(hx:a.eval x=.pointer (some ⟨S,o,none⟩)) (h:T (.pointer (some ⟨S,o,none⟩)) w):Runs Tryz.prog ⟨dst,.fieldAddr 60 x 0,ty,pos,after,g⟩ a w T:=by
 refine Runs.value (v:=.pointer (some ⟨S,o,none⟩)) (w':=w) ?_ h
 simp only [execOp,hx]
 go_simp
theorem rn_fld_60_1 {x:Operand}{S o:Nat}(hx:a.eval x=.pointer (some ⟨S,o,none⟩)) (h:T (.pointer (some ⟨S,o+1,none⟩)) w):Runs Tryz.prog ⟨dst,.fieldAddr 60 x 1,ty,pos,after,g⟩ a w T:=by
 refine Runs.value (v:=.pointer (some ⟨S,o+1,none⟩)) (w':=w) ?_ h
 simp only [execOp,hx]
 go_simp
theorem rn_lss_32 {o1 o2:Operand}{b c:Int}(hx:a.eval o1=.int .i16 b) (hy:a.eval o2=.int .i16 c) (h:T (.bool (decide (b < c))) w):Runs Tryz.prog ⟨dst,.binOp .lss 32 o1 o2 32,ty,pos,after,g⟩ a w T:=by
 refine Runs.value (v:=.bool (decide (b < c))) (w':=w) ?_ h
 simp only [execOp,hx,hy]
 go_simp
theorem rn_fld_62_0 {x:Operand}{S o:Nat}(hx:a.eval x=.pointer (some ⟨S,o,none⟩)) (h:T (.pointer (some ⟨S,o,none⟩)) w):Runs Tryz.prog ⟨dst,.fieldAddr 62 x 0,ty,pos,after,g⟩ a w T:=by
 refine Runs.value (v:=.pointer (some ⟨S,o,none⟩)) (w':=w) ?_ h
 simp only [execOp,hx]
 go_simp
theorem rn_fld_62_1 {x:Operand}{S o:Nat}(hx:a.eval x=.pointer (some ⟨S,o,none⟩)) (h:T (.pointer (some ⟨S,o+1,none⟩)) w):Runs Tryz.prog ⟨dst,.fieldAddr 62 x 1,ty,pos,after,g⟩ a w T:=by
 refine Runs.value (v:=.pointer (some ⟨S,o+1,none⟩)) (w':=w) ?_ h
 simp only [execOp,hx]
 go_simp
theorem rn_fld_62_2 {x:Operand}{S o:Nat}(hx:a.eval x=.pointer (some ⟨S,o,none⟩)) (h:T (.pointer (some ⟨S,o+2,none⟩)) w):Runs Tryz.prog ⟨dst,.fieldAddr 62 x 2,ty,pos,after,g⟩ a w T:=by
 refine Runs.value (v:=.pointer (some ⟨S,o+2,none⟩)) (w':=w) ?_ h
 simp only [execOp,hx]
 go_simp
theorem rn_fld_64_0 {x:Operand}{S o:Nat}(hx:a.eval x=.pointer (some ⟨S,o,none⟩)) (h:T (.pointer (some ⟨S,o,none⟩)) w):Runs Tryz.prog ⟨dst,.fieldAddr 64 x 0,ty,pos,after,g⟩ a w T:=by
 refine Runs.value (v:=.pointer (some ⟨S,o,none⟩)) (w':=w) ?_ h
 simp only [execOp,hx]
 go_simp
theorem rn_fld_64_1 {x:Operand}{S o:Nat}(hx:a.eval x=.pointer (some ⟨S,o,none⟩)) (h:T (.pointer (some ⟨S,o+1,none⟩)) w):Runs Tryz.prog ⟨dst,.fieldAddr 64 x 1,ty,pos,after,g⟩ a w T:=by
 refine Runs.value (v:=.pointer (some ⟨S,o+1,none⟩)) (w':=w) ?_ h
 simp only [execOp,hx]
 go_simp
end
theorem ldsl {dst:Option Tmp}{ty:TypeId}{pos:String}{after:Array Edge}{g:Option (Nat × Bool)}{a:Act}{x:Operand}{q:Addr}{v:Value}{w:World}(hx:a.eval x=.pointer (some q)) (hc:w.cell? q=some v) (W:World) (hW:W=w:=by rfl):(execOp a.eval ⟨dst,.load 24 x,ty,pos,after,g⟩).run Tryz.prog W=.ok (.value v) W:=by
 subst hW
 simp only [execOp,hx]
 go_simp
theorem infoStr:(Tryz.prog.info? 9).map (fun i=>(i.zero,i.size,i.bytes))=some (some (.string ⟨#[]⟩),1,16):=by kernel_rfl
section
variable {dst:Option Tmp}{ty:TypeId}{pos:String}{after:Array Edge}{g:Option (Nat × Bool)}{a:Act}{w:World}{T:Value→World→Prop}
theorem runs_bs0s (h:T (.slice (some ⟨w.heap.size,0,none⟩) 0 0) (w.alloc (.cells #[] 9))):Runs Tryz.prog ⟨dst,.buildSlice 24 0 #[],ty,pos,after,g⟩ a w T:=by
 refine Runs.value (v:=.slice (some ⟨w.heap.size,0,none⟩) 0 0) (w':=w.alloc (.cells #[] 9)) ?_ h
 simp only [execOp]
 go_simp
theorem runs_lens_ {x:Operand}{p:Option Addr}{n c:Nat}(hx:a.eval x=.slice p n c) (h:T (.int .i64 (n:Nat)) w):Runs Tryz.prog ⟨dst,.call { callee:=.builtin .len,args:=#[x],argTypes:=#[24] },ty,pos,after,g⟩ a w T:=by
 refine Runs.value (v:=.int .i64 (n:Nat)) (w':=w) ?_ h
 simp [execOp,resolve,invoke,builtin,hx,Result.andThen]
 go_simp
end
def AllH (P:Program) (ops:Array Oper) (Q:Exit→Act→World→Prop) (S:World→Prop) (fuel:Nat) (listed:Array Bool) (a:Act) (w:World):List Nat→Prop
 | []=>True
 | i :: r=>(∃o,ops[i]?=some o∧o.guard=none∧Runs P o a w fun v w'=>S w'∧wpAnyH P .any ops Q S fuel (listed.setIfInBounds i true) (a.put o.dst v) w')∧AllH P ops Q S fuel listed a w r
theorem AllH.at {P:Program}{ops:Array Oper}{Q:Exit→Act→World→Prop}{S:World→Prop}{fuel:Nat}{listed:Array Bool}{a:Act}{w:World}:∀{rs:List Nat},AllH P ops Q S fuel listed a w rs→∀i ∈ rs,∃o,ops[i]?=some o∧o.guard=none∧Runs P o a w fun v w'=>S w'∧wpAnyH P .any ops Q S fuel (listed.setIfInBounds i true) (a.put o.dst v) w'
 | _ :: _,h,i,hi=>by
   rcases List.mem_cons.1 hi with rfl | hi
   ·exact h.1
   ·exact AllH.at h.2 i hi
theorem wpAnyH_go {P:Program}{ops:Array Oper}{Q:Exit→Act→World→Prop}{S:World→Prop}{fuel:Nat}{listed:Array Bool}{a:Act}{w:World}(rs:List Nat) (hr:Region.ready .any ops listed=rs) (hne:rs≠[]) (h:AllH P ops Q S fuel listed a w rs):wpAnyH P .any ops Q S (fuel+1) listed a w:=by
 refine wpAnyH_all hr hne fun i hi=>?_
 obtain ⟨o,ho,hg,hr⟩:=h.at i hi
 unfold wpOp
 simp only [ho]
 rw [if_pos (by simp [Region.wanted,hg])]
 exact .inl (hr _ _ fun _ _ h=>h)
theorem cut_code {P:Program}{c:Code}{Q:Exit→Act→World→Prop}{a:Act}{w:World}(F:Act→Act→World→Prop) (h1:c.wp P (fun e a' w'=>e=.normal∧F a a' w') a w) (h2:∀a' w',F a a' w'→Q .normal a' w'):c.wp P Q a w :=
 Code.wp_mono (fun e a' w' ⟨he,h⟩=>by subst he;exact h2 a' w' h) h1
set_option maxHeartbeats 16000000 in
theorem wf_any (P:Pg) (B:Nat→Prop) (w:World) (cp gp sp op hp tp:Option Addr) (cc gc sc oc hc tc:Nat) (hB:∀b,B b→b < w.heap.size) (hpg:PgIn B w P cp gp sp op hp tp cc gc sc oc hc tc) (hn:P.ss.length≤1048576∧P.os.length≤1048576) :
 Calls Tryz.prog 19 #[pgv P cp gp sp op hp tp cc gc sc oc hc tc] w fun e w'=>e=.returned (.bool (okP P))∧Grew w w':=by
 obtain ⟨hcaps,hmaxs⟩:=hpg.caps
 obtain ⟨b,hb⟩:∃b,okP P=b:=⟨_,rfl⟩
 rw [hb]
 obtain ⟨cs,gs,ss,os,hs,ts⟩:=P
 have HM:Hid ((okCs cs&&(okGs gs&&(okNs (ss++os)&&(okHs hs&&okTs ts))))=b):=Lib.hid hb
 have HPG:=Lib.hid (hpg.kept ((Grew.refl w).alloc (Obj.cells #[.slice cp cs.length cc,.slice gp gs.length gc,.slice sp ss.length sc,.slice op os.length oc,.slice hp hs.length hc,.slice tp ts.length tc] 28)))
 have HSZ:=Lib.hid hpg.sz
 dsimp only at hcaps HSZ hn ⊢
 have HLS:=Lib.hid hn
 have HHB:=Lib.hid hB
 clear hpg hb hn hB
 go_enter Tryz.func19,Tryz.ntmps19
 go_wp2
 have HBX:Hid (Blk w.heap.size [.slice cp cs.length cc,.slice gp gs.length gc,.slice sp ss.length sc,.slice op os.length oc,.slice hp hs.length hc,.slice tp ts.length tc] 28 (w.alloc (Obj.cells #[.slice cp cs.length cc,.slice gp gs.length gc,.slice sp ss.length sc,.slice op os.length oc,.slice hp hs.length hc,.slice tp ts.length tc] 28))):=Lib.hid (Blk.new w _ _)
 have HG0:Hid (Grew w (w.alloc (Obj.cells #[.slice cp cs.length cc,.slice gp gs.length gc,.slice sp ss.length sc,.slice op os.length oc,.slice hp hs.length hc,.slice tp ts.length tc] 28))):=Lib.hid ((Grew.refl w).alloc _)
 generalize (w.alloc (Obj.cells #[.slice cp cs.length cc,.slice gp gs.length gc,.slice sp ss.length sc,.slice op os.length oc,.slice hp hs.length hc,.slice tp ts.length tc] 28))=w1 at HBX HG0 HPG ⊢
 generalize w.heap.size=Sp at HBX ⊢
 have HXC:=Lib.hid HPG.out.cs.2
 have HXG:=Lib.hid HPG.out.gs.2
 have HSS:=Lib.hid HPG.out.ss.2
 have HOS:=Lib.hid HPG.out.os.2
 have HXH:=Lib.hid HPG.out.hs.2
 have HXT:=Lib.hid HPG.out.ts
 have HGA:Hid (Grew w1 w1):=Lib.hid (Grew.refl _)
 clear HPG
 have HOK:Hid (cs.all (fun c:Cn=>okC c.s c.v)=false→b=false):=Lib.hid (fun h=>by rw [← HM.out,show okCs cs=false from h,Bool.false_and])
 go_loopg [4,16] cs.length (fun gg s0_ iv wr=>∃(j:Nat),iv=.int .i64 (j:Int)∧j≤cs.length∧gg=cs.length - j∧Hid ((cs.take j).all (fun c:Cn=>okC c.s c.v)=true)∧Hid (Grew w1 wr))
 case atStart=>exact⟨0,rfl,Nat.zero_le _,rfl,Lib.hid rfl,HGA⟩
 case round =>
  obtain ⟨j,rfl,hj,rfl,HI,HG⟩:=hrel
  by_cases hlt:j < cs.length
  ·obtain ⟨b1,o1,rfl,hcc⟩:=HXC.out.getF j hlt
   have hm:=List.getElem_mem hlt
   have htk:=List.take_succ_eq_append_getElem hlt
   have HLT:=Lib.hid (Nat.succ_le_of_lt hlt)
   have hsz0:=HSZ.out.1 _ hm
   have hno:=fun h=>HOK.out (all_no (f:=fun c:Cn=>okC c.s c.v) hm h)
   generalize cs[j]=x at hcc hm htk hsz0 hno
   obtain ⟨s,z,q⟩:=x
   have hsz:s.size≤1048576:=hsz0.1
   replace hcc:∀i_ u_,([.string s,.int .i16 z,.int .i64 q]:List Value)[i_]?=some u_→wr.cell? ⟨b1,o1+j * 3+i_,none⟩=some u_:=fun i_ u_ h_=>Atv.kept (hcc i_ u_ h_) HG.out
   have q0:wr.cell? ⟨b1,o1+j * 3,none⟩=some (.string s):=by simpa using hcc 0 _ rfl
   have q1:wr.cell? ⟨b1,o1+j * 3+1,none⟩=some (.int .i16 z):=hcc 1 _ rfl
   have q2:wr.cell? ⟨b1,o1+j * 3+2,none⟩=some (.int .i64 q):=hcc 2 _ rfl
   have HTK:=Lib.hid htk
   have HNO:Hid (okC s z=false→b=false):=Lib.hid hno
   have HID:=Lib.hid (fun W=>ident_any s hsz W)
   clear hcc hm htk hsz hsz0 hno
   go_upto_region 4 with fail
   have hb1:Blk wr.heap.size [.string s,.int .i16 z,.int .i64 q] 60 (wr.alloc (Obj.cells #[.string s,.int .i16 z,.int .i64 q] 60)):=Blk.new wr _ _
   have hgV:Grew w1 (wr.alloc (Obj.cells #[.string s,.int .i16 z,.int .i64 q] 60)):=HG.out.alloc _
   generalize (wr.alloc (Obj.cells #[.string s,.int .i16 z,.int .i64 q] 60))=V at hb1 hgV ⊢
   generalize wr.heap.size=T at hb1 ⊢
   have HGV:=Lib.hid hgV
   have d0:Atv ⟨T,0,none⟩ (.string s) V:=hb1.atv 0 rfl
   have d1:Atv ⟨T,1,none⟩ (.int .i16 z) V:=hb1.atv 1 rfl
   have d2:Atv ⟨T,2,none⟩ (.int .i64 q) V:=hb1.atv 2 rfl
   clear hb1 hgV q0 q1 q2 HG
   refine wp_postsL [some 20,some 21,some 22,some 23,some 24,some 25,some 26,some 27,some 28] [Zf,Zf,Zf,Zf,Zf,Zf,Zf,Zf,Zf,Zf,Zf,Zf,Zf,Zf,Zf,Zf,Zf,Zf,Zf,Zf,Zt,Zt,Zt,Zt,Zt,Zt,Zt,Zt,Zt,Zf,Zf,Zf,Zf,Zf,Zf,Zf,Zf,Zf,Zf,Zf,Zf,Zf,Zf,Zf,Zf,Zf,Zf,Zf,Zf,Zf,Zf,Zf,Zf,Zf,Zf,Zf,Zf,Zf,Zf,Zf,Zf,Zf,Zf,Zf,Zf,Zf,Zf,Zf,Zf,Zf,Zf,Zf,Zf,Zf,Zf,Zf,Zf,Zf,Zf,Zf,Zf,Zf,Zf,Zf,Zf,Zf,Zf,Zf,Zf,Zf,Zf,Zf,Zf,Zf,Zf,Zf,Zf,Zf,Zf,Zf,Zf,Zf,Zf,Zf,Zf,Zf,Zf,Zf] [fun v _=>v=.pointer (some ⟨T,0,none⟩),fun v _=>v=.string s,fun v _=>v=.bool (idn s),fun v _=>v=.bool (!(idn s)),fun v _=>v=.bool (!(idn s)),fun v _=>(((!(idn s))=false)→v=.pointer (some ⟨T,1,none⟩))∧(¬ ((!(idn s))=false)→v=undef),fun v _=>(((!(idn s))=false)→v=.int .i16 (z))∧(¬ ((!(idn s))=false)→v=undef),fun v _=>(((!(idn s))=false)→v=.bool (decide ((z) < (-32767))))∧(¬ ((!(idn s))=false)→v=undef),fun v _=>v=.bool ((!(idn s))||(decide ((z) < (-32767))))] (by kernel_rfl) rfl ?_ ⟨?_,?_,?_,?_,?_,?_,?_,?_,?_,trivial⟩ ?_
   ·exact⟨Zi,Zi,Zi,Zi,Zi,Zi,Zi,Zi,Zi,trivial⟩
   ·intro u w hR hd;exact rn_fld_60_0 (ev rfl) Zr
   ·intro u w hR hd;exact rn_ld_9 (ev (hd.1 rfl)) (d0.kept hR) Zr
   ·intro u w hR hd;exact runs_c1 enters_id (ev (hd.1 rfl)) (callp (fun _ e=>e) (HID.out _))
   ·intro u w hR hd;exact runs_nt (ev (hd.1 rfl)) Zr
   ·intro u w hR hd;exact runs_mv (ev (hd.1 rfl)) Zr
   ·intro u w hR hd;exact⟨fun hg=>have hG:((!(idn s))=false):=Value.bool.inj ((hd.1 rfl).symm.trans hg);rn_fld_60_1 (ev rfl) (Zs hG),Zn (hd.1 rfl)⟩
   ·intro u w hR hd;exact⟨fun hg=>have hG:((!(idn s))=false):=Value.bool.inj ((hd.2.1 rfl).symm.trans hg);rn_ld_32 (ev ((hd.1 rfl).1 hG)) (d1.kept hR) (Zs hG),Zn (hd.2.1 rfl)⟩
   ·intro u w hR hd;exact⟨fun hg=>have hG:((!(idn s))=false):=Value.bool.inj ((hd.2.1 rfl).symm.trans hg);rn_lss_32 (ev ((hd.1 rfl).1 hG)) rfl (Zs hG),Zn (hd.2.1 rfl)⟩
   ·intro u w hR hd;exact runs_or2 (ev (hd.1 rfl)) (fun hb=>ev ((hd.2.1 rfl).1 hb)) Zr
   ·intro u w4 hR hh
    have he:u 28=.bool ((!(idn s))||(decide ((z) < (-32767)))):=hh 8 (by decide)
    have hE:((!(idn s))||(decide ((z) < (-32767))))=!okC s z:=by rw [okC,Bool.not_not]
    rw [hE] at he
    simp only [mixA,mixL,zz9,zz0,he]
    have HG4:Hid (Grew w1 w4):=Lib.hid (HGV.out.trans hR)
    clear hh he hE hR d0 d1 d2
    cases hok:okC s z with
    | false =>
      have HF2:=Lib.hid (HNO.out hok)
      go_wp2
      go_ret
      exact⟨ret_bool HF2.out.symm,HG0.out.trans HG4.out⟩
    | true =>
      have HOKX:=Lib.hid hok
      clear HNO hok
      go_wp2
      go_roundg (cs.length - (j+1))
      case measure=>have:=HLT.out;omega
      case rel=>exact⟨j+1,by go_num,HLT.out,rfl,Lib.hid (by rw [all_snoc HTK.out,HI.out,Bool.true_and];exact HOKX.out),HG4⟩
  ·obtain rfl:j=cs.length:=by omega
   rw [List.take_length] at HI
   replace HM:Hid ((okGs gs&&(okNs (ss++os)&&(okHs hs&&okTs ts)))=b):=Lib.hid (by rw [← HM.out,show okCs cs=true from HI.out,Bool.true_and])
   have HGB:Hid (Grew w1 wr):=Lib.hid HG.out
   have hbx:=HBX.out.grew HG.out
   have r0:=hbx.cell 0
   have r1:=hbx.cell 1
   have r2:=hbx.cell 2
   have r3:=hbx.cell 3
   have r4:=hbx.cell 4
   have r5:=hbx.cell 5
   simp only [zz7,zz8] at r0 r1 r2 r3 r4 r5
   clear HOK hbx HI
   go_wp2
   clear r0 r1 r2 r3 r4 r5
   have HOK:Hid (gs.all (fun c:Gl=>okG c.s c.l c.i)=false→b=false):=Lib.hid (fun h=>by rw [← HM.out,show okGs gs=false from h,Bool.false_and])
   go_loopg [6,33] gs.length (fun gg s0_ iv wr=>∃(j:Nat),iv=.int .i64 (j:Int)∧j≤gs.length∧gg=gs.length - j∧Hid ((gs.take j).all (fun c:Gl=>okG c.s c.l c.i)=true)∧Hid (Grew w1 wr))
   case atStart=>exact⟨0,rfl,Nat.zero_le _,rfl,Lib.hid rfl,HGB⟩
   case round =>
    obtain ⟨j,rfl,hj,rfl,HI,HG⟩:=hrel
    by_cases hlt:j < gs.length
    ·obtain ⟨b1,o1,rfl,hcc⟩:=HXG.out.getF j hlt
     have hm:=List.getElem_mem hlt
     have htk:=List.take_succ_eq_append_getElem hlt
     have HLT:=Lib.hid (Nat.succ_le_of_lt hlt)
     have hsz0:=HSZ.out.2.1 _ hm
     have hno:=fun h=>HOK.out (all_no (f:=fun c:Gl=>okG c.s c.l c.i) hm h)
     generalize gs[j]=x at hcc hm htk hsz0 hno
     obtain ⟨s,l,i,q⟩:=x
     have hsz:s.size≤1048576:=hsz0.1
     replace hcc:∀i_ u_,([.string s,.int .i64 l,.int .i16 i,.int .i64 q]:List Value)[i_]?=some u_→wr.cell? ⟨b1,o1+j * 4+i_,none⟩=some u_:=fun i_ u_ h_=>Atv.kept (hcc i_ u_ h_) HG.out
     have q0:wr.cell? ⟨b1,o1+j * 4,none⟩=some (.string s):=by simpa using hcc 0 _ rfl
     have q1:wr.cell? ⟨b1,o1+j * 4+1,none⟩=some (.int .i64 l):=hcc 1 _ rfl
     have q2:wr.cell? ⟨b1,o1+j * 4+2,none⟩=some (.int .i16 i):=hcc 2 _ rfl
     have q3:wr.cell? ⟨b1,o1+j * 4+3,none⟩=some (.int .i64 q):=hcc 3 _ rfl
     have HTK:=Lib.hid htk
     have HNO:Hid (okG s l i=false→b=false):=Lib.hid hno
     have HID:=Lib.hid (fun W=>ident_any s hsz W)
     clear hcc hm htk hsz hsz0 hno
     go_upto_region 10 with fail
     have hb1:Blk wr.heap.size [.string s,.int .i64 l,.int .i16 i,.int .i64 q] 62 (wr.alloc (Obj.cells #[.string s,.int .i64 l,.int .i16 i,.int .i64 q] 62)):=Blk.new wr _ _
     have hgV:Grew w1 (wr.alloc (Obj.cells #[.string s,.int .i64 l,.int .i16 i,.int .i64 q] 62)):=HG.out.alloc _
     generalize (wr.alloc (Obj.cells #[.string s,.int .i64 l,.int .i16 i,.int .i64 q] 62))=V at hb1 hgV ⊢
     generalize wr.heap.size=T at hb1 ⊢
     have HGV:=Lib.hid hgV
     have d0:Atv ⟨T,0,none⟩ (.string s) V:=hb1.atv 0 rfl
     have d1:Atv ⟨T,1,none⟩ (.int .i64 l) V:=hb1.atv 1 rfl
     have d2:Atv ⟨T,2,none⟩ (.int .i16 i) V:=hb1.atv 2 rfl
     have d3:Atv ⟨T,3,none⟩ (.int .i64 q) V:=hb1.atv 3 rfl
     clear hb1 hgV q0 q1 q2 q3 HG
     refine wp_postsL [some 37,some 38,some 39,some 40,some 41,some 42,some 43,some 44,some 45,some 46,some 47,some 48,some 49,some 50,some 51,some 52,some 53,some 54,some 55,some 56,some 57,some 58,some 59,some 60,some 61] [Zf,Zf,Zf,Zf,Zf,Zf,Zf,Zf,Zf,Zf,Zf,Zf,Zf,Zf,Zf,Zf,Zf,Zf,Zf,Zf,Zf,Zf,Zf,Zf,Zf,Zf,Zf,Zf,Zf,Zf,Zf,Zf,Zf,Zf,Zf,Zf,Zf,Zt,Zt,Zt,Zt,Zt,Zt,Zt,Zt,Zt,Zt,Zt,Zt,Zt,Zt,Zt,Zt,Zt,Zt,Zt,Zt,Zt,Zt,Zt,Zt,Zt,Zf,Zf,Zf,Zf,Zf,Zf,Zf,Zf,Zf,Zf,Zf,Zf,Zf,Zf,Zf,Zf,Zf,Zf,Zf,Zf,Zf,Zf,Zf,Zf,Zf,Zf,Zf,Zf,Zf,Zf,Zf,Zf,Zf,Zf,Zf,Zf,Zf,Zf,Zf,Zf,Zf,Zf,Zf,Zf,Zf,Zf] [fun v _=>v=.pointer (some ⟨T,0,none⟩),fun v _=>v=.string s,fun v _=>v=.bool (idn s),fun v _=>v=.bool (!(idn s)),fun v _=>v=.bool (!(idn s)),fun v _=>(((!(idn s))=false)→v=.pointer (some ⟨T,1,none⟩))∧(¬ ((!(idn s))=false)→v=undef),fun v _=>(((!(idn s))=false)→v=.int .i64 (l))∧(¬ ((!(idn s))=false)→v=undef),fun v _=>(((!(idn s))=false)→v=.bool (num1 l 0))∧(¬ ((!(idn s))=false)→v=undef),fun v _=>(((!(idn s))=false)→v=.bool (!(num1 l 0)))∧(¬ ((!(idn s))=false)→v=undef),fun v _=>v=.bool ((!(idn s))||(!(num1 l 0))),fun v _=>v=.bool ((!(idn s))||(!(num1 l 0))),fun v _=>((((!(idn s))||(!(num1 l 0)))=false)→v=.pointer (some ⟨T,2,none⟩))∧(¬ (((!(idn s))||(!(num1 l 0)))=false)→v=undef),fun v _=>((((!(idn s))||(!(num1 l 0)))=false)→v=.int .i16 (i))∧(¬ (((!(idn s))||(!(num1 l 0)))=false)→v=undef),fun v _=>((((!(idn s))||(!(num1 l 0)))=false)→v=.bool (decide ((i) < (-32767))))∧(¬ (((!(idn s))||(!(num1 l 0)))=false)→v=undef),fun v _=>v=.bool (((!(idn s))||(!(num1 l 0)))||(decide ((i) < (-32767)))),fun v _=>v=.bool (((!(idn s))||(!(num1 l 0)))||(decide ((i) < (-32767)))),fun v _=>(((((!(idn s))||(!(num1 l 0)))||(decide ((i) < (-32767))))=false)→v=.pointer (some ⟨T,1,none⟩))∧(¬ ((((!(idn s))||(!(num1 l 0)))||(decide ((i) < (-32767))))=false)→v=undef),fun v _=>(((((!(idn s))||(!(num1 l 0)))||(decide ((i) < (-32767))))=false)→v=.int .i64 (l))∧(¬ ((((!(idn s))||(!(num1 l 0)))||(decide ((i) < (-32767))))=false)→v=undef),fun v _=>(((((!(idn s))||(!(num1 l 0)))||(decide ((i) < (-32767))))=false)→v=.bool (decide ((0) < (l))))∧(¬ ((((!(idn s))||(!(num1 l 0)))||(decide ((i) < (-32767))))=false)→v=undef),fun v _=>(((((!(idn s))||(!(num1 l 0)))||(decide ((i) < (-32767))))=false)→v=.bool (decide ((0) < (l))))∧(¬ ((((!(idn s))||(!(num1 l 0)))||(decide ((i) < (-32767))))=false)→v=undef),fun v _=>((((((!(idn s))||(!(num1 l 0)))||(decide ((i) < (-32767))))=false)∧((decide ((0) < (l)))=true))→v=.pointer (some ⟨T,2,none⟩))∧(¬ (((((!(idn s))||(!(num1 l 0)))||(decide ((i) < (-32767))))=false)∧((decide ((0) < (l)))=true))→v=undef),fun v _=>((((((!(idn s))||(!(num1 l 0)))||(decide ((i) < (-32767))))=false)∧((decide ((0) < (l)))=true))→v=.int .i16 (i))∧(¬ (((((!(idn s))||(!(num1 l 0)))||(decide ((i) < (-32767))))=false)∧((decide ((0) < (l)))=true))→v=undef),fun v _=>((((((!(idn s))||(!(num1 l 0)))||(decide ((i) < (-32767))))=false)∧((decide ((0) < (l)))=true))→v=.bool ((i) != (0)))∧(¬ (((((!(idn s))||(!(num1 l 0)))||(decide ((i) < (-32767))))=false)∧((decide ((0) < (l)))=true))→v=undef),fun v _=>(((((!(idn s))||(!(num1 l 0)))||(decide ((i) < (-32767))))=false)→v=.bool ((decide ((0) < (l)))&&((i) != (0))))∧(¬ ((((!(idn s))||(!(num1 l 0)))||(decide ((i) < (-32767))))=false)→v=undef),fun v _=>v=.bool ((((!(idn s))||(!(num1 l 0)))||(decide ((i) < (-32767))))||((decide ((0) < (l)))&&((i) != (0))))] (by kernel_rfl) rfl ?_ ⟨?_,?_,?_,?_,?_,?_,?_,?_,?_,?_,?_,?_,?_,?_,?_,?_,?_,?_,?_,?_,?_,?_,?_,?_,?_,trivial⟩ ?_
     ·exact⟨Zi,Zi,Zi,Zi,Zi,Zi,Zi,Zi,Zi,Zi,Zi,Zi,Zi,Zi,Zi,Zi,Zi,Zi,Zi,Zi,Zi,Zi,Zi,Zi,Zi,trivial⟩
     ·intro u w hR hd;exact rn_fld_62_0 (ev rfl) Zr
     ·intro u w hR hd;exact rn_ld_9 (ev (hd.1 rfl)) (d0.kept hR) Zr
     ·intro u w hR hd;exact runs_c1 enters_id (ev (hd.1 rfl)) (callp (fun _ e=>e) (HID.out _))
     ·intro u w hR hd;exact runs_nt (ev (hd.1 rfl)) Zr
     ·intro u w hR hd;exact runs_mv (ev (hd.1 rfl)) Zr
     ·intro u w hR hd;exact⟨fun hg=>have hG:((!(idn s))=false):=Value.bool.inj ((hd.1 rfl).symm.trans hg);rn_fld_62_1 (ev rfl) (Zs hG),Zn (hd.1 rfl)⟩
     ·intro u w hR hd;exact⟨fun hg=>have hG:((!(idn s))=false):=Value.bool.inj ((hd.2.1 rfl).symm.trans hg);rn_ld_3 (ev ((hd.1 rfl).1 hG)) (d1.kept hR) (Zs hG),Zn (hd.2.1 rfl)⟩
     ·intro u w hR hd;exact⟨fun hg=>have hG:((!(idn s))=false):=Value.bool.inj ((hd.2.1 rfl).symm.trans hg);runs_c2 enters_nu (ev ((hd.1 rfl).1 hG)) rfl (callp (fun _ e=>⟨fun _=>e,fun hn=>absurd hG hn⟩) ((number_any l 0 _).mono fun e w9 h=>(⟨h.1,h.2 ▸ Grew.refl _⟩))),Zn (hd.2.1 rfl)⟩
     ·intro u w hR hd;exact⟨fun hg=>have hG:((!(idn s))=false):=Value.bool.inj ((hd.2.1 rfl).symm.trans hg);runs_nt (ev ((hd.1 rfl).1 hG)) (Zs hG),Zn (hd.2.1 rfl)⟩
     ·intro u w hR hd;exact runs_or2 (ev (hd.1 rfl)) (fun hb=>ev ((hd.2.1 rfl).1 hb)) Zr
     ·intro u w hR hd;exact runs_mv (ev (hd.1 rfl)) Zr
     ·intro u w hR hd;exact⟨fun hg=>have hG:(((!(idn s))||(!(num1 l 0)))=false):=Value.bool.inj ((hd.1 rfl).symm.trans hg);rn_fld_62_2 (ev rfl) (Zs hG),Zn (hd.1 rfl)⟩
     ·intro u w hR hd;exact⟨fun hg=>have hG:(((!(idn s))||(!(num1 l 0)))=false):=Value.bool.inj ((hd.2.1 rfl).symm.trans hg);rn_ld_32 (ev ((hd.1 rfl).1 hG)) (d2.kept hR) (Zs hG),Zn (hd.2.1 rfl)⟩
     ·intro u w hR hd;exact⟨fun hg=>have hG:(((!(idn s))||(!(num1 l 0)))=false):=Value.bool.inj ((hd.2.1 rfl).symm.trans hg);rn_lss_32 (ev ((hd.1 rfl).1 hG)) rfl (Zs hG),Zn (hd.2.1 rfl)⟩
     ·intro u w hR hd;exact runs_or2 (ev (hd.1 rfl)) (fun hb=>ev ((hd.2.1 rfl).1 hb)) Zr
     ·intro u w hR hd;exact runs_mv (ev (hd.1 rfl)) Zr
     ·intro u w hR hd;exact⟨fun hg=>have hG:((((!(idn s))||(!(num1 l 0)))||(decide ((i) < (-32767))))=false):=Value.bool.inj ((hd.1 rfl).symm.trans hg);rn_fld_62_1 (ev rfl) (Zs hG),Zn (hd.1 rfl)⟩
     ·intro u w hR hd;exact⟨fun hg=>have hG:((((!(idn s))||(!(num1 l 0)))||(decide ((i) < (-32767))))=false):=Value.bool.inj ((hd.2.1 rfl).symm.trans hg);rn_ld_3 (ev ((hd.1 rfl).1 hG)) (d1.kept hR) (Zs hG),Zn (hd.2.1 rfl)⟩
     ·intro u w hR hd;exact⟨fun hg=>have hG:((((!(idn s))||(!(num1 l 0)))||(decide ((i) < (-32767))))=false):=Value.bool.inj ((hd.2.1 rfl).symm.trans hg);rn_gtr_3 (ev ((hd.1 rfl).1 hG)) rfl (Zs hG),Zn (hd.2.1 rfl)⟩
     ·intro u w hR hd;exact⟨fun hg=>have hG:((((!(idn s))||(!(num1 l 0)))||(decide ((i) < (-32767))))=false):=Value.bool.inj ((hd.2.1 rfl).symm.trans hg);runs_mv (ev ((hd.1 rfl).1 hG)) (Zs hG),Zn (hd.2.1 rfl)⟩
     ·intro u w hR hd;exact⟨fun hg=>have hP:((((!(idn s))||(!(num1 l 0)))||(decide ((i) < (-32767))))=false):=Classical.byContradiction (fun hnp=>absurd (((hd.1 rfl).2 hnp).symm.trans hg) (fun h=>by first | cases h | (simp [undef] at h)));have hG:(((((!(idn s))||(!(num1 l 0)))||(decide ((i) < (-32767))))=false)∧((decide ((0) < (l)))=true)):=⟨hP,Value.bool.inj (((hd.1 rfl).1 hP).symm.trans hg)⟩;rn_fld_62_2 (ev rfl) (Zs hG),fun hn=>⟨fun hG=>absurd (((hd.1 rfl).1 hG.1).trans (congrArg Value.bool hG.2)) hn,fun _=>rfl⟩⟩
     ·intro u w hR hd;exact⟨fun hg=>have hP:((((!(idn s))||(!(num1 l 0)))||(decide ((i) < (-32767))))=false):=Classical.byContradiction (fun hnp=>absurd (((hd.2.1 rfl).2 hnp).symm.trans hg) (fun h=>by first | cases h | (simp [undef] at h)));have hG:(((((!(idn s))||(!(num1 l 0)))||(decide ((i) < (-32767))))=false)∧((decide ((0) < (l)))=true)):=⟨hP,Value.bool.inj (((hd.2.1 rfl).1 hP).symm.trans hg)⟩;rn_ld_32 (ev ((hd.1 rfl).1 hG)) (d2.kept hR) (Zs hG),fun hn=>⟨fun hG=>absurd (((hd.2.1 rfl).1 hG.1).trans (congrArg Value.bool hG.2)) hn,fun _=>rfl⟩⟩
     ·intro u w hR hd;exact⟨fun hg=>have hP:((((!(idn s))||(!(num1 l 0)))||(decide ((i) < (-32767))))=false):=Classical.byContradiction (fun hnp=>absurd (((hd.2.1 rfl).2 hnp).symm.trans hg) (fun h=>by first | cases h | (simp [undef] at h)));have hG:(((((!(idn s))||(!(num1 l 0)))||(decide ((i) < (-32767))))=false)∧((decide ((0) < (l)))=true)):=⟨hP,Value.bool.inj (((hd.2.1 rfl).1 hP).symm.trans hg)⟩;rn_neq_32 (ev ((hd.1 rfl).1 hG)) rfl (Zs hG),fun hn=>⟨fun hG=>absurd (((hd.2.1 rfl).1 hG.1).trans (congrArg Value.bool hG.2)) hn,fun _=>rfl⟩⟩
     ·intro u w hR hd;exact⟨fun hg=>have hG:((((!(idn s))||(!(num1 l 0)))||(decide ((i) < (-32767))))=false):=Value.bool.inj ((hd.2.2.1 rfl).symm.trans hg);runs_an (ev ((hd.1 rfl).1 hG)) (fun hb=>ev ((hd.2.1 rfl).1 ⟨hG,hb⟩)) (Zs hG),Zn (hd.2.2.1 rfl)⟩
     ·intro u w hR hd;exact runs_or2 (ev (hd.1 rfl)) (fun hb=>ev ((hd.2.1 rfl).1 hb)) Zr
     ·intro u w4 hR hh
      have he:u 61=.bool ((((!(idn s))||(!(num1 l 0)))||(decide ((i) < (-32767))))||((decide ((0) < (l)))&&((i) != (0)))):=hh 24 (by decide)
      have hE:((((!(idn s))||(!(num1 l 0)))||(decide ((i) < (-32767))))||((decide ((0) < (l)))&&((i) != (0))))=!okG s l i:=by rw [okG,Bool.not_not]
      rw [hE] at he
      simp only [mixA,mixL,zz9,zz0,he]
      have HG4:Hid (Grew w1 w4):=Lib.hid (HGV.out.trans hR)
      clear hh he hE hR d0 d1 d2 d3
      cases hok:okG s l i with
      | false =>
        have HF2:=Lib.hid (HNO.out hok)
        go_wp2
        go_ret
        exact⟨ret_bool HF2.out.symm,HG0.out.trans HG4.out⟩
      | true =>
        have HOKX:=Lib.hid hok
        clear HNO hok
        go_wp2
        go_roundg (gs.length - (j+1))
        case measure=>have:=HLT.out;omega
        case rel=>exact⟨j+1,by go_num,HLT.out,rfl,Lib.hid (by rw [all_snoc HTK.out,HI.out,Bool.true_and];exact HOKX.out),HG4⟩
    ·obtain rfl:j=gs.length:=by omega
     rw [List.take_length] at HI
     replace HM:Hid ((okNs (ss++os)&&(okHs hs&&okTs ts))=b):=Lib.hid (by rw [← HM.out,show okGs gs=true from HI.out,Bool.true_and])
     have HG2:Hid (Grew w1 wr):=Lib.hid HG.out
     have hbx:=HBX.out.grew HG.out
     have r0:=hbx.cell 0
     have r1:=hbx.cell 1
     have r2:=hbx.cell 2
     have r3:=hbx.cell 3
     have r4:=hbx.cell 4
     have r5:=hbx.cell 5
     simp only [zz7,zz8] at r0 r1 r2 r3 r4 r5
     clear HOK hbx HI
     clear r0 r1 r2 r3 r4 r5
     go_upto_region 13 with fail
     refine cut_code (fun a0_ a2_ w2_=>∃q0 v3 u6 n6 k6,a2_=(((((((((a0_.put (some 63) (.slice (some ⟨q0,0,none⟩) 0 0)).put (some 64) (.pointer (some ⟨Sp,2,none⟩))).put (some 65) (.slice sp ss.length sc)).put (some 66) (v3)).put (some 67) (.pointer (some ⟨Sp,3,none⟩))).put (some 68) (.slice op os.length oc)).put (some 69) (.slice u6 n6 k6)).put (some 70) (.int .i64 ((n6:Nat):Int))).put (some 71) (.int .i64 0))∧InN FlatAt 1 strc (fun _=>True) w2_ u6 n6 k6 (ss++os)∧Grew w1 w2_) ?_ ?_
     ·obtain ⟨B0,hB0⟩:∃B0,B0=w1.heap.size:=⟨_,rfl⟩
      have HBW:=Lib.hid hB0
      have hK:=HBX.out.grew (HG2.out.trans (Grew.refl _).drw)
      have hg9:=HG2.out.trans (Grew.refl wr).drw
      refine wp_region_held_drew (S:=fun W9=>Blk Sp [.slice cp cs.length cc,.slice gp gs.length gc,.slice sp ss.length sc,.slice op os.length oc,.slice hp hs.length hc,.slice tp ts.length tc] 28 W9) (by kernel_rfl) hK fun _=>?_
      refine wpAnyH_take (i:=1) (v:=.pointer (some ⟨Sp,2,none⟩)) rfl (by kernel_rfl) (by kernel_rfl) (by kernel_rfl) (fun _ _ _ h=>nomatch h.1) (Or.inl ⟨by rfl,fun W9 _=>by simp only [execOp];go_simp⟩) hK ?_
      simp only [zz1,zz2,zz3,Act.put,mixA,mixL,zz9,zz0,zz4,zz5,zz6]
      refine wpAnyH_take (i:=2) (v:=.slice sp ss.length sc) rfl (by kernel_rfl) (by kernel_rfl) (by kernel_rfl) (fun _ _ _ h=>nomatch h.1) (Or.inl ⟨by rfl,fun W9 h9=>ldsl rfl (h9.cell 2) W9⟩) hK ?_
      simp only [zz1,zz2,zz3,Act.put,mixA,mixL,zz9,zz0,zz4,zz5,zz6]
      refine wpAnyH_take (i:=4) (v:=.pointer (some ⟨Sp,3,none⟩)) rfl (by kernel_rfl) (by kernel_rfl) (by kernel_rfl) (fun _ _ _ h=>nomatch h.1) (Or.inl ⟨by rfl,fun W9 _=>by simp only [execOp];go_simp⟩) hK ?_
      simp only [zz1,zz2,zz3,Act.put,mixA,mixL,zz9,zz0,zz4,zz5,zz6]
      refine wpAnyH_take (i:=5) (v:=.slice op os.length oc) rfl (by kernel_rfl) (by kernel_rfl) (by kernel_rfl) (fun _ _ _ h=>nomatch h.1) (Or.inl ⟨by rfl,fun W9 h9=>ldsl rfl (h9.cell 3) W9⟩) hK ?_
      simp only [zz1,zz2,zz3,Act.put,mixA,mixL,zz9,zz0,zz4,zz5,zz6]
      refine wpAnyH_take (i:=8) (v:=.int .i64 0) rfl (by kernel_rfl) (by kernel_rfl) (by kernel_rfl) (fun _ _ _ h=>nomatch h.1) (Or.inl ⟨by rfl,fun W9 _=>by simp only [execOp];go_simp⟩) hK ?_
      simp only [zz1,zz2,zz3,Act.put,mixA,mixL,zz9,zz0,zz4,zz5,zz6]
      refine wpAnyH_go [0] (by kernel_rfl) (by simp) ⟨⟨_,rfl,rfl,?_⟩,trivial⟩
      have h6:OwN FlatAt 1 strc B0 (fun b=>b < B0) (wr.drew.alloc (Obj.cells #[] 9)) 9 (some ⟨wr.drew.heap.size,0,none⟩) 0 0 ([]:List ByteArray):=⟨rfl,[],OwR.lit encStr wr.drew [] 0 B0 9 #[] rfl rfl (by omega) (by have:=hg9.sz;have:=HBW.out;omega),rfl⟩
      refine runs_bs0s ?_
      have gx:Grew wr.drew (wr.drew.alloc (Obj.cells #[] 9)):=(Grew.refl _).alloc _
      have hK2:=hK.grew gx
      have hg2:=hg9.trans gx
      generalize wr.drew.heap.size=q0 at h6 ⊢
      generalize wr.drew.alloc (Obj.cells #[] 9)=y1 at h6 gx hK2 hg2 ⊢
      refine⟨hK2,?_⟩
      clear hK hg9 gx
      have hK:=hK2
      have hg9:=hg2
      clear hK2 hg2
      simp only [zz1,zz2,zz3,Act.put,mixA,mixL,zz9,zz0,zz4,zz5,zz6]
      refine wpAnyH_go [3] (by kernel_rfl) (by simp) ⟨⟨_,rfl,rfl,?_⟩,trivial⟩
      refine runs_append_own (hangsF encStr) B0 9 (.string ⟨#[]⟩) 16 Tryz.underlying24 infoStr rfl (some ⟨q0,0,none⟩) 0 0 [] (ev rfl) h6 sp ss.length sc ss (ev rfl) (HSS.out.kept (hangsF encStr) hg9) (fun b hb=>h6.off (hangsF encStr) hb) (by have:=HLS.out;omega) (by have:=HLS.out;omega) (by have:=hg9.sz;have:=HBW.out;omega) fun u3 k3 y2 h3 hp3=>?_
      have hK2:=hp3.blk hK (fun a ha=>by have h1:=(h6.place (hangsF encStr) a ha).1;have h2:=HBX.out.lt;have h3:=HBW.out;omega)
      have hg2:Grew w1 y2:=Below.trans hg9 (HBW.out ▸ hp3.below)
      refine⟨hK2,?_⟩
      clear hK hg9 hp3 h6
      have hK:=hK2
      have hg9:=hg2
      clear hK2 hg2
      simp only [zz1,zz2,zz3,Act.put,mixA,mixL,zz9,zz0,zz4,zz5,zz6]
      refine wpAnyH_go [6] (by kernel_rfl) (by simp) ⟨⟨_,rfl,rfl,?_⟩,trivial⟩
      refine runs_append_own (hangsF encStr) B0 9 (.string ⟨#[]⟩) 16 Tryz.underlying24 infoStr rfl u3 (0+ss.length) k3 ([]++ss) (ev rfl) h3 op os.length oc os (ev rfl) (HOS.out.kept (hangsF encStr) hg9) (fun b hb=>h3.off (hangsF encStr) hb) (by have:=HLS.out;omega) (by have:=HLS.out;omega) (by have:=hg9.sz;have:=HBW.out;omega) fun u6 k6 y3 h6 hp6=>?_
      have hK2:=hp6.blk hK (fun a ha=>by have h1:=(h3.place (hangsF encStr) a ha).1;have h2:=HBX.out.lt;have h3:=HBW.out;omega)
      have hg2:Grew w1 y3:=Below.trans hg9 (HBW.out ▸ hp6.below)
      refine⟨hK2,?_⟩
      clear hK hg9 hp6 h3
      have hK:=hK2
      have hg9:=hg2
      clear hK2 hg2
      simp only [zz1,zz2,zz3,Act.put,mixA,mixL,zz9,zz0,zz4,zz5,zz6]
      refine wpAnyH_go [7] (by kernel_rfl) (by simp) ⟨⟨_,rfl,rfl,?_⟩,trivial⟩
      refine runs_lens_ (ev rfl) ⟨hK,?_⟩
      simp only [zz1,zz2,zz3,Act.put,mixA,mixL,zz9,zz0,zz4,zz5,zz6]
      refine wpAnyH_done (by kernel_rfl) ?_ _
      exact⟨rfl,q0,.slice u3 (0+ss.length) k3,u6,0+ss.length+os.length,k6,by kernel_rfl,h6.inN (hangsF encStr),hg9⟩
     ·rintro a' V ⟨q0,v3,u6,n6,k6,rfl,hns,g6⟩
      simp only [zz1,zz2,zz3,Act.put,mixA,mixL,zz9,zz0,zz4,zz5,zz6]
      have HXN:=Lib.hid hns
      have HGV:Hid (Grew w1 V):=Lib.hid g6
      have hn6:n6=(ss++os).length:=hns.1
      have hcap6:=(hns.cap (hangsF encStr)).1
      have hmax6:=(hns.cap (hangsF encStr)).2.1
      have HSZN:Hid (∀s ∈ ss++os,s.size≤1048576):=Lib.hid (fun s hs=>by
       rcases List.mem_append.1 hs with h | h
       ·exact HSZ.out.2.2.1 s h
       ·exact HSZ.out.2.2.2.1 s h)
      subst hn6
      generalize ss++os=ns at HXN HSZN HM hcap6 ⊢
      clear hns g6
      go_wp2
      have HOK:Hid (ns.all (fun s:ByteArray=>idn s)=false→b=false):=Lib.hid (fun h=>by rw [← HM.out,show okNs ns=false from h,Bool.false_and])
      go_loopg [8,71] ns.length (fun gg sv iv wr=>∃(j:Nat),iv=.int .i64 (j:Int)∧j≤ns.length∧gg=ns.length - j∧Hid ((ns.take j).all (fun s:ByteArray=>idn s)=true)∧Hid (Grew V wr))
      case atStart=>exact⟨0,rfl,Nat.zero_le _,rfl,Lib.hid rfl,Lib.hid (Grew.refl _)⟩
      case round =>
       obtain ⟨j,rfl,hj,rfl,HI,HGr⟩:=hrel
       have HG:=Lib.hid (HGV.out.trans HGr.out)
       by_cases hlt:j < ns.length
       ·obtain ⟨b1,o1,rfl,hcc⟩:=HXN.out.getF j hlt
        have hm:=List.getElem_mem hlt
        have htk:=List.take_succ_eq_append_getElem hlt
        have HLT:=Lib.hid (Nat.succ_le_of_lt hlt)
        have hsz:=HSZN.out _ hm
        have hno:=fun h=>HOK.out (all_no (f:=fun s:ByteArray=>idn s) hm h)
        generalize ns[j]=s at hcc hm htk hsz hno
        have q0:wr.cell? ⟨b1,o1+j,none⟩=some (.string s):=by
         have h1:=Atv.kept (hcc 0 (.string s) rfl) HGr.out
         simpa using h1
        have HTK:=Lib.hid htk
        have HNO:Hid (idn s=false→b=false):=Lib.hid hno
        obtain ⟨d,hd⟩:∃d,idn s=d:=⟨_,rfl⟩
        have HID:Hid (∀W,Calls Tryz.prog 62 #[.string s] W fun e w'=>e=.returned (.bool d)∧Grew W w'):=Lib.hid (fun W=>hd ▸ ident_any s hsz W)
        have HD:=Lib.hid hd
        clear hcc hm htk hsz hno
        cases d with
        | false =>
          have HF2:=Lib.hid (HNO.out hd)
          clear HNO hd
          go_wp2_with (go_at_call 62;(with_reducible refine(HID.out _).mono ?_);rintro e w6 ⟨rfl,g6⟩;have HG6:=Lib.hid (HG.out.trans g6);clear g6)
          go_ret
          exact⟨ret_bool HF2.out.symm,HG0.out.trans HG6.out⟩
        | true =>
          clear HNO hd
          go_wp2_with (go_at_call 62;(with_reducible refine(HID.out _).mono ?_);rintro e w6 ⟨rfl,g6⟩;have HG6:=Lib.hid (HGr.out.trans g6);clear g6)
          go_roundg (ns.length - (j+1))
          case measure=>have:=HLT.out;omega
          case rel=>exact⟨j+1,by go_num,HLT.out,rfl,Lib.hid (by rw [all_snoc HTK.out,HI.out,Bool.true_and];exact HD.out),HG6⟩
       ·obtain rfl:j=ns.length:=by omega
        rw [List.take_length] at HI
        replace HM:Hid ((okHs hs&&okTs ts)=b):=Lib.hid (by rw [← HM.out,show okNs ns=true from HI.out,Bool.true_and])
        have HG5:Hid (Grew w1 wr):=Lib.hid HG.out
        have hbx:=HBX.out.grew HG.out
        have r0:=hbx.cell 0
        have r1:=hbx.cell 1
        have r2:=hbx.cell 2
        have r3:=hbx.cell 3
        have r4:=hbx.cell 4
        have r5:=hbx.cell 5
        simp only [zz7,zz8] at r0 r1 r2 r3 r4 r5
        clear HOK hbx HI
        go_wp2
        clear r0 r1 r2 r3 r4 r5
        have HOK:Hid (hs.all (fun c:Cn=>okH c.s c.v)=false→b=false):=Lib.hid (fun h=>by rw [← HM.out,show okHs hs=false from h,Bool.false_and])
        go_loopg [10,82] hs.length (fun gg s0_ iv wr=>∃(j:Nat),iv=.int .i64 (j:Int)∧j≤hs.length∧gg=hs.length - j∧Hid ((hs.take j).all (fun c:Cn=>okH c.s c.v)=true)∧Hid (Grew w1 wr))
        case atStart=>exact⟨0,rfl,Nat.zero_le _,rfl,Lib.hid rfl,HG5⟩
        case round =>
         obtain ⟨j,rfl,hj,rfl,HI,HG⟩:=hrel
         by_cases hlt:j < hs.length
         ·obtain ⟨b1,o1,rfl,hcc⟩:=HXH.out.getF j hlt
          have hm:=List.getElem_mem hlt
          have htk:=List.take_succ_eq_append_getElem hlt
          have HLT:=Lib.hid (Nat.succ_le_of_lt hlt)
          have hsz0:=HSZ.out.2.2.2.2 _ hm
          have hno:=fun h=>HOK.out (all_no (f:=fun c:Cn=>okH c.s c.v) hm h)
          generalize hs[j]=x at hcc hm htk hsz0 hno
          obtain ⟨s,z,q⟩:=x
          have hsz:s.size≤1048576:=hsz0
          replace hcc:∀i_ u_,([.string s,.int .i64 z,.int .i64 q]:List Value)[i_]?=some u_→wr.cell? ⟨b1,o1+j * 3+i_,none⟩=some u_:=fun i_ u_ h_=>Atv.kept (hcc i_ u_ h_) HG.out
          have q0:wr.cell? ⟨b1,o1+j * 3,none⟩=some (.string s):=by simpa using hcc 0 _ rfl
          have q1:wr.cell? ⟨b1,o1+j * 3+1,none⟩=some (.int .i64 z):=hcc 1 _ rfl
          have q2:wr.cell? ⟨b1,o1+j * 3+2,none⟩=some (.int .i64 q):=hcc 2 _ rfl
          have HTK:=Lib.hid htk
          have HNO:Hid (okH s z=false→b=false):=Lib.hid hno
          have HID:=Lib.hid (fun W=>ident_any s hsz W)
          clear hcc hm htk hsz hsz0 hno
          go_upto_region 22 with fail
          have hb1:Blk wr.heap.size [.string s,.int .i64 z,.int .i64 q] 64 (wr.alloc (Obj.cells #[.string s,.int .i64 z,.int .i64 q] 64)):=Blk.new wr _ _
          have hgV:Grew w1 (wr.alloc (Obj.cells #[.string s,.int .i64 z,.int .i64 q] 64)):=HG.out.alloc _
          generalize (wr.alloc (Obj.cells #[.string s,.int .i64 z,.int .i64 q] 64))=V at hb1 hgV ⊢
          generalize wr.heap.size=T at hb1 ⊢
          have HGV:=Lib.hid hgV
          have d0:Atv ⟨T,0,none⟩ (.string s) V:=hb1.atv 0 rfl
          have d1:Atv ⟨T,1,none⟩ (.int .i64 z) V:=hb1.atv 1 rfl
          have d2:Atv ⟨T,2,none⟩ (.int .i64 q) V:=hb1.atv 2 rfl
          clear hb1 hgV q0 q1 q2 HG
          refine wp_postsL [some 86,some 87,some 88,some 89,some 90,some 91,some 92,some 93,some 94,some 95] [Zf,Zf,Zf,Zf,Zf,Zf,Zf,Zf,Zf,Zf,Zf,Zf,Zf,Zf,Zf,Zf,Zf,Zf,Zf,Zf,Zf,Zf,Zf,Zf,Zf,Zf,Zf,Zf,Zf,Zf,Zf,Zf,Zf,Zf,Zf,Zf,Zf,Zf,Zf,Zf,Zf,Zf,Zf,Zf,Zf,Zf,Zf,Zf,Zf,Zf,Zf,Zf,Zf,Zf,Zf,Zf,Zf,Zf,Zf,Zf,Zf,Zf,Zf,Zf,Zf,Zf,Zf,Zf,Zf,Zf,Zf,Zf,Zf,Zf,Zf,Zf,Zf,Zf,Zf,Zf,Zf,Zf,Zf,Zf,Zf,Zf,Zt,Zt,Zt,Zt,Zt,Zt,Zt,Zt,Zt,Zt,Zf,Zf,Zf,Zf,Zf,Zf,Zf,Zf,Zf,Zf,Zf,Zf] [fun v _=>v=.pointer (some ⟨T,0,none⟩),fun v _=>v=.string s,fun v _=>v=.bool (idn s),fun v _=>v=.bool (!(idn s)),fun v _=>v=.bool (!(idn s)),fun v _=>(((!(idn s))=false)→v=.pointer (some ⟨T,1,none⟩))∧(¬ ((!(idn s))=false)→v=undef),fun v _=>(((!(idn s))=false)→v=.int .i64 (z))∧(¬ ((!(idn s))=false)→v=undef),fun v _=>(((!(idn s))=false)→v=.bool (num1 z 0))∧(¬ ((!(idn s))=false)→v=undef),fun v _=>(((!(idn s))=false)→v=.bool (!(num1 z 0)))∧(¬ ((!(idn s))=false)→v=undef),fun v _=>v=.bool ((!(idn s))||(!(num1 z 0)))] (by kernel_rfl) rfl ?_ ⟨?_,?_,?_,?_,?_,?_,?_,?_,?_,?_,trivial⟩ ?_
          ·exact⟨Zi,Zi,Zi,Zi,Zi,Zi,Zi,Zi,Zi,Zi,trivial⟩
          ·intro u w hR hd;exact rn_fld_64_0 (ev rfl) Zr
          ·intro u w hR hd;exact rn_ld_9 (ev (hd.1 rfl)) (d0.kept hR) Zr
          ·intro u w hR hd;exact runs_c1 enters_id (ev (hd.1 rfl)) (callp (fun _ e=>e) (HID.out _))
          ·intro u w hR hd;exact runs_nt (ev (hd.1 rfl)) Zr
          ·intro u w hR hd;exact runs_mv (ev (hd.1 rfl)) Zr
          ·intro u w hR hd;exact⟨fun hg=>have hG:((!(idn s))=false):=Value.bool.inj ((hd.1 rfl).symm.trans hg);rn_fld_64_1 (ev rfl) (Zs hG),Zn (hd.1 rfl)⟩
          ·intro u w hR hd;exact⟨fun hg=>have hG:((!(idn s))=false):=Value.bool.inj ((hd.2.1 rfl).symm.trans hg);rn_ld_3 (ev ((hd.1 rfl).1 hG)) (d1.kept hR) (Zs hG),Zn (hd.2.1 rfl)⟩
          ·intro u w hR hd;exact⟨fun hg=>have hG:((!(idn s))=false):=Value.bool.inj ((hd.2.1 rfl).symm.trans hg);runs_c2 enters_nu (ev ((hd.1 rfl).1 hG)) rfl (callp (fun _ e=>⟨fun _=>e,fun hn=>absurd hG hn⟩) ((number_any z 0 _).mono fun e w9 h=>(⟨h.1,h.2 ▸ Grew.refl _⟩))),Zn (hd.2.1 rfl)⟩
          ·intro u w hR hd;exact⟨fun hg=>have hG:((!(idn s))=false):=Value.bool.inj ((hd.2.1 rfl).symm.trans hg);runs_nt (ev ((hd.1 rfl).1 hG)) (Zs hG),Zn (hd.2.1 rfl)⟩
          ·intro u w hR hd;exact runs_or2 (ev (hd.1 rfl)) (fun hb=>ev ((hd.2.1 rfl).1 hb)) Zr
          ·intro u w4 hR hh
           have he:u 95=.bool ((!(idn s))||(!(num1 z 0))):=hh 9 (by decide)
           have hE:((!(idn s))||(!(num1 z 0)))=!okH s z:=by rw [okH,Bool.not_not]
           rw [hE] at he
           simp only [mixA,mixL,zz9,zz0,he]
           have HG4:Hid (Grew w1 w4):=Lib.hid (HGV.out.trans hR)
           clear hh he hE hR d0 d1 d2
           cases hok:okH s z with
           | false =>
             have HF2:=Lib.hid (HNO.out hok)
             go_wp2
             go_ret
             exact⟨ret_bool HF2.out.symm,HG0.out.trans HG4.out⟩
           | true =>
             have HOKX:=Lib.hid hok
             clear HNO hok
             go_wp2
             go_roundg (hs.length - (j+1))
             case measure=>have:=HLT.out;omega
             case rel=>exact⟨j+1,by go_num,HLT.out,rfl,Lib.hid (by rw [all_snoc HTK.out,HI.out,Bool.true_and];exact HOKX.out),HG4⟩
         ·obtain rfl:j=hs.length:=by omega
          rw [List.take_length] at HI
          replace HM:Hid ((okTs ts)=b):=Lib.hid (by rw [← HM.out,show okHs hs=true from HI.out,Bool.true_and])
          have HG7:Hid (Grew w1 wr):=Lib.hid HG.out
          have hbx:=HBX.out.grew HG.out
          have r0:=hbx.cell 0
          have r1:=hbx.cell 1
          have r2:=hbx.cell 2
          have r3:=hbx.cell 3
          have r4:=hbx.cell 4
          have r5:=hbx.cell 5
          simp only [zz7,zz8] at r0 r1 r2 r3 r4 r5
          clear HOK hbx HI
          go_wp2
          clear r0 r1 r2 r3 r4 r5
          have HOK:Hid (ts.all (fun t:Ta=>okT t)=false→b=false):=Lib.hid (fun h=>by rw [← HM.out,show okTs ts=false from h])
          go_loopg [12,100] ts.length (fun gg bv iv wr=>∃(j:Nat),iv=.int .i64 (j:Int)∧j≤ts.length∧gg=ts.length - j∧Hid ((ts.take j).all (fun t:Ta=>okT t)=true)∧Hid (Grew w1 wr))
          case atStart=>exact⟨0,rfl,Nat.zero_le _,rfl,Lib.hid rfl,HG7⟩
          case round =>
           obtain ⟨j,rfl,hj,rfl,HI,HG⟩:=hrel
           by_cases hlt:j < ts.length
           ·
            obtain ⟨ba,oa,pba,cba,rfl,hba,hboa,hca⟩:=HXT.out.get j hlt
            have hma:=List.getElem_mem hlt
            have hta:=List.take_succ_eq_append_getElem hlt
            have HLa:=Lib.hid (Nat.succ_le_of_lt hlt)
            generalize ts[j]=xa at *
            obtain ⟨sa,ia,da,ha,ma,na,ya,qa⟩:=xa
            replace hba:sa.size≤1048576∧ha.size≤1048576∧ma.size≤1048576:=hba.2
            have HTa:=Lib.hid hta
            have HYa:Hid (SL B w1 pba cba ya):=Lib.hid hboa
            have hcapa:ya.length≤cba:=hboa.cap.1
            have hmaxa:=hboa.cap.2.1
            replace hca:∀i_ u_,(tdc ⟨sa,ia,da,ha,ma,na,pba,ya.length,cba,qa⟩)[i_]?=some u_→wr.cell? ⟨ba,oa+j * 8+i_,none⟩=some u_:=fun i_ u_ h_=>Atv.kept (hca i_ u_ h_) HG.out
            have ca0:wr.cell? ⟨ba,oa+j * 8,none⟩=some (.string sa):=by simpa using hca 0 _ rfl
            have ca1:wr.cell? ⟨ba,oa+j * 8+1,none⟩=some (.int .i64 ia):=hca 1 _ rfl
            have ca2:wr.cell? ⟨ba,oa+j * 8+2,none⟩=some (.int .i64 da):=hca 2 _ rfl
            have ca3:wr.cell? ⟨ba,oa+j * 8+3,none⟩=some (.string ha):=hca 3 _ rfl
            have ca4:wr.cell? ⟨ba,oa+j * 8+4,none⟩=some (.string ma):=hca 4 _ rfl
            have ca5:wr.cell? ⟨ba,oa+j * 8+5,none⟩=some (.int .i64 na):=hca 5 _ rfl
            have ca6:wr.cell? ⟨ba,oa+j * 8+6,none⟩=some (.slice pba ya.length cba):=hca 6 _ rfl
            have ca7:wr.cell? ⟨ba,oa+j * 8+7,none⟩=some (.int .i64 qa):=hca 7 _ rfl
            clear hca hboa hta
            obtain ⟨d,hd⟩:∃d,okT ⟨sa,ia,da,ha,ma,na,ya,qa⟩=d:=⟨_,rfl⟩
            have HNO:=Lib.hid (fun(h:d=false)=>(show b=false from HOK.out (all_no (f:=fun t:Ta=>okT t) hma (hd.trans h))))
            have HTO:=Lib.hid (fun W (hW:Grew w1 W)=>(show Calls Tryz.prog 64 #[tv sa ia da ha ma na pba ya.length cba qa] W fun e w'=>e=.returned (.bool d)∧Grew W w' from hd ▸ taskok_any sa ia da ha ma na ya qa B W pba cba hba.1 hba.2.1 hba.2.2 (HYa.out.kept hW)))
            have HD:=Lib.hid hd
            clear hma
            cases d with
            | false =>
              have HF2:=Lib.hid (HNO.out rfl)
              clear HNO hd
              go_wp2_with (go_at_call 64;(with_reducible refine(HTO.out _ (HG.out.alloc _)).mono ?_);rintro e w6 ⟨rfl,g6⟩;have HG6:=Lib.hid ((HG.out.alloc _).trans g6);clear g6)
              go_ret
              exact⟨ret_bool HF2.out.symm,HG0.out.trans HG6.out⟩
            | true =>
              clear HNO hd
              go_wp2_with (go_at_call 64;(with_reducible refine(HTO.out _ (HG.out.alloc _)).mono ?_);rintro e w6 ⟨rfl,g6⟩;have HG6:=Lib.hid ((HG.out.alloc _).trans g6);clear g6)
              go_roundg (ts.length - (j+1))
              case measure=>have:=HLa.out;omega
              case rel=>exact⟨j+1,by go_num,HLa.out,rfl,Lib.hid (by rw [all_snoc HTa.out,HI.out,Bool.true_and];exact HD.out),HG6⟩
           ·obtain rfl:j=ts.length:=by omega
            rw [List.take_length] at HI
            go_wp2
            go_ret
            exact⟨ret_bool (by rw [← HM.out];exact HI.out.symm),HG0.out.trans HG.out⟩

end Go.Proofs.YtcknpcbkofgdoaaGreatDoor
namespace Go.Proofs.YtcknpcbkofgdoaaGreatDoor
open Go Go.RowKit Go.IntWalk
set_option linter.unusedSimpArgs false
set_option linter.unusedVariables false
set_option maxRecDepth 8000
section
variable {dst:Option Tmp}{ty:TypeId}{pos:String}{after:Array Edge}{g:Option (Nat × Bool)}{a:Act}{w:World}{T:Value→World→Prop}
theorem rn_cat_9 {o1 o2:Operand}{b c:List UInt8}(hx:a.eval o1=.string ⟨b.toArray⟩) (hy:a.eval o2=.string ⟨c.toArray⟩) (hb:b.length+c.length≤9223372036854775807) (h:T (.string ⟨(b++c).toArray⟩) w):Runs Tryz.prog ⟨dst,.binOp .add 9 o1 o2 9,ty,pos,after,g⟩ a w T:=by
 have hs:(⟨b.toArray⟩:ByteArray)++⟨c.toArray⟩=⟨(b++c).toArray⟩:=by apply ByteArray.ext;simp
 have hn:¬ 9223372036854775807 < b.length+c.length:=by omega
 refine Runs.value (v:=.string ⟨(b++c).toArray⟩) (w':=w) ?_ h
 rw [← hs]
 simp only [execOp,hx,hy]
 go_simp
theorem rn_idx_33 {x y:Operand}{b o n c:Nat}(i:Nat) (hx:a.eval x=.slice (some ⟨b,o,none⟩) n c) (hy:a.eval y=.int .i64 (i:Int)) (hi:i < n) (h:T (.pointer (some ⟨b,o+i * 6,none⟩)) w):Runs Tryz.prog ⟨dst,.indexAddr 33 x y,ty,pos,after,g⟩ a w T:=by
 have hi2:(i:Int) < (n:Int):=by omega
 refine Runs.value (v:=.pointer (some ⟨b,o+i * 6,none⟩)) (w':=w) ?_ h
 simp only [execOp,hx,hy]
 go_simp
theorem rn_ld_35 {x:Operand}{S o:Nat}{v0 v1 v2 v3 v4 v5:Value}(hx:a.eval x=.pointer (some ⟨S,o,none⟩)) (h0:w.cell? ⟨S,o,none⟩=some v0) (h1:w.cell? ⟨S,o+1,none⟩=some v1) (h2:w.cell? ⟨S,o+2,none⟩=some v2) (h3:w.cell? ⟨S,o+3,none⟩=some v3) (h4:w.cell? ⟨S,o+4,none⟩=some v4) (h5:w.cell? ⟨S,o+5,none⟩=some v5) (h:T (.agg #[v0,v1,v2,v3,v4,v5]) w):Runs Tryz.prog ⟨dst,.load 35 x,ty,pos,after,g⟩ a w T:=by
 refine Runs.value (v:=.agg #[v0,v1,v2,v3,v4,v5]) (w':=w) ?_ h
 simp only [execOp,hx]
 go_simp
end
end Go.Proofs.YtcknpcbkofgdoaaGreatDoor
namespace Go.Proofs.YtcknpcbkofgdoaaGreatDoor
open Go Go.RowKit Go.IntWalk
set_option linter.unusedSimpArgs false
set_option linter.unusedVariables false
set_option maxRecDepth 8000
section
variable {dst:Option Tmp}{ty:TypeId}{pos:String}{after:Array Edge}{g:Option (Nat × Bool)}{a:Act}{w:World}{T:Value→World→Prop}
end
abbrev sv (k:Int) (s:ByteArray) (n:Int) (ap:Option Addr) (an ac:Nat) (bp:Option Addr) (bn bc:Nat) (ep:Option Addr) (en ec:Nat) (q:Int):Value:=.agg #[.int .i64 k,.string s,.int .i64 n,.slice ap an ac,.slice bp bn bc,.slice ep en ec,.int .i64 q]
end Go.Proofs.YtcknpcbkofgdoaaGreatDoor
namespace Go.Proofs.YtcknpcbkofgdoaaGreatDoor
open Go Go.RowKit Go.IntWalk
set_option linter.unusedSimpArgs false
set_option linter.unusedVariables false
set_option maxRecDepth 8000
def optT (w:List UInt8) (n:Int):List UInt8:=if n=0 then [] else (([32]++w)++[32])++numZ n
def tskO (s:ByteArray):List UInt8:=[116,97,115,107,32]++s.data.toList
def tskE (O:List UInt8) (i:Int):List UInt8:=(O++[32,101,118,101,114,121,32])++numZ i
def tskC (O:List UInt8) (h m:ByteArray) (n:Int):List UInt8:=((((((O)++([32,111,110,32]))++(h.data.toList))++([40]))++(m.data.toList))++([41]))++(optT [119,105,116,104,105,110] n)
def tskH (t:Ta):List UInt8:=if t.p=0 then tskC (tskO t.s) t.c t.m t.w else tskE (tskO t.s) t.p
def tskF (O Y:List UInt8) (d:Int):List UInt8:=((((O)++(optT [100,101,97,100,108,105,110,101] d))++([32,123,10]))++(Y))++([125,10])
def tskT (t:Ta):List UInt8:=tskF (tskH t) (linL t.b [32,32,32,32]) t.d
theorem optT_len (w:List UInt8) (n:Int) (h:0≤n∧n≤32767):(optT w n).length≤w.length+8:=by
 have:=numZ_len (z:=n) (by omega)
 rw [optT]
 split
 ·exact Nat.zero_le _
 ·simp only [List.length_append,List.length_cons,List.length_nil];omega
theorem okT_cases {t:Ta}(h:okT t=true):idn t.s=true∧(0≤t.d∧t.d≤32767)∧okSs t.b=true∧((t.p=0∧idn t.c=true∧idn t.m=true∧0≤t.w∧t.w≤32767)∨((1≤t.p∧t.p≤32767)∧t.c=⟨#[]⟩∧t.m=⟨#[]⟩∧t.w=0)):=by
 rw [okT,Bool.and_eq_true] at h
 obtain ⟨h1,h2⟩:=h
 rw [hdT,Bool.not_eq_true'] at h1
 simp only [Bool.or_eq_false_iff,Bool.not_eq_false'] at h1
 obtain ⟨⟨p1,p2⟩,p3⟩:=h1
 rw [num1,Bool.and_eq_true,decide_eq_true_eq,decide_eq_true_eq] at p2
 refine⟨p1,p2,p3,?_⟩
 rw [tlT] at h2
 split at h2
 ·rename_i h0
  simp only [Bool.and_eq_true,num1,decide_eq_true_eq] at h2
  exact .inl ⟨h0,h2.1.1,h2.1.2,h2.2⟩
 ·simp only [Bool.and_eq_true,num1,decide_eq_true_eq,beq_iff_eq] at h2
  exact .inr ⟨h2.1.1.1,h2.1.1.2,h2.1.2,h2.2⟩
end Go.Proofs.YtcknpcbkofgdoaaGreatDoor
namespace Go.Proofs.YtcknpcbkofgdoaaGreatDoor
open Go Go.RowKit Go.IntWalk
set_option linter.unusedSimpArgs false
set_option linter.unusedVariables false
set_option maxRecDepth 8000
def lnC (O:List UInt8) (s:ByteArray) (z:Int):List UInt8:=(((((O)++([99,111,110,115,116,32]))++(s.data.toList))++([32,61,32]))++(numZ z))++([59,10])
def lnH (O:List UInt8) (s:ByteArray) (z:Int):List UInt8:=(((((O)++([99,104,97,110,110,101,108,32]))++(s.data.toList))++([91]))++(numZ z))++([93,59,10])
def lnG1 (O:List UInt8) (s:ByteArray):List UInt8:=(O++[118,97,114,32])++s.data.toList
def lnG2 (O:List UInt8) (l i:Int):List UInt8:=if 0 < l then ((O++[91])++numZ l)++[93] else if i≠0 then (O++[32,61,32])++numZ i else O
def lnG (O:List UInt8) (s:ByteArray) (l i:Int):List UInt8:=lnG2 (lnG1 O s) l i++[59,10]
def lnS (O:List UInt8) (s:ByteArray):List UInt8:=((O++[115,101,110,115,111,114,32])++s.data.toList)++[59,10]
def lnO (O:List UInt8) (s:ByteArray):List UInt8:=((O++[111,117,116,112,117,116,32])++s.data.toList)++[59,10]
def fCs (O:List UInt8) (l:List Cn):List UInt8:=l.foldl (fun O c=>lnC O c.s c.v) O
def fGs (O:List UInt8) (l:List Gl):List UInt8:=l.foldl (fun O c=>lnG O c.s c.l c.i) O
def fSs (O:List UInt8) (l:List ByteArray):List UInt8:=l.foldl lnS O
def fOs (O:List UInt8) (l:List ByteArray):List UInt8:=l.foldl lnO O
def fHs (O:List UInt8) (l:List Cn):List UInt8:=l.foldl (fun O c=>lnH O c.s c.v) O
def fTs (O:List UInt8) (l:List Ta):List UInt8:=l.foldl (fun O t=>O++tskT t) O
def fmT (P:Pg):List UInt8:=fTs (fHs (fOs (fSs (fGs (fCs [] P.cs) P.gs) P.ss) P.os) P.hs) P.ts
theorem okC_of {s:ByteArray}{z:Int}(h:okC s z=true):idn s=true∧-32767≤z:=by
 rw [okC,Bool.not_eq_true'] at h
 simp only [Bool.or_eq_false_iff,Bool.not_eq_false',decide_eq_false_iff_not] at h
 exact⟨h.1,by omega⟩
theorem okH_of {s:ByteArray}{z:Int}(h:okH s z=true):idn s=true∧0≤z∧z≤32767:=by
 rw [okH,Bool.not_eq_true'] at h
 simp only [Bool.or_eq_false_iff,Bool.not_eq_false',num1,Bool.and_eq_true,decide_eq_true_eq] at h
 exact h
theorem okG_of {s:ByteArray}{l i:Int}(h:okG s l i=true):idn s=true∧(0≤l∧l≤32767)∧-32767≤i∧(0 < l→i=0):=by
 rw [okG,Bool.not_eq_true'] at h
 simp only [Bool.or_eq_false_iff,Bool.not_eq_false',num1,Bool.and_eq_true,decide_eq_true_eq,decide_eq_false_iff_not,Bool.and_eq_false_iff] at h
 obtain ⟨⟨⟨h1,h2⟩,h3⟩,h4⟩:=h
 refine⟨h1,h2,by omega,fun h5=>?_⟩
 rcases h4 with h4 | h4
 ·omega
 ·simpa using h4
end Go.Proofs.YtcknpcbkofgdoaaGreatDoor
namespace Go.Proofs.YtcknpcbkofgdoaaGreatDoor
open Go Go.RowKit Go.IntWalk
set_option linter.unusedSimpArgs false
set_option linter.unusedVariables false
set_option maxRecDepth 8000
mutual
def stX:Xp→Xp
 | ⟨k,s,v,o,ar,_⟩=>⟨k,s,v,o,stXs ar,0⟩
def stXs:List Xp→List Xp
 | []=>[]
 | x :: xs=>stX x :: stXs xs
end
end Go.Proofs.YtcknpcbkofgdoaaGreatDoor
namespace Go.Proofs.YtcknpcbkofgdoaaGreatDoor
open Go Go.RowKit Go.IntWalk
set_option linter.unusedSimpArgs false
set_option linter.unusedVariables false
set_option maxRecDepth 8000
mutual
def stS:Sm→Sm
 | ⟨k,s,n,ar,b,e,_⟩=>⟨k,s,n,stXs ar,stSs b,stSs e,0⟩
def stSs:List Sm→List Sm
 | []=>[]
 | x :: xs=>stS x :: stSs xs
end
theorem stSs_len:∀l:List Sm,(stSs l).length=l.length
 | []=>by rw [stSs]
 | x :: l=>by rw [stSs,List.length_cons,List.length_cons,stSs_len l]
end Go.Proofs.YtcknpcbkofgdoaaGreatDoor
namespace Go.Proofs.YtcknpcbkofgdoaaGreatDoor
open Go Go.RowKit Go.IntWalk
set_option linter.unusedSimpArgs false
set_option linter.unusedVariables false
set_option maxRecDepth 8000
theorem SL_fit {B:Nat→Prop}{w:World}:∀(n:Nat) (p:Option Addr) (c:Nat) (xs:List Sm),nSs xs < n→SL B w p c xs→fitSs xs:=by
 intro n
 induction n with
 | zero=>intro _ _ _ h;exact absurd h (Nat.not_lt_zero _)
 | succ n ih =>
   intro p c xs hn hx
   obtain ⟨-,L,-,h2⟩:=hx
   induction xs generalizing L with
   | nil=>rw [fitSs];trivial
   | cons x xs ihx =>
     rw [SsAt] at h2
     rw [nSs] at hn
     obtain ⟨d,L',rfl,h3,h4⟩:=h2
     rw [SAt_iff] at h3
     obtain ⟨ap,ac,bp,bc,ep,ec,_,_,h5,h6,h7⟩:=h3
     rw [fitSs]
     rw [nS_be] at hn
     refine⟨?_,ihx (by omega) L' h4⟩
     rw [x.eta,fitS]
     exact⟨h5.fit,ih bp bc x.b (by omega) h6,ih ep ec x.e (by omega) h7⟩
theorem SL.fit {B:Nat→Prop}{w:World}{p:Option Addr}{c:Nat}{xs:List Sm}(h:SL B w p c xs):fitSs xs:=SL_fit _ _ _ _ (Nat.lt_succ_self _) h
end Go.Proofs.YtcknpcbkofgdoaaGreatDoor
namespace Go.Proofs.YtcknpcbkofgdoaaGreatDoor
open Go Go.RowKit Go.IntWalk
set_option linter.unusedSimpArgs false
set_option linter.unusedVariables false
set_option maxRecDepth 8000
section
variable {dst:Option Tmp}{ty:TypeId}{pos:String}{after:Array Edge}{g:Option (Nat × Bool)}{a:Act}{w:World}{T:Value→World→Prop}
theorem rn_cv_32_3 {x:Operand}{z:Int}(hx:a.eval x=.int .i16 z) (hb:-9223372036854775808≤z∧z≤9223372036854775807) (h:T (.int .i64 z) w):Runs Tryz.prog ⟨dst,.convert 32 3 x,ty,pos,after,g⟩ a w T:=by
 refine Runs.value (v:=.int .i64 z) (w':=w) ?_ h
 have hw:IntKind.i64.wrap z=z:=IntWalk.i64_in _ hb
 simp only [execOp,hx]
 go_simp
end
theorem tskT_len (t:Ta) (h:okT t=true) (hf:fitSs t.b) (hd:4+4 * dSs t.b≤400):(tskT t).length≤3000 * nSs t.b+64 * mSs t.b+400:=by
 obtain ⟨c1,c2,c3,c4⟩:=okT_cases h
 have l1:=linL_len t.b [32,32,32,32] c3 hf (by simpa using hd)
 have ls:=idn_len c1
 have lod:=optT_len [100,101,97,100,108,105,110,101] t.d c2
 simp only [List.length_cons,List.length_nil] at lod
 have lO:(tskO t.s).length≤37:=by rw [tskO,List.length_append];simp only [List.length_cons,List.length_nil];omega
 have lH:(tskH t).length≤200:=by
  rw [tskH]
  rcases c4 with ⟨c4,c5,c6,c7⟩ | ⟨c4,-,-,-⟩
  ·rw [if_pos c4,tskC]
   have lh:=idn_len c5
   have lm:=idn_len c6
   have low:=optT_len [119,105,116,104,105,110] t.w c7
   simp only [List.length_cons,List.length_nil] at low
   simp only [List.length_append,List.length_cons,List.length_nil]
   omega
  ·rw [if_neg (by omega),tskE]
   have lz:=numZ_len (z:=t.p) (by omega)
   simp only [List.length_append,List.length_cons,List.length_nil]
   omega
 rw [tskT,tskF]
 simp only [List.length_append,List.length_cons,List.length_nil]
 omega
end Go.Proofs.YtcknpcbkofgdoaaGreatDoor
namespace Go.Proofs.YtcknpcbkofgdoaaGreatDoor
open Go Go.RowKit Go.IntWalk
set_option linter.unusedSimpArgs false
set_option linter.unusedVariables false
set_option maxRecDepth 8000
def eqH (kx:Int) (sx:ByteArray) (vx ox:Int) (nx:Nat) (ky:Int) (sy:ByteArray) (vy oy:Int) (ny:Nat):Bool:=!((((((kx) != (ky))||(!decide ((sx)=(sy))))||((vx) != (vy)))||((ox) != (oy)))||((((nx:Nat):Int)) != (((ny:Nat):Int))))
mutual
def eqX:Xp→Xp→Bool
 | ⟨k,s,v,o,ar,_⟩,⟨k',s',v',o',ar',_⟩=>eqH k s v o ar.length k' s' v' o' ar'.length&&eqXs ar ar'
def eqXs:List Xp→List Xp→Bool
 | x :: xs,y :: ys=>eqX x y&&eqXs xs ys
 | _,_=>true
end
theorem eqXs_nil (l:List Xp):eqXs [] l=true:=by rw [eqXs];simp
end Go.Proofs.YtcknpcbkofgdoaaGreatDoor
namespace Go.Proofs.YtcknpcbkofgdoaaGreatDoor
open Go Go.RowKit Go.IntWalk
set_option linter.unusedSimpArgs false
set_option linter.unusedVariables false
set_option maxRecDepth 8000
def eqHS (ka:Int) (sa:ByteArray) (na:Int) (na_:Nat) (kb:Int) (sb:ByteArray) (nb:Int) (nb_:Nat) (m1 m2:Bool):Bool:=!(((((((ka) != (kb))||(!decide ((sa)=(sb))))||((na) != (nb)))||((((na_:Nat):Int)) != (((nb_:Nat):Int))))||(!(m1)))||(!(m2)))
mutual
def eqS:Sm→Sm→Bool
 | ⟨k,s,n,ar,b,e,_⟩,⟨k',s',n',ar',b',e',_⟩=>eqHS k s n ar.length k' s' n' ar'.length (decide (b.length=b'.length)&&eqSz b b') (decide (e.length=e'.length)&&eqSz e e')&&eqXs ar ar'
def eqSz:List Sm→List Sm→Bool
 | x :: xs,y :: ys=>eqS x y&&eqSz xs ys
 | _,_=>true
end
def eqSs (a b:List Sm):Bool:=decide (a.length=b.length)&&eqSz a b
theorem eqS_eq (k n q k' n' q':Int) (s s':ByteArray) (ar ar':List Xp) (b e b' e':List Sm):eqS ⟨k,s,n,ar,b,e,q⟩ ⟨k',s',n',ar',b',e',q'⟩=(eqHS k s n ar.length k' s' n' ar'.length (eqSs b b') (eqSs e e')&&eqXs ar ar'):=by rw [eqS];rfl
theorem eqSz_nil (l:List Sm):eqSz [] l=true:=by rw [eqSz];simp
end Go.Proofs.YtcknpcbkofgdoaaGreatDoor
namespace Go.Proofs.YtcknpcbkofgdoaaGreatDoor
open Go Go.RowKit Go.IntWalk
set_option linter.unusedSimpArgs false
set_option linter.unusedVariables false
set_option maxRecDepth 8000
section
variable {dst:Option Tmp}{ty:TypeId}{pos:String}{after:Array Edge}{g:Option (Nat × Bool)}{a:Act}{w:World}{T:Value→World→Prop}
theorem rn_fld_49_0 {x:Operand}{S o:Nat}(hx:a.eval x=.pointer (some ⟨S,o,none⟩)) (h:T (.pointer (some ⟨S,o,none⟩)) w):Runs Tryz.prog ⟨dst,.fieldAddr 49 x 0,ty,pos,after,g⟩ a w T:=by
 refine Runs.value (v:=.pointer (some ⟨S,o,none⟩)) (w':=w) ?_ h
 simp only [execOp,hx]
 go_simp
end
end Go.Proofs.YtcknpcbkofgdoaaGreatDoor
namespace Go.Proofs.YtcknpcbkofgdoaaGreatDoor
open Go Go.RowKit Go.IntWalk
set_option linter.unusedSimpArgs false
set_option linter.unusedVariables false
set_option maxRecDepth 8000
section
variable {dst:Option Tmp}{ty:TypeId}{pos:String}{after:Array Edge}{g:Option (Nat × Bool)}{a:Act}{w:World}{T:Value→World→Prop}
theorem rn_idx_24 {x y:Operand}{b o n c:Nat}(i:Nat) (hx:a.eval x=.slice (some ⟨b,o,none⟩) n c) (hy:a.eval y=.int .i64 (i:Int)) (hi:i < n) (h:T (.pointer (some ⟨b,o+i,none⟩)) w):Runs Tryz.prog ⟨dst,.indexAddr 24 x y,ty,pos,after,g⟩ a w T:=by
 have hi2:(i:Int) < (n:Int):=by omega
 refine Runs.value (v:=.pointer (some ⟨b,o+i,none⟩)) (w':=w) ?_ h
 simp only [execOp,hx,hy]
 go_simp
end
end Go.Proofs.YtcknpcbkofgdoaaGreatDoor
namespace Go.Proofs.YtcknpcbkofgdoaaGreatDoor
open Go
open Go.Lib (decDigits)
set_option linter.unusedSimpArgs false
set_option linter.unusedVariables false
set_option maxRecDepth 8000
def HN (p:UInt8→Bool):List UInt8→Bool
 | []=>true
 | c :: _=>!p c
theorem tw_all {p:UInt8→Bool}:∀(r zs:List UInt8),r.all p=true→HN p zs=true→(r++zs).takeWhile p=r
 | [],[],_,_=>rfl
 | [],c :: zs,_,h=>by
   rw [HN,Bool.not_eq_true'] at h
   rw [List.nil_append,List.takeWhile_cons,h]
   rfl
 | c :: r,zs,h,hz=>by
   rw [List.all_cons,Bool.and_eq_true] at h
   rw [List.cons_append,List.takeWhile_cons,h.1,if_pos rfl,tw_all r zs h.2 hz]
theorem txs_cut {t zs:List UInt8}(hn:t≠[]) (hs:sk false (t++zs)=t++zs) (hf:fl (t++zs)=t.length):txs (t++zs)=t :: txs zs:=by
 rw [txs_eq,hs,if_neg (by simp [hn]),ft,hf]
 simp
theorem ltr_no {c:UInt8}(h:ltr c=true):ws c=false∧(c==47)=false:=by
 have h1:(97≤c.toNat∧c.toNat≤122)∨(65≤c.toNat∧c.toNat≤90)∨c.toNat=95:=by simpa [ltr] using h
 have key:∀d:UInt8,d.toNat≤47→c≠d:=fun d hd he=>by subst he;omega
 constructor
 ·simp [ws,key 32 (by decide),key 9 (by decide),key 10 (by decide),key 13 (by decide)]
 ·simp [key 47 (by decide)]
theorem dig_no {c:UInt8}(h:dig c=true):ws c=false∧(c==47)=false∧ltr c=false:=by
 have h1:48≤c.toNat∧c.toNat≤57:=by simpa [dig] using h
 have key:∀d:UInt8,d.toNat≤47→c≠d:=fun d hd he=>by subst he;omega
 refine⟨?_,?_,?_⟩
 ·simp [ws,key 32 (by decide),key 9 (by decide),key 10 (by decide),key 13 (by decide)]
 ·simp [key 47 (by decide)]
 ·have a1:¬ 97≤c.toNat:=by omega
  have a2:¬ 65≤c.toNat:=by omega
  have a3:¬ c.toNat=95:=by omega
  simp [ltr,a1,a2,a3]
theorem txs_word {t zs:List UInt8}(ht:idc t=true) (hn:t≠[]) (hz:HN wd zs=true):txs (t++zs)=t :: txs zs:=by
 match t,hn with
 | c :: r,_ =>
 rw [idc,Bool.and_eq_true] at ht
 obtain ⟨h1,h2⟩:=ltr_no ht.1
 refine txs_cut (by simp) ?_ ?_
 ·rw [List.cons_append,sk_fix]
  exact⟨h1,by rw [h2,Bool.false_and]⟩
 ·rw [List.cons_append,fl,if_pos ht.1,tw_all r zs ht.2 hz,List.length_cons]
  omega
theorem txs_dig {t zs:List UInt8}(ht:t.all dig=true) (hn:t≠[]) (hz:HN dig zs=true):txs (t++zs)=t :: txs zs:=by
 match t,hn with
 | c :: r,_ =>
 rw [List.all_cons,Bool.and_eq_true] at ht
 obtain ⟨h1,h2,h3⟩:=dig_no ht.1
 refine txs_cut (by simp) ?_ ?_
 ·rw [List.cons_append,sk_fix]
  exact⟨h1,by rw [h2,Bool.false_and]⟩
 ·rw [List.cons_append,fl,h3,if_neg (by simp),if_pos ht.1,tw_all r zs ht.2 hz,List.length_cons]
  omega
def one (c:UInt8):Bool:=[40,41,91,93,59,123,125,45].contains c
theorem txs_1 {c:UInt8}(h:one c=true) (zs:List UInt8):txs (c :: zs)=[c] :: txs zs:=by
 have hc:c=40∨c=41∨c=91∨c=93∨c=59∨c=123∨c=125∨c=45:=by simpa [one] using h
 have key:sk false ([c]++zs)=[c]++zs∧fl ([c]++zs)=1:=by
  rcases hc with rfl | rfl | rfl | rfl | rfl | rfl | rfl | rfl <;> cases zs <;> refine⟨rfl,?_⟩
  all_goals first | rfl | simp [fl,ltr,dig,mkl,mk2,mk1]
 exact txs_cut (t:=[c]) (by simp) key.1 key.2
theorem txs_nl (zs:List UInt8):txs (10 :: zs)=txs zs:=by
 rw [txs_eq,show sk false (10 :: zs)=sk false zs from rfl,← txs_eq]
theorem txs_eqs (zs:List UInt8):txs (61 :: 32 :: zs)=[61] :: txs zs:=by
 have:=txs_cut (t:=[61]) (zs:=32 :: zs) (by simp) rfl rfl
 rw [txs_sp] at this
 exact this
theorem txs_not (zs:List UInt8) (h:HN (·==61) zs=true):txs (33 :: zs)=[33] :: txs zs:=by
 refine txs_cut (t:=[33]) (by simp) (by cases zs <;> rfl) ?_
 cases zs with
 | nil=>rfl
 | cons c r =>
   rw [HN,Bool.not_eq_true'] at h
   have h2:mk2 33 c=false:=by simp only [mk2,h];rfl
   show max 1 (if mk2 33 c then 2 else if mk1 33 then 1 else 0)=1
   rw [h2]
   rfl
theorem o15 {o:Int}(h:3≤o∧o≤15):o=3∨o=4∨o=5∨o=6∨o=7∨o=8∨o=9∨o=10∨o=11∨o=12∨o=13∨o=14∨o=15:=by omega
theorem txs_op {o:Int}(h:3≤o∧o≤15) (zs:List UInt8):txs (sgT o++32 :: zs)=sgT o :: txs zs:=by
 have key:sgT o≠[]∧sk false (sgT o++32 :: zs)=sgT o++32 :: zs∧fl (sgT o++32 :: zs)=(sgT o).length:=by
  rcases o15 h with rfl | rfl | rfl | rfl | rfl | rfl | rfl | rfl | rfl | rfl | rfl | rfl | rfl <;> exact⟨by decide,rfl,rfl⟩
 rw [txs_cut key.1 key.2.1 key.2.2,txs_sp]
theorem digs_dec (n:Nat):(decDigits n).all dig=true:=by
 rw [List.all_eq_true]
 intro c hc
 have:=decDigits_digit n c hc
 simp [dig,this.1,this.2]
theorem numZ_pos {v:Int}(h:0≤v):numZ v=decDigits v.toNat:=by rw [numZ,if_neg (by omega)]
theorem wd_dig {zs:List UInt8}(h:HN wd zs=true):HN dig zs=true:=by
 match zs,h with
 | [],_=>rfl
 | c :: r,h =>
   rw [HN,wd,Bool.not_eq_true',Bool.or_eq_false_iff] at h
   rw [HN,h.2]
   rfl
theorem txs_numZ {v:Int}(h:0≤v){zs:List UInt8}(hz:HN wd zs=true):txs (numZ v++zs)=numZ v :: txs zs:=by
 rw [numZ_pos h]
 exact txs_dig (digs_dec _) (decDigits_ne _) (wd_dig hz)
theorem idn_idc {s:ByteArray}(h:idn s=true):idc s.data.toList=true∧s.data.toList≠[]∧kwT.contains s.data.toList=false∧s.data.toList.length≤32:=by
 rw [idn,idB,Bool.and_eq_true,Bool.and_eq_true,Bool.and_eq_true,Bool.not_eq_true',decide_eq_true_eq,decide_eq_true_eq] at h
 exact⟨h.2.1,fun h0=>by have:=h.2.2.1;rw [h0] at this;simp at this,h.1,h.2.2.2⟩
theorem txs_id {s:ByteArray}(h:idn s=true){zs:List UInt8}(hz:HN wd zs=true):txs (s.data.toList++zs)=s.data.toList :: txs zs:=txs_word (idn_idc h).1 (idn_idc h).2.1 hz
def opdK (least k o:Int) (t:List (List UInt8)):List (List UInt8):=if lvX k o < least then [40] :: (t++[[41]]) else t
def asmK (k:Int) (s:ByteArray) (v o:Int) (hs:List (Int × Int)) (ts:List (List (List UInt8))):List (List UInt8) :=
 if k=1 then [numZ v] else if k=3 then s.data.toList :: [91] :: (ts.getD 0 []++[[93]]) else if k=4 then [[114,101,97,100],[40],s.data.toList,[41]]
 else if k=5 then sgT o :: opdK 6 (hs.getD 0 (0,0)).1 (hs.getD 0 (0,0)).2 (ts.getD 0 [])
 else if k=6 then opdK (lfT o) (hs.getD 0 (0,0)).1 (hs.getD 0 (0,0)).2 (ts.getD 0 [])++sgT o :: opdK (lvT o+1) (hs.getD 1 (0,0)).1 (hs.getD 1 (0,0)).2 (ts.getD 1 [])
 else [s.data.toList]
mutual
def tkX:Xp→List (List UInt8)
 | ⟨k,s,v,o,ar,_⟩=>asmK k s v o (ar.map fun a=>(a.k,a.o)) (tkXs ar)
def tkXs:List Xp→List (List (List UInt8))
 | []=>[]
 | x :: xs=>tkX x :: tkXs xs
end
theorem tk1 (s:ByteArray) (v o q:Int) (ar:List Xp):tkX ⟨1,s,v,o,ar,q⟩=[numZ v]:=by rw [tkX];rfl
theorem tk2 (s:ByteArray) (v o q:Int) (ar:List Xp):tkX ⟨2,s,v,o,ar,q⟩=[s.data.toList]:=by rw [tkX];rfl
theorem tk3 (s:ByteArray) (v o q:Int) (a:Xp):tkX ⟨3,s,v,o,[a],q⟩=s.data.toList :: [91] :: (tkX a++[[93]]):=by rw [tkX,tkXs,tkXs];rfl
theorem tk4 (s:ByteArray) (v o q:Int) (ar:List Xp):tkX ⟨4,s,v,o,ar,q⟩=[[114,101,97,100],[40],s.data.toList,[41]]:=by rw [tkX];rfl
theorem tk5 (s:ByteArray) (v o q:Int) (a:Xp):tkX ⟨5,s,v,o,[a],q⟩=sgT o :: opdK 6 a.k a.o (tkX a):=by rw [tkX,tkXs,tkXs];rfl
theorem tk6 (s:ByteArray) (v o q:Int) (a b:Xp):tkX ⟨6,s,v,o,[a,b],q⟩=opdK (lfT o) a.k a.o (tkX a)++sgT o :: opdK (lvT o+1) b.k b.o (tkX b):=by rw [tkX,tkXs,tkXs,tkXs];rfl
theorem txs_opd {t:List UInt8}{tk:List (List UInt8)}(h:∀zs,HN wd zs=true→txs (t++zs)=tk++txs zs) (l k o:Int) (zs:List UInt8) (hz:HN wd zs=true):txs (opd l k o t++zs)=opdK l k o tk++txs zs:=by
 rw [opd,opdK]
 split
 ·rw [List.cons_append,txs_1 rfl,List.append_assoc,h _ rfl,List.singleton_append,txs_1 rfl]
  simp
 ·exact h zs hz
theorem opd_hd {t:List UInt8}(h:∃c r,t=c :: r∧(c==61)=false) (l k o:Int):∃c r,opd l k o t=c :: r∧(c==61)=false:=by
 rw [opd]
 split
 ·exact⟨40,_,rfl,rfl⟩
 ·exact h
theorem ltr_61 {c:UInt8}(h:ltr c=true):(c==61)=false:=by
 have h1:(97≤c.toNat∧c.toNat≤122)∨(65≤c.toNat∧c.toNat≤90)∨c.toNat=95:=by simpa [ltr] using h
 have:c≠61:=fun he=>by subst he;revert h1;decide
 simp [this]
theorem dig_61 {c:UInt8}(h:dig c=true):(c==61)=false:=by
 have:c≠61:=fun he=>by subst he;revert h;decide
 simp [this]
theorem id_hd {s:ByteArray}(h:idn s=true):∃c r,s.data.toList=c :: r∧(c==61)=false:=by
 obtain ⟨h1,h2,_⟩:=idn_idc h
 match hs:s.data.toList,h2 with
 | c :: r,_ =>
   rw [hs,idc,Bool.and_eq_true] at h1
   exact⟨c,r,rfl,ltr_61 h1.1⟩
theorem num_hd {v:Int}(h:0≤v):∃c r,numZ v=c :: r∧(c==61)=false:=by
 rw [numZ_pos h]
 have h1:=digs_dec v.toNat
 match hs:decDigits v.toNat,decDigits_ne v.toNat with
 | c :: r,_ =>
   rw [hs,List.all_cons,Bool.and_eq_true] at h1
   exact⟨c,r,rfl,dig_61 h1.1⟩
theorem app_hd {t r':List UInt8}(h:∃c r,t=c :: r∧(c==61)=false):∃c r,t++r'=c :: r∧(c==61)=false:=by
 obtain ⟨c,r,rfl,hc⟩:=h
 exact⟨c,r++r',rfl,hc⟩
theorem txX_hd (x:Xp) (h:okX x=true):∃c r,txX x=c :: r∧(c==61)=false:=by
 induction x using Xp.ind with
 | h k s v o ar q ih =>
 rcases ok_cases h with ⟨rfl,rfl,_,_,hv⟩ | ⟨hk,rfl,_,_,hs⟩ | ⟨rfl,a,rfl,_,_,hs,ha⟩ | ⟨rfl,a,rfl,_,_,ho,ha⟩ | ⟨rfl,a,b,rfl,_,_,ho,ha,hb⟩
 ·rw [tx1];exact num_hd hv
 ·rcases hk with rfl | rfl
  ·rw [tx2];exact id_hd hs
  ·rw [tx4];exact⟨114,_,rfl,rfl⟩
 ·rw [tx3];exact app_hd (app_hd (app_hd (id_hd hs)))
 ·rw [tx5]
  rcases ho with rfl | rfl
  ·exact⟨45,_,rfl,rfl⟩
  ·exact⟨33,_,rfl,rfl⟩
 ·rw [tx6];exact app_hd (app_hd (app_hd (app_hd (opd_hd (ih a (by simp) ha) _ _ _))))
theorem hd_HN {t zs:List UInt8}(h:∃c r,t=c :: r∧(c==61)=false):HN (·==61) (t++zs)=true:=by
 obtain ⟨c,r,rfl,hc⟩:=h
 rw [List.cons_append,HN,hc]
 rfl
theorem txs_txX (x:Xp) (h:okX x=true):∀zs,HN wd zs=true→txs (txX x++zs)=tkX x++txs zs:=by
 induction x using Xp.ind with
 | h k s v o ar q ih =>
 intro zs hz
 rcases ok_cases h with ⟨rfl,rfl,_,_,hv⟩ | ⟨hk,rfl,_,_,hs⟩ | ⟨rfl,a,rfl,_,_,hs,ha⟩ | ⟨rfl,a,rfl,_,_,ho,ha⟩ | ⟨rfl,a,b,rfl,_,_,ho,ha,hb⟩
 ·rw [tx1,tk1,txs_numZ hv hz];rfl
 ·rcases hk with rfl | rfl
  ·rw [tx2,tk2,txs_id hs hz];rfl
  ·rw [tx4,tk4]
   have h1:(([114,101,97,100,40]++s.data.toList)++[41])++zs=[114,101,97,100]++(40 :: (s.data.toList++(41 :: zs))):=by simp
   rw [h1,txs_word (by decide) (by simp) rfl,txs_1 rfl,txs_id hs rfl,txs_1 rfl]
   rfl
 ·rw [tx3,tk3]
  have h1:(((s.data.toList++[91])++txX a)++[93])++zs=s.data.toList++(91 :: (txX a++(93 :: zs))):=by simp
  rw [h1,txs_id hs rfl,txs_1 rfl,ih a (by simp) ha _ rfl,txs_1 rfl]
  simp
 ·rw [tx5,tk5]
  have h2:=txs_opd (ih a (by simp) ha) 6 a.k a.o zs hz
  rcases ho with rfl | rfl
  ·show txs (45 :: (opd 6 a.k a.o (txX a)++zs))=_
   rw [txs_1 rfl,h2]
   rfl
  ·show txs (33 :: (opd 6 a.k a.o (txX a)++zs))=_
   rw [txs_not _ (hd_HN (opd_hd (txX_hd a ha) _ _ _)),h2]
   rfl
 ·rw [tx6,tk6]
  have h1:(((((opd (lfT o) a.k a.o (txX a))++[32])++sgT o)++[32])++opd (lvT o+1) b.k b.o (txX b))++zs=opd (lfT o) a.k a.o (txX a)++(32 :: (sgT o++(32 :: (opd (lvT o+1) b.k b.o (txX b)++zs)))):=by simp
  rw [h1,txs_opd (ih a (by simp) ha) _ _ _ _ rfl,txs_sp,txs_op ho,txs_opd (ih b (by simp) hb) _ _ _ _ hz]
  simp
def simK (k:Int) (n:List UInt8) (ta tb:List (List UInt8)):List (List UInt8) :=
 if k=1 then [108,101,116] :: n :: [61] :: (ta++[[59]]) else if k=2 then n :: [61] :: (ta++[[59]]) else if k=3 then n :: [91] :: (ta++[93] :: [61] :: (tb++[[59]]))
 else if k=7 then [115,101,110,100] :: n :: (ta++[[59]]) else if k=9 then [111,117,116,112,117,116] :: n :: (ta++[[59]]) else if k=8 then [101,109,105,116] :: (ta++[[59]])
 else if k=12 then [[99,104,101,99,107,112,111,105,110,116],[59]] else [[114,101,116,117,114,110],[59]]
def hedK (k m:Int) (ta:List (List UInt8)):List (List UInt8) :=
 if k=4 then [105,102] :: (ta++[[123]]) else if k=6 then [119,104,105,108,101] :: (ta++[[123]]) else if k=5 then [[114,101,112,101,97,116],numZ m,[123]] else if k=10 then [[102,114,101,115,104],numZ m,[123]] else if k=11 then [[116,111,103,101,116,104,101,114],numZ m,[123]] else []
def agK (ar:List Xp) (i:Nat):List (List UInt8):=(tkXs ar).getD i []
mutual
def tkS:Sm→List (List UInt8)
 | ⟨k,s,n,ar,b,e,_⟩=>if hedK k n (agK ar 0)=[] then simK k s.data.toList (agK ar 0) (agK ar 1) else hedK k n (agK ar 0)++(tkL b++elK e)
def tkL:List Sm→List (List UInt8)
 | []=>[]
 | x :: xs=>tkS x++tkL xs
def elK:List Sm→List (List UInt8)
 | []=>[[125]]
 | [x]=>if x.k=4 then [125] :: [101,108,115,101] :: tkS x else [125] :: [101,108,115,101] :: [123] :: ((tkS x++[])++[[125]])
 | x :: y :: r=>[125] :: [101,108,115,101] :: [123] :: ((tkS x++(tkS y++tkL r))++[[125]])
end
theorem elK_if (x:Sm) (h:x.k=4):elK [x]=[125] :: [101,108,115,101] :: tkS x:=by rw [elK,if_pos h]
theorem elK_else {e:List Sm}(h:e≠[]) (h2:∀x,e=[x]→x.k≠4):elK e=[125] :: [101,108,115,101] :: [123] :: (tkL e++[[125]]):=by
 match e with
 | []=>exact absurd rfl h
 | [x]=>rw [elK,if_neg (h2 x rfl),tkL,tkL]
 | x :: y :: r=>rw [elK,tkL,tkL]
def Tz (t:List UInt8) (tk:List (List UInt8)):Prop:=∀zs,txs (t++zs)=tk++txs zs
theorem ag0 (a:Xp) (l:List Xp):agT (a :: l) 0=txX a∧agK (a :: l) 0=tkX a:=by
 rw [agT,agK,txXs,tkXs];exact⟨rfl,rfl⟩
theorem ag1 (a b:Xp) (l:List Xp):agT (a :: b :: l) 1=txX b∧agK (a :: b :: l) 1=tkX b:=by
 rw [agT,agK,txXs,tkXs,txXs,tkXs];exact⟨rfl,rfl⟩
theorem ok1 {a:Xp}{l:List Xp}(h:okXs (a :: l)=true):okX a=true:=by rw [okXs,Bool.and_eq_true] at h;exact h.1
theorem ok2 {a b:Xp}{l:List Xp}(h:okXs (a :: b :: l)=true):okX b=true:=by rw [okXs,okXs,Bool.and_eq_true,Bool.and_eq_true] at h;exact h.2.1
theorem hed_iff (k m:Int) (ta:List UInt8) (tk:List (List UInt8)):(hedT k m ta=[]↔hedK k m tk=[]):=by
 unfold hedT hedK
 repeat' split
 all_goals simp
theorem txs_sim {k n q:Int}{s:ByteArray}{ar:List Xp}{b e:List Sm}(h:okS ⟨k,s,n,ar,b,e,q⟩=true) (hn:hedT k n (agT ar 0)=[]):Tz (simT k s.data.toList (agT ar 0) (agT ar 1)++[10]) (simK k s.data.toList (agK ar 0) (agK ar 1)):=by
 intro zs
 obtain ⟨hx,_,_,h⟩:=okS_cases h
 rcases h with ⟨hk,⟨a,rfl⟩,hs,_⟩ | ⟨rfl,⟨a,c,rfl⟩,hs,_⟩ | ⟨rfl,⟨a,rfl⟩,_⟩ | ⟨hk,rfl,_⟩ | ⟨rfl,⟨a,rfl⟩,_⟩ | ⟨rfl,⟨a,rfl⟩,_⟩ | ⟨hk,rfl,_⟩
 ·have hX:=txs_txX a (ok1 hx)
  rw [(ag0 a []).1,(ag0 a []).2]
  rcases hk with rfl | rfl | rfl | rfl
  ·show txs (((((([108,101,116,32]++s.data.toList)++[32,61,32])++txX a)++[59])++[10])++zs)=([108,101,116] :: s.data.toList :: [61] :: (tkX a++[[59]]))++txs zs
   have h1:(((((([108,101,116,32]++s.data.toList)++[32,61,32])++txX a)++[59])++[10])++zs)=[108,101,116]++(32 :: (s.data.toList++(32 :: 61 :: 32 :: (txX a++(59 :: 10 :: zs))))):=by simp
   rw [h1,txs_word (by decide) (by simp) rfl,txs_sp,txs_id hs rfl,txs_sp,txs_eqs,hX _ rfl,txs_1 rfl,txs_nl]
   simp
  ·show txs (((((s.data.toList++[32,61,32])++txX a)++[59])++[10])++zs)=(s.data.toList :: [61] :: (tkX a++[[59]]))++txs zs
   have h1:(((((s.data.toList++[32,61,32])++txX a)++[59])++[10])++zs)=s.data.toList++(32 :: 61 :: 32 :: (txX a++(59 :: 10 :: zs))):=by simp
   rw [h1,txs_id hs rfl,txs_sp,txs_eqs,hX _ rfl,txs_1 rfl,txs_nl]
   simp
  ·show txs (((((([115,101,110,100,32]++s.data.toList)++[32])++txX a)++[59])++[10])++zs)=([115,101,110,100] :: s.data.toList :: (tkX a++[[59]]))++txs zs
   have h1:(((((([115,101,110,100,32]++s.data.toList)++[32])++txX a)++[59])++[10])++zs)=[115,101,110,100]++(32 :: (s.data.toList++(32 :: (txX a++(59 :: 10 :: zs))))):=by simp
   rw [h1,txs_word (by decide) (by simp) rfl,txs_sp,txs_id hs rfl,txs_sp,hX _ rfl,txs_1 rfl,txs_nl]
   simp
  ·show txs (((((([111,117,116,112,117,116,32]++s.data.toList)++[32])++txX a)++[59])++[10])++zs)=([111,117,116,112,117,116] :: s.data.toList :: (tkX a++[[59]]))++txs zs
   have h1:(((((([111,117,116,112,117,116,32]++s.data.toList)++[32])++txX a)++[59])++[10])++zs)=[111,117,116,112,117,116]++(32 :: (s.data.toList++(32 :: (txX a++(59 :: 10 :: zs))))):=by simp
   rw [h1,txs_word (by decide) (by simp) rfl,txs_sp,txs_id hs rfl,txs_sp,hX _ rfl,txs_1 rfl,txs_nl]
   simp
 ·rw [(ag0 a [c]).1,(ag0 a [c]).2,(ag1 a c []).1,(ag1 a c []).2]
  show txs (((((((s.data.toList++[91])++txX a)++[93,32,61,32])++txX c)++[59])++[10])++zs)=(s.data.toList :: [91] :: (tkX a++[93] :: [61] :: (tkX c++[[59]])))++txs zs
  have h1:(((((((s.data.toList++[91])++txX a)++[93,32,61,32])++txX c)++[59])++[10])++zs)=s.data.toList++(91 :: (txX a++(93 :: 32 :: 61 :: 32 :: (txX c++(59 :: 10 :: zs))))):=by simp
  rw [h1,txs_id hs rfl,txs_1 rfl,txs_txX a (ok1 hx) _ rfl,txs_1 rfl,txs_sp,txs_eqs,txs_txX c (ok2 hx) _ rfl,txs_1 rfl,txs_nl]
  simp
 ·exfalso;rw [hedT,if_pos rfl] at hn;simp at hn
 ·exfalso;rcases hk with rfl | rfl | rfl <;> simp [hedT] at hn
 ·exfalso;simp [hedT] at hn
 ·have hX:=txs_txX a (ok1 hx)
  rw [(ag0 a []).1,(ag0 a []).2]
  show txs (((([101,109,105,116,32]++txX a)++[59])++[10])++zs)=([101,109,105,116] :: (tkX a++[[59]]))++txs zs
  have h1:(((([101,109,105,116,32]++txX a)++[59])++[10])++zs)=[101,109,105,116]++(32 :: (txX a++(59 :: 10 :: zs))):=by simp
  rw [h1,txs_word (by decide) (by simp) rfl,txs_sp,hX _ rfl,txs_1 rfl,txs_nl]
  simp
 ·rcases hk with rfl | rfl
  ·show txs ([99,104,101,99,107,112,111,105,110,116]++(59 :: 10 :: zs))=_
   rw [txs_word (by decide) (by simp) rfl,txs_1 rfl,txs_nl]
   rfl
  ·show txs ([114,101,116,117,114,110]++(59 :: 10 :: zs))=_
   rw [txs_word (by decide) (by simp) rfl,txs_1 rfl,txs_nl]
   rfl
theorem txs_hed {k n q:Int}{s:ByteArray}{ar:List Xp}{b e:List Sm}(h:okS ⟨k,s,n,ar,b,e,q⟩=true):Tz (hedT k n (agT ar 0)++[10]) (hedK k n (agK ar 0)):=by
 intro zs
 obtain ⟨hx,_,_,h⟩:=okS_cases h
 rcases h with ⟨hk,⟨a,rfl⟩,hs,_⟩ | ⟨rfl,⟨a,c,rfl⟩,hs,_⟩ | ⟨rfl,⟨a,rfl⟩,_⟩ | ⟨hk,rfl,_,hm,_⟩ | ⟨rfl,⟨a,rfl⟩,_⟩ | ⟨rfl,⟨a,rfl⟩,_⟩ | ⟨hk,rfl,_⟩
 ·rcases hk with rfl | rfl | rfl | rfl <;> exact txs_nl zs
 ·exact txs_nl zs
 ·rw [(ag0 a []).1,(ag0 a []).2]
  show txs (((([105,102,32]++txX a)++[32,123])++[10])++zs)=([105,102] :: (tkX a++[[123]]))++txs zs
  have h1:(((([105,102,32]++txX a)++[32,123])++[10])++zs)=[105,102]++(32 :: (txX a++(32 :: 123 :: 10 :: zs))):=by simp
  rw [h1,txs_word (by decide) (by simp) rfl,txs_sp,txs_txX a (ok1 hx) _ rfl,txs_sp,txs_1 rfl,txs_nl]
  simp
 ·rcases hk with rfl | rfl | rfl
  ·show txs (((([114,101,112,101,97,116,32]++numZ n)++[32,123])++[10])++zs)=_
   have h1:(((([114,101,112,101,97,116,32]++numZ n)++[32,123])++[10])++zs)=[114,101,112,101,97,116]++(32 :: (numZ n++(32 :: 123 :: 10 :: zs))):=by simp
   rw [h1,txs_word (by decide) (by simp) rfl,txs_sp,txs_numZ hm.1 rfl,txs_sp,txs_1 rfl,txs_nl]
   rfl
  ·show txs (((([102,114,101,115,104,32]++numZ n)++[32,123])++[10])++zs)=_
   have h1:(((([102,114,101,115,104,32]++numZ n)++[32,123])++[10])++zs)=[102,114,101,115,104]++(32 :: (numZ n++(32 :: 123 :: 10 :: zs))):=by simp
   rw [h1,txs_word (by decide) (by simp) rfl,txs_sp,txs_numZ hm.1 rfl,txs_sp,txs_1 rfl,txs_nl]
   rfl
  ·show txs (((([116,111,103,101,116,104,101,114,32]++numZ n)++[32,123])++[10])++zs)=_
   have h1:(((([116,111,103,101,116,104,101,114,32]++numZ n)++[32,123])++[10])++zs)=[116,111,103,101,116,104,101,114]++(32 :: (numZ n++(32 :: 123 :: 10 :: zs))):=by simp
   rw [h1,txs_word (by decide) (by simp) rfl,txs_sp,txs_numZ hm.1 rfl,txs_sp,txs_1 rfl,txs_nl]
   rfl
 ·rw [(ag0 a []).1,(ag0 a []).2]
  show txs (((([119,104,105,108,101,32]++txX a)++[32,123])++[10])++zs)=([119,104,105,108,101] :: (tkX a++[[123]]))++txs zs
  have h1:(((([119,104,105,108,101,32]++txX a)++[32,123])++[10])++zs)=[119,104,105,108,101]++(32 :: (txX a++(32 :: 123 :: 10 :: zs))):=by simp
  rw [h1,txs_word (by decide) (by simp) rfl,txs_sp,txs_txX a (ok1 hx) _ rfl,txs_sp,txs_1 rfl,txs_nl]
  simp
 ·exact txs_nl zs
 ·rcases hk with rfl | rfl <;> exact txs_nl zs
theorem txs_in4 {i:List UInt8}(h:∀zs,txs (i++zs)=txs zs):∀zs,txs (in4 i++zs)=txs zs:=fun zs=>by
 rw [in4,List.append_assoc,h]
 show txs (32 :: 32 :: 32 :: 32 :: zs)=_
 rw [txs_sp,txs_sp,txs_sp,txs_sp]
mutual
theorem txs_linS:∀(x:Sm) (i:List UInt8),okS x=true→(∀zs,txs (i++zs)=txs zs)→Tz (linS x i) (tkS x)
 | ⟨k,s,n,ar,b,e,q⟩,i,h,hi=>by
   intro zs
   have hok:=okS_cases h
   rw [linS,tkS]
   by_cases hh:hedT k n (agT ar 0)=[]
   ·rw [if_pos hh,if_pos ((hed_iff k n _ _).1 hh)]
    exact txs_sim h hh zs
   ·rw [if_neg hh,if_neg (fun h0=>hh ((hed_iff k n _ _).2 h0))]
    simp only [List.append_assoc]
    have h1:=txs_hed h (linL b (in4 i)++(i++(elsT e i++zs)))
    simp only [List.append_assoc] at h1
    rw [h1,txs_linL b (in4 i) hok.2.1 (txs_in4 hi),hi,txs_elsT e i hok.2.2.1 hi]
theorem txs_linL:∀(l:List Sm) (i:List UInt8),okSs l=true→(∀zs,txs (i++zs)=txs zs)→Tz (linL l i) (tkL l)
 | [],i,_,_=>fun zs=>by rw [linL,tkL];rfl
 | x :: xs,i,h,hi=>by
   intro zs
   rw [okSs,Bool.and_eq_true] at h
   rw [linL,tkL]
   simp only [List.append_assoc]
   rw [hi,txs_linS x i h.1 hi,txs_linL xs i h.2 hi]
theorem txs_elsT:∀(e:List Sm) (i:List UInt8),okSs e=true→(∀zs,txs (i++zs)=txs zs)→Tz (elsT e i) (elK e)
 | [],i,_,_=>fun zs=>by
   rw [elsT,elK]
   show txs (125 :: 10 :: zs)=_
   rw [txs_1 rfl,txs_nl]
   rfl
 | [x],i,h,hi=>by
   intro zs
   rw [okSs,Bool.and_eq_true] at h
   rw [elsT,elK]
   split
   ·show txs (125 :: 32 :: ([101,108,115,101]++(32 :: (linS x i++zs))))=_
    rw [txs_1 rfl,txs_sp,txs_word (by decide) (by simp) rfl,txs_sp,txs_linS x i h.1 hi]
    rfl
   ·simp only [List.append_assoc,List.nil_append]
    show txs (125 :: 32 :: ([101,108,115,101]++(32 :: 123 :: 10 :: (in4 i++(linS x (in4 i)++(i++(125 :: 10 :: zs)))))))=_
    rw [txs_1 rfl,txs_sp,txs_word (by decide) (by simp) rfl,txs_sp,txs_1 rfl,txs_nl,txs_in4 hi,txs_linS x (in4 i) h.1 (txs_in4 hi),hi,txs_1 rfl,txs_nl]
    simp
 | x :: y :: r,i,h,hi=>by
   intro zs
   rw [okSs,okSs,Bool.and_eq_true,Bool.and_eq_true] at h
   rw [elsT,elK]
   simp only [List.append_assoc,List.nil_append]
   show txs (125 :: 32 :: ([101,108,115,101]++(32 :: 123 :: 10 :: (in4 i++(linS x (in4 i)++(in4 i++(linS y (in4 i)++(linL r (in4 i)++(i++(125 :: 10 :: zs))))))))))=_
   rw [txs_1 rfl,txs_sp,txs_word (by decide) (by simp) rfl,txs_sp,txs_1 rfl,txs_nl,txs_in4 hi,txs_linS x (in4 i) h.1 (txs_in4 hi),txs_in4 hi,txs_linS y (in4 i) h.2.1 (txs_in4 hi),txs_linL r (in4 i) h.2.2 (txs_in4 hi),hi,txs_1 rfl,txs_nl]
   simp
end
end Go.Proofs.YtcknpcbkofgdoaaGreatDoor
namespace Go.Proofs.YtcknpcbkofgdoaaGreatDoor
open Go
open Go.Lib (decDigits)
set_option linter.unusedSimpArgs false
set_option linter.unusedVariables false
set_option maxRecDepth 8000
def okN (t:List UInt8):Bool:=decide (dval 0 t≤32767)&&!(decide (1 < t.length)&&t.head?==some 48)
def kdT (t:List UInt8):Int:=match t with
 | []=>5
 | c :: r=>if ltr c=true then (if kwT.contains (c :: r)=true then 3 else if (c :: r).length≤32 then 1 else 5) else if dig c=true then (if okN (c :: r)=true then 2 else 5) else if mkl (c :: r)=0 then 5 else 4
structure Kz (T:Type) where
 tx:T→List UInt8
 kn:T→Int
 vl:T→Int
 ps:T→Int
structure Kz.Good {T:Type}(Z:Kz T):Prop where
 kn:∀t,Z.kn t=kdT (Z.tx t)
 vl:∀t,Z.kn t=2→Z.vl t=(dval 0 (Z.tx t):Nat)
abbrev Ro (T α:Type):=Except (List T) (α × List T)
def bd {T α β:Type}(x:Ro T α) (f:α→List T→Ro T β):Ro T β:=match x with
 | .ok (a,r)=>f a r
 | .error e=>.error e
def opF (u:List UInt8):Option Int:=([3,4,5,6,7,8,9,10,11,12,13,14,15]:List Int).find? (fun o=>sgT o==u)
def Ev {α:Type}(f:Nat→α) (v:α):Prop:=∃n,∀m,n≤m→f m=v
section
variable {α β T:Type}
theorem Ev.pure (v:α):Ev (fun _=>v) v:=⟨0,fun _ _=>rfl⟩
theorem Ev.one {f:Nat→α}{v v':α}(h:Ev f v) (h':Ev f v'):v=v':=by
 obtain ⟨n,h⟩:=h
 obtain ⟨n',h'⟩:=h'
 rw [← h (n+n') (by omega),h' (n+n') (by omega)]
theorem Ev.succ {f g:Nat→α}{v:α}(e:∀m,f (m+1)=g m) (h:Ev g v):Ev f v:=by
 obtain ⟨n,h⟩:=h
 refine⟨n+1,fun m hm=>?_⟩
 obtain ⟨k,rfl⟩:∃k,m=k+1:=⟨m - 1,by omega⟩
 rw [e,h k (by omega)]
theorem Ev.pred {f g:Nat→α}{v:α}(e:∀m,f (m+1)=g m) (h:Ev f v):Ev g v:=by
 obtain ⟨n,h⟩:=h
 exact⟨n,fun m hm=>by rw [← e,h (m+1) (by omega)]⟩
theorem Ev.bd {g:Nat→Ro T α}{k:Nat→α→List T→Ro T β}{a:α}{r:List T}{v:Ro T β}(h:Ev g (.ok (a,r))) (h':Ev (fun m=>k m a r) v):Ev (fun m=>Go.Proofs.YtcknpcbkofgdoaaGreatDoor.bd (g m) (k m)) v:=by
 obtain ⟨n,h⟩:=h
 obtain ⟨n',h'⟩:=h'
 refine⟨n+n',fun m hm=>?_⟩
 show Go.Proofs.YtcknpcbkofgdoaaGreatDoor.bd (g m) (k m)=v
 rw [h m (by omega)]
 exact h' m (by omega)
theorem Ev.congr {f g:Nat→α}{v:α}(e:∀m,f m=g m) (h:Ev g v):Ev f v:=by
 obtain ⟨n,h⟩:=h
 exact⟨n,fun m hm=>by rw [e,h m hm]⟩
end
section
variable {T:Type}(Z:Kz T)
def isT (u:List UInt8):List T→Bool
 | t :: _=>Z.tx t==u
 | []=>false
def tkT (u:List UInt8):List T→Ro T T
 | t :: r=>if Z.tx t=u then .ok (t,r) else .error (t :: r)
 | []=>.error []
def idT:List T→Ro T T
 | t :: r=>if Z.kn t=1 then .ok (t,r) else .error (t :: r)
 | []=>.error []
def inT (least:Int):List T→Ro T Int
 | t :: r=>if Z.kn t=2∧least≤Z.vl t then .ok (Z.vl t,r) else .error (t :: r)
 | []=>.error []
def siT (ts:List T):Ro T Int:=if isT Z [45] ts=true then bd (tkT Z [45] ts) fun _ r=>bd (inT Z 0 r) fun v r=>.ok (-v,r) else inT Z 0 ts
abbrev nmT (t:T):ByteArray:=⟨(Z.tx t).toArray⟩
inductive Md where
 | prim
 | unar
 | expr (l:Int)
 | loop (l:Int) (x:Xp)
def rd:Nat→Md→List T→Ro T Xp
 | 0,_,ts=>.error ts
 | _+1,.prim,[]=>.error []
 | n+1,.prim,t :: r =>
   if Z.kn t=2 then .ok (⟨1,⟨#[]⟩,Z.vl t,0,[],Z.ps t⟩,r)
   else if Z.kn t=1 then
    (if isT Z [91] r=true then bd (tkT Z [91] r) fun _ r=>bd (rd n (.expr 1) r) fun x r=>bd (tkT Z [93] r) fun _ r=>.ok (⟨3,nmT Z t,0,0,[x],Z.ps t⟩,r)
    else .ok (⟨2,nmT Z t,0,0,[],Z.ps t⟩,r))
   else if Z.tx t=[114,101,97,100] then bd (tkT Z [40] r) fun _ r=>bd (idT Z r) fun s r=>bd (tkT Z [41] r) fun _ r=>.ok (⟨4,nmT Z s,0,0,[],Z.ps t⟩,r)
   else bd (tkT Z [40] (t :: r)) fun _ r=>bd (rd n (.expr 1) r) fun x r=>bd (tkT Z [41] r) fun _ r=>.ok (x,r)
 | _+1,.unar,[]=>.error []
 | n+1,.unar,t :: r =>
   if Z.tx t=[45] then bd (rd n .unar r) fun x r=>.ok (⟨5,⟨#[]⟩,0,1,[x],Z.ps t⟩,r)
   else if Z.tx t=[33] then bd (rd n .unar r) fun x r=>.ok (⟨5,⟨#[]⟩,0,2,[x],Z.ps t⟩,r)
   else rd n .prim (t :: r)
 | n+1,.expr l,ts=>if 5 < l then rd n .unar ts else bd (rd n (.expr (l+1)) ts) fun x r=>rd n (.loop l x) r
 | _+1,.loop _ x,[]=>.ok (x,[])
 | n+1,.loop l x,t :: r=>match opF (Z.tx t) with
   | none=>.ok (x,t :: r)
   | some o=>if lvT o=l then bd (rd n (.expr (l+1)) r) fun y r=>(if l=3 then .ok (⟨6,⟨#[]⟩,0,o,[x,y],Z.ps t⟩,r) else rd n (.loop l ⟨6,⟨#[]⟩,0,o,[x,y],Z.ps t⟩) r) else .ok (x,t :: r)
def Fo (l:Int) (r:List T):Prop:=∀t r',r=t :: r'→Z.tx t≠[91]∧∀o,opF (Z.tx t)=some o→lvT o < l∨(lvT o=l∧l≠3)
def Es (ts:List T) (x:Xp) (l:Int):Prop:=∀r v,Fo Z l r→Ev (fun n=>rd Z n (.loop l x) r) v→Ev (fun n=>rd Z n (.expr l) (ts++r)) v
variable {Z}
theorem opF_lv {u:List UInt8}{o:Int}(h:opF u=some o):3≤o∧o≤15∧1≤lvT o∧lvT o≤5:=by
 have h1:=List.mem_of_find?_eq_some h
 have h2:∀o ∈ ([3,4,5,6,7,8,9,10,11,12,13,14,15]:List Int),3≤o∧o≤15∧1≤lvT o∧lvT o≤5:=by decide
 exact h2 o h1
theorem opF_sg {o:Int}(h:3≤o∧o≤15):opF (sgT o)=some o∧sgT o≠[91]:=by
 rcases o15 h with rfl | rfl | rfl | rfl | rfl | rfl | rfl | rfl | rfl | rfl | rfl | rfl | rfl <;> decide
theorem Fo.up {l m:Int}{r:List T}(h:Fo Z l r) (hm:l < m):Fo Z m r:=fun t r' e=>⟨(h t r' e).1,fun o ho=>by have:=(h t r' e).2 o ho;omega⟩
theorem Fo.of {l:Int}{t:T}{r:List T}(h:Z.tx t≠[91]) (ho:opF (Z.tx t)=none):Fo Z l (t :: r):=fun t' r' e=>by
 obtain ⟨rfl,rfl⟩:=List.cons.inj e
 exact⟨h,fun o h'=>by rw [ho] at h';cases h'⟩
theorem Fo.is {l:Int}{r:List T}(h:Fo Z l r):isT Z [91] r=false:=by
 match r,h with
 | [],_=>rfl
 | t :: r,h=>rw [isT,beq_eq_false_iff_ne];exact(h t r rfl).1
theorem loop_ok {l:Int}{x:Xp}{r:List T}(h:∀t r',r=t :: r'→∀o,opF (Z.tx t)=some o→lvT o≠l):Ev (fun n=>rd Z n (.loop l x) r) (.ok (x,r)):=by
 refine Ev.succ (g:=fun _=>.ok (x,r)) (fun m=>?_) (Ev.pure _)
 match r,h with
 | [],_=>rw [rd]
 | t :: r,h =>
   rw [rd]
   cases ho:opF (Z.tx t) with
   | none=>rfl
   | some o =>
     show (if lvT o=l then _ else _)=_
     rw [if_neg (h t r rfl o ho)]
theorem Fo.stop {l m:Int}{x:Xp}{r:List T}(h:Fo Z l r) (hm:l < m):Ev (fun n=>rd Z n (.loop m x) r) (.ok (x,r)):=loop_ok fun t r' e o ho=>by have:=(h t r' e).2 o ho;omega
theorem Fo.stop3 {x:Xp}{r:List T}(h:Fo Z 3 r):Ev (fun n=>rd Z n (.loop 3 x) r) (.ok (x,r)):=loop_ok fun t r' e o ho=>by have:=(h t r' e).2 o ho;omega
theorem loop6 {x:Xp}{r:List T}:Ev (fun n=>rd Z n (.loop 6 x) r) (.ok (x,r)):=loop_ok fun t r' e o ho=>by have:=opF_lv ho;omega
theorem Es.down {ts:List T}{x:Xp}{L:Int}(h:Es Z ts x L) (hL:L≤6):∀(d:Nat) (l:Int),l+d=L→Es Z ts x l:=by
 intro d
 induction d with
 | zero =>
   intro l hl
   obtain rfl:l=L:=by omega
   exact h
 | succ d ih =>
   intro l hl r v hf hv
   have h1:=ih (l+1) (by omega) r (.ok (x,r)) (hf.up (by omega)) (hf.stop (by omega))
   refine Ev.succ (g:=fun m=>bd (rd Z m (.expr (l+1)) (ts++r)) fun x r=>rd Z m (.loop l x) r) (fun m=>by rw [rd,if_neg (by omega)]) (Ev.bd h1 hv)
theorem Es.at {ts:List T}{x:Xp}{L l:Int}(h:Es Z ts x L) (hL:L≤6) (hl:l≤L):Es Z ts x l:=h.down hL (L - l).toNat l (by omega)
theorem Es.of_unar {ts:List T}{x:Xp}(h:∀r,Fo Z 6 r→Ev (fun n=>rd Z n .unar (ts++r)) (.ok (x,r))):Es Z ts x 6:=fun r v hf hv=>by
 obtain rfl:=Ev.one hv loop6
 exact Ev.succ (fun m=>by rw [rd,if_pos (by omega)]) (h r hf)
theorem Es.unar {ts:List T}{x:Xp}(h:Es Z ts x 6){r:List T}(hf:Fo Z 6 r):Ev (fun n=>rd Z n .unar (ts++r)) (.ok (x,r)) :=
 Ev.pred (f:=fun n=>rd Z n (.expr 6) (ts++r)) (fun m=>by rw [rd,if_pos (by omega)]) (h r _ hf loop6)
theorem Es.whole {ts:List T}{x:Xp}(h:Es Z ts x 1){t:T}{r:List T}(h1:Z.tx t≠[91]) (ho:opF (Z.tx t)=none):Ev (fun n=>rd Z n (.expr 1) (ts++t :: r)) (.ok (x,t :: r)) :=
 h (t :: r) _ (Fo.of h1 ho) (loop_ok fun t' r' e o ho'=>by
  obtain ⟨rfl,rfl⟩:=List.cons.inj e
  rw [ho] at ho';cases ho')
theorem tkT_ok {u:List UInt8}{t:T}{r:List T}(h:Z.tx t=u):tkT Z u (t :: r)=.ok (t,r):=by rw [tkT,if_pos h]
theorem idT_ok {t:T}{r:List T}(h:Z.kn t=1):idT Z (t :: r)=.ok (t,r):=by rw [idT,if_pos h]
theorem bd_ok {α β:Type}(a:α) (r:List T) (f:α→List T→Ro T β):bd (.ok (a,r)) f=f a r:=rfl
theorem isT_yes {u:List UInt8}{t:T}{r:List T}(h:Z.tx t=u):isT Z u (t :: r)=true:=by rw [isT,h];exact beq_self_eq_true _
theorem isT_no {u:List UInt8}{t:T}{r:List T}(h:Z.tx t≠u):isT Z u (t :: r)=false:=by rw [isT];exact beq_eq_false_iff_ne.2 h
theorem kd_id {s:ByteArray}(h:idn s=true):kdT s.data.toList=1:=by
 obtain ⟨h1,h2,h3,h4⟩:=idn_idc h
 match hs:s.data.toList,h2 with
 | c :: r,_ =>
   rw [hs] at h1 h3 h4
   rw [idc,Bool.and_eq_true] at h1
   show (if ltr c=true then (if kwT.contains (c :: r)=true then (3:Int) else if (c :: r).length≤32 then 1 else 5) else _)=1
   rw [if_pos h1.1,h3,if_neg (by simp),if_pos h4]
theorem dec_hd {n:Nat}(h:1 < (decDigits n).length):(decDigits n).head?≠some 48:=by
 induction n using Nat.strongRecOn with
 | ind n ih =>
   by_cases hn:n < 10
   ·exfalso
    have:=decDigits_pow n 0 (by omega)
    omega
   ·have h10:decDigits n=decDigits (n / 10)++[UInt8.ofNat (48+n % 10)]:=by
     rw [decDigits];simp [hn]
    have hap:∀l r:List UInt8,l≠[]→(l++r).head?=l.head?:=fun l r h=>by cases l with
     | nil=>exact absurd rfl h
     | cons a l=>rfl
    rw [h10,hap _ _ (decDigits_ne _)]
    by_cases h1:1 < (decDigits (n / 10)).length
    ·exact ih (n / 10) (by omega) h1
    ·have hl:n / 10 < 10:=by
      refine Nat.lt_of_not_le fun hge=>h1 ?_
      have:decDigits (n / 10)=decDigits (n / 10 / 10)++[UInt8.ofNat (48+n / 10 % 10)]:=by
       rw [decDigits];simp [show ¬ n / 10 < 10 by omega]
      rw [this,List.length_append]
      have:=List.length_pos_iff.2 (decDigits_ne (n / 10 / 10))
      simp;omega
     have:decDigits (n / 10)=[UInt8.ofNat (48+n / 10)]:=by rw [decDigits];simp [hl]
     rw [this,List.head?_cons]
     intro hc
     have h2:=congrArg UInt8.toNat (Option.some.inj hc)
     rw [digit_toNat hl] at h2
     have:(48:UInt8).toNat=48:=rfl
     omega
theorem kd_num {v:Int}(h:0≤v∧v≤32767):kdT (numZ v)=2∧(dval 0 (numZ v):Nat)=v:=by
 rw [numZ_pos h.1]
 have h1:=digs_dec v.toNat
 have h2:=dval_decDigits v.toNat
 have h3:okN (decDigits v.toNat)=true:=by
  rw [okN,h2,Bool.and_eq_true,decide_eq_true_eq,Bool.not_eq_true',Bool.and_eq_false_iff]
  refine⟨by omega,?_⟩
  by_cases hl:1 < (decDigits v.toNat).length
  ·exact .inr (beq_eq_false_iff_ne.2 (dec_hd hl))
  ·exact .inl (decide_eq_false_iff_not.2 hl)
 refine⟨?_,by rw [h2];omega⟩
 match hs:decDigits v.toNat,decDigits_ne v.toNat with
 | c :: r,_ =>
   rw [hs] at h1 h3
   rw [List.all_cons,Bool.and_eq_true] at h1
   obtain ⟨_,_,h4⟩:=dig_no h1.1
   show (if ltr c=true then _ else if dig c=true then (if okN (c :: r)=true then (2:Int) else 5) else _)=2
   rw [h4,if_neg (by simp),if_pos h1.1,if_pos h3]
theorem ne_of_kd {u t:List UInt8}(h:kdT t≠kdT u):t≠u:=fun e=>h (by rw [e])
variable (hZ:Z.Good)
include hZ
theorem kn_id {s:ByteArray}(h:idn s=true){t:T}(ht:Z.tx t=s.data.toList):Z.kn t=1∧nmT Z t=s:=by
 refine⟨by rw [hZ.kn,ht,kd_id h],?_⟩
 show (⟨(Z.tx t).toArray⟩:ByteArray)=s
 rw [ht]
theorem kn_num {v:Int}(h:0≤v∧v≤32767){t:T}(ht:Z.tx t=numZ v):Z.kn t=2∧Z.vl t=v:=by
 have h1:=kd_num h
 have h2:Z.kn t=2:=by rw [hZ.kn,ht,h1.1]
 exact⟨h2,by rw [hZ.vl t h2,ht,h1.2]⟩
theorem kn_tx {t:T}{u:List UInt8}(ht:Z.tx t=u){k:Int}(hk:kdT u=k):Z.kn t=k:=by rw [hZ.kn,ht,hk]
theorem unar_prim {t:T}{r:List T}{v:Ro T Xp}(hk:Z.kn t≠4∨Z.tx t=[40]) (h:Ev (fun n=>rd Z n .prim (t :: r)) v):Ev (fun n=>rd Z n .unar (t :: r)) v:=by
 have h1:Z.tx t≠[45]∧Z.tx t≠[33]:=by
  rcases hk with hk | hk
  ·exact⟨fun e=>hk (kn_tx hZ e rfl),fun e=>hk (kn_tx hZ e rfl)⟩
  ·exact⟨fun e=>by rw [hk] at e;revert e;decide,fun e=>by rw [hk] at e;revert e;decide⟩
 exact Ev.succ (fun m=>by rw [rd,if_neg h1.1,if_neg h1.2]) h
theorem paren {ts:List T}{x:Xp}(h:Es Z ts x 1){t t':T}(ht:Z.tx t=[40]) (ht':Z.tx t'=[41]):Es Z (t :: (ts++[t'])) x 6:=by
 refine Es.of_unar fun r hf=>?_
 have e:t :: (ts++[t'])++r=t :: (ts++t' :: r):=by simp
 rw [e]
 refine unar_prim hZ (.inr ht) ?_
 have k1:Z.kn t=4:=kn_tx hZ ht rfl
 have h1:=h.whole (t:=t') (r:=r) (by rw [ht'];decide) (by rw [ht'];rfl)
 refine Ev.succ (g:=fun m=>bd (rd Z m (.expr 1) (ts++t' :: r)) fun x r=>bd (tkT Z [41] r) fun _ r=>.ok (x,r)) (fun m=>?_) (Ev.bd h1 ?_)
 ·rw [rd,if_neg (by omega),if_neg (by omega),if_neg (by rw [ht];decide),tkT_ok ht,bd_ok]
 ·exact Ev.congr (fun m=>by rw [tkT_ok ht',bd_ok]) (Ev.pure _)
theorem opd_es {x x':Xp}{ts:List T}{least:Int}(hl:1≤lvX x.k x.o) (hi:∀ts:List T,ts.map Z.tx=tkX x→∃x',stX x'=stX x∧∀l,1≤l→l≤lvX x.k x.o→l≤6→Es Z ts x' l) (hm:ts.map Z.tx=opdK least x.k x.o (tkX x)):∃x',stX x'=stX x∧∀l,1≤l→l≤least→l≤6→Es Z ts x' l:=by
 rw [opdK] at hm
 split at hm
 ·obtain ⟨t,ts1,rfl,ht,h1⟩:=List.map_eq_cons_iff.1 hm
  obtain ⟨ts2,ts3,rfl,h2,h3⟩:=List.map_eq_append_iff.1 h1
  obtain ⟨t',ts4,rfl,ht',h4⟩:=List.map_eq_cons_iff.1 h3
  obtain rfl:=List.map_eq_nil_iff.1 h4
  obtain ⟨x',hx,he⟩:=hi ts2 h2
  exact⟨x',hx,fun l l1 l2 l3=>(paren hZ (he 1 (by omega) hl (by omega)) ht ht').at (by omega) l3⟩
 ·obtain ⟨x',hx,he⟩:=hi ts hm
  exact⟨x',hx,fun l l1 l2 l3=>he l l1 (by omega) l3⟩
omit hZ in
theorem lvX_1 {x:Xp}(h:okX x=true):1≤lvX x.k x.o:=by
 match x,h with
 | ⟨k,s,v,o,ar,q⟩,h =>
   rcases ok_cases h with ⟨rfl,_⟩ | ⟨hk,_⟩ | ⟨rfl,_⟩ | ⟨rfl,_⟩ | ⟨rfl,a,b,_,_,_,ho,_⟩
   ·show 1≤lvX 1 o;simp [lvX]
   ·rcases hk with rfl | rfl
    ·show 1≤lvX 2 o;simp [lvX]
    ·show 1≤lvX 4 o;simp [lvX]
   ·show 1≤lvX 3 o;simp [lvX]
   ·show 1≤lvX 5 o;simp [lvX]
   ·show 1≤lvX 6 o
    have:lvX 6 o=lvT o:=by simp [lvX]
    rw [this]
    exact(opF_lv (opF_sg ho).1).2.2.1
theorem rd_tkX (x:Xp) (h:okX x=true) (hfit:fitX x):∀ts:List T,ts.map Z.tx=tkX x→∃x',stX x'=stX x∧∀l,1≤l→l≤lvX x.k x.o→l≤6→Es Z ts x' l:=by
 induction x using Xp.ind with
 | h k s v o ar q ih =>
 intro ts hm
 rw [fitX] at hfit
 rcases ok_cases h with ⟨rfl,rfl,rfl,rfl,hv⟩ | ⟨hk,rfl,rfl,rfl,hs⟩ | ⟨rfl,a,rfl,rfl,rfl,hs,ha⟩ | ⟨rfl,a,rfl,rfl,rfl,ho,ha⟩ | ⟨rfl,a,b,rfl,rfl,rfl,ho,ha,hb⟩
 ·rw [tk1] at hm
  obtain ⟨t,ts1,rfl,ht,h1⟩:=List.map_eq_cons_iff.1 hm
  obtain rfl:=List.map_eq_nil_iff.1 h1
  obtain ⟨k1,k2⟩:=kn_num hZ ⟨hv,hfit.1⟩ ht
  refine⟨⟨1,⟨#[]⟩,v,0,[],Z.ps t⟩,by rw [stX,stX],fun l l1 l2 l3=>Es.at (L:=6) (Es.of_unar fun r hf=>unar_prim hZ (.inl (by omega)) ?_) (by omega) l3⟩
  show Ev (fun n=>rd Z n .prim (t :: r)) _
  exact Ev.succ (g:=fun _=>_) (fun m=>by rw [rd,if_pos k1,k2]) (Ev.pure _)
 ·rcases hk with rfl | rfl
  ·rw [tk2] at hm
   obtain ⟨t,ts1,rfl,ht,h1⟩:=List.map_eq_cons_iff.1 hm
   obtain rfl:=List.map_eq_nil_iff.1 h1
   obtain ⟨k1,k2⟩:=kn_id hZ hs ht
   refine⟨⟨2,s,0,0,[],Z.ps t⟩,by rw [stX,stX],fun l l1 l2 l3=>Es.at (L:=6) (Es.of_unar fun r hf=>unar_prim hZ (.inl (by omega)) ?_) (by omega) l3⟩
   show Ev (fun n=>rd Z n .prim (t :: r)) _
   exact Ev.succ (g:=fun _=>_) (fun m=>by rw [rd,if_neg (by omega),if_pos k1,hf.is,if_neg (by simp),k2]) (Ev.pure _)
  ·rw [tk4] at hm
   obtain ⟨t,ts1,rfl,ht,h1⟩:=List.map_eq_cons_iff.1 hm
   obtain ⟨t2,ts2,rfl,ht2,h2⟩:=List.map_eq_cons_iff.1 h1
   obtain ⟨t3,ts3,rfl,ht3,h3⟩:=List.map_eq_cons_iff.1 h2
   obtain ⟨t4,ts4,rfl,ht4,h4⟩:=List.map_eq_cons_iff.1 h3
   obtain rfl:=List.map_eq_nil_iff.1 h4
   obtain ⟨k1,k2⟩:=kn_id hZ hs ht3
   have k3:Z.kn t=3:=kn_tx hZ ht rfl
   refine⟨⟨4,s,0,0,[],Z.ps t⟩,by rw [stX,stX],fun l l1 l2 l3=>Es.at (L:=6) (Es.of_unar fun r hf=>unar_prim hZ (.inl (by omega)) ?_) (by omega) l3⟩
   show Ev (fun n=>rd Z n .prim (t :: t2 :: t3 :: t4 :: r)) _
   exact Ev.succ (g:=fun _=>_) (fun m=>by rw [rd,if_neg (by omega),if_neg (by omega),if_pos ht,tkT_ok ht2,bd_ok,idT_ok k1,bd_ok,tkT_ok ht4,bd_ok,k2]) (Ev.pure _)
 ·rw [tk3] at hm
  obtain ⟨t,ts1,rfl,ht,h1⟩:=List.map_eq_cons_iff.1 hm
  obtain ⟨t2,ts2,rfl,ht2,h2⟩:=List.map_eq_cons_iff.1 h1
  obtain ⟨ts3,ts4,rfl,h3,h4⟩:=List.map_eq_append_iff.1 h2
  obtain ⟨t5,ts5,rfl,ht5,h5⟩:=List.map_eq_cons_iff.1 h4
  obtain rfl:=List.map_eq_nil_iff.1 h5
  obtain ⟨k1,k2⟩:=kn_id hZ hs ht
  rw [fitXs] at hfit
  obtain ⟨a',hx,he⟩:=ih a (by simp) ha hfit.2.1 ts3 h3
  refine⟨⟨3,s,0,0,[a'],Z.ps t⟩,by rw [stX,stX,stXs,stXs,stXs,stXs,hx],fun l l1 l2 l3=>Es.at (L:=6) (Es.of_unar fun r hf=>?_) (by omega) l3⟩
  have e:t :: t2 :: (ts3++[t5])++r=t :: t2 :: (ts3++t5 :: r):=by simp
  rw [e]
  refine unar_prim hZ (.inl (by omega)) ?_
  have hw:=(he 1 (by omega) (lvX_1 ha) (by omega)).whole (t:=t5) (r:=r) (by rw [ht5];decide) (by rw [ht5];rfl)
  refine Ev.succ (g:=fun m=>bd (rd Z m (.expr 1) (ts3++t5 :: r)) fun x r=>bd (tkT Z [93] r) fun _ r=>.ok (⟨3,nmT Z t,0,0,[x],Z.ps t⟩,r)) (fun m=>?_) (Ev.bd hw ?_)
  ·rw [rd,if_neg (by omega),if_pos k1,isT_yes ht2,if_pos rfl,tkT_ok ht2,bd_ok]
  ·exact Ev.congr (fun m=>by rw [tkT_ok ht5,bd_ok,k2]) (Ev.pure _)
 ·rw [tk5] at hm
  obtain ⟨t,ts1,rfl,ht,h1⟩:=List.map_eq_cons_iff.1 hm
  rw [fitXs] at hfit
  obtain ⟨a',hx,he⟩:=opd_es (x':=a) hZ (lvX_1 ha) (ih a (by simp) ha hfit.2.1) h1
  refine⟨⟨5,⟨#[]⟩,0,o,[a'],Z.ps t⟩,by rw [stX,stX,stXs,stXs,stXs,stXs,hx],fun l l1 l2 l3=>Es.at (L:=6) (Es.of_unar fun r hf=>?_) (by omega) l3⟩
  have hu:=(he 6 (by omega) (by omega) (by omega)).unar hf
  rw [List.cons_append]
  rcases ho with rfl | rfl
  ·refine Ev.succ (g:=fun m=>bd (rd Z m .unar (ts1++r)) fun x r=>.ok (⟨5,⟨#[]⟩,0,1,[x],Z.ps t⟩,r)) (fun m=>by rw [rd,if_pos (show Z.tx t=[45] from ht)]) (Ev.bd hu (Ev.pure _))
  ·refine Ev.succ (g:=fun m=>bd (rd Z m .unar (ts1++r)) fun x r=>.ok (⟨5,⟨#[]⟩,0,2,[x],Z.ps t⟩,r)) (fun m=>by rw [rd,if_neg (by rw [ht];decide),if_pos (show Z.tx t=[33] from ht)]) (Ev.bd hu (Ev.pure _))
 ·rw [tk6] at hm
  obtain ⟨tsA,ts1,rfl,hA,h1⟩:=List.map_eq_append_iff.1 hm
  obtain ⟨t,tsB,rfl,ht,hB⟩:=List.map_eq_cons_iff.1 h1
  rw [fitXs,fitXs] at hfit
  obtain ⟨a',hxa,hea⟩:=opd_es (x':=a) hZ (lvX_1 ha) (ih a (by simp) ha hfit.2.1) hA
  obtain ⟨b',hxb,heb⟩:=opd_es (x':=b) hZ (lvX_1 hb) (ih b (by simp) hb hfit.2.2.1) hB
  obtain ⟨ho1,ho2⟩:=opF_sg ho
  obtain ⟨_,_,p1,p5⟩:=opF_lv ho1
  rw [← ht] at ho1 ho2
  have hlv:lvX (Xp.mk 6 ⟨#[]⟩ 0 o [a,b] q).k (Xp.mk 6 ⟨#[]⟩ 0 o [a,b] q).o=lvT o:=by show lvX 6 o=_;simp [lvX]
  refine⟨⟨6,⟨#[]⟩,0,o,[a',b'],Z.ps t⟩,by rw [stX,stX,stXs,stXs,stXs,stXs,stXs,stXs,hxa,hxb],fun l l1 l2 l3=>Es.at (L:=lvT o) (fun r v hf hv=>?_) (by omega) (by rw [hlv] at l2;exact l2)⟩
  have e:tsA++t :: tsB++r=tsA++(t :: (tsB++r)):=by simp
  rw [e]
  have hb1:=heb (lvT o+1) (by omega) (by omega) (by omega) r (.ok (b',r)) (hf.up (by omega)) (hf.stop (by omega))
  by_cases h3:lvT o=3
  ·have hlf:lfT o=4:=by rw [lfT,if_pos h3]
   rw [h3] at hf hv hb1 ⊢
   obtain rfl:=Ev.one hv hf.stop3
   have hf4:Fo Z 4 (t :: (tsB++r)):=fun t' r' e=>by
    obtain ⟨rfl,rfl⟩:=List.cons.inj e
    exact⟨ho2,fun o' ho'=>by rw [ho1] at ho';obtain rfl:=Option.some.inj ho';omega⟩
   have ha1:=hea 4 (by omega) (by omega) (by omega) (t :: (tsB++r)) (.ok (a',t :: (tsB++r))) hf4 (loop_ok fun t' r' e o' ho'=>by
    obtain ⟨rfl,rfl⟩:=List.cons.inj e
    rw [ho1] at ho';obtain rfl:=Option.some.inj ho';omega)
   refine Ev.succ (g:=fun m=>bd (rd Z m (.expr 4) (tsA++t :: (tsB++r))) fun x r=>rd Z m (.loop 3 x) r) (fun m=>by rw [rd,if_neg (by omega)];rfl) (Ev.bd ha1 ?_)
   refine Ev.succ (g:=fun m=>bd (rd Z m (.expr 4) (tsB++r)) fun y r=>.ok (⟨6,⟨#[]⟩,0,o,[a',y],Z.ps t⟩,r)) (fun m=>?_) (Ev.bd hb1 (Ev.pure _))
   rw [rd,ho1]
   show (if lvT o=3 then _ else _)=_
   rw [if_pos h3]
   rfl
  ·have hlf:lfT o=lvT o:=by rw [lfT,if_neg h3]
   refine hea (lvT o) p1 (by omega) (by omega) (t :: (tsB++r)) v (fun t' r' e=>?_) ?_
   ·obtain ⟨rfl,rfl⟩:=List.cons.inj e
    exact⟨ho2,fun o' ho'=>by rw [ho1] at ho';obtain rfl:=Option.some.inj ho';exact .inr ⟨rfl,h3⟩⟩
   ·refine Ev.succ (g:=fun m=>bd (rd Z m (.expr (lvT o+1)) (tsB++r)) fun y r=>rd Z m (.loop (lvT o) ⟨6,⟨#[]⟩,0,o,[a',y],Z.ps t⟩) r) (fun m=>?_) (Ev.bd hb1 hv)
    rw [rd,ho1]
    show (if lvT o=lvT o then _ else _)=_
    rw [if_pos rfl]
    congr 1
    funext y r
    rw [if_neg h3]
end
end Go.Proofs.YtcknpcbkofgdoaaGreatDoor
