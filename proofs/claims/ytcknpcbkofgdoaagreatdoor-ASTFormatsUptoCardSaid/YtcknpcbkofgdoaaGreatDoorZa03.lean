/-
  THE REFERENCE OF LAYER 16: WellFormed.
  THE REFERENCE OF LAYER 16: text.
  THE REFERENCE OF LAYER 16: simple.
  CANONICAL TEXTS: tasks (layer 16).
  CANONICAL TEXTS: programs (layer 16).
-/
import Derived.Test.YtcknpcbkofgdoaaGreatDoorZaShort
import Derived.Test.YtcknpcbkofgdoaaGreatDoorZa02
import Derived.Test.YtcknpcbkofgdoaaGreatDoorZa00
import Derived.Deep.LoopGhost
import Derived.Deep.Cut
import Derived.Deep.RegionHeld
namespace Go.Proofs.YtcknpcbkofgdoaaGreatDoor
open Go Go.RowKit Go.IntWalk
set_option linter.unusedSimpArgs false
set_option linter.unusedVariables false
set_option maxRecDepth 8000
section
variable {dst:Option Tmp}{ty:TypeId}{pos:String}{after:Array Edge}{g:Option (Nat × Bool)}{a:Act}{w:World}{T:Value→World→Prop}
theorem rn_fld_60_0 {x:Operand}{S o:Nat}(hx:a.eval x=.pointer (some ⟨S,o,none⟩)) (h:T (.pointer (some ⟨S,o,none⟩)) w):Runs Tryz.prog ⟨dst,.fieldAddr 60 x 0,ty,pos,after,g⟩ a w T:=by
 refine Runs.value (v:=.pointer (some ⟨S,o,none⟩)) (w':=w) ?_ h
 simp only [execOp,hx]
 go_simp
theorem rn_fld_60_1 {x:Operand}{S o:Nat}(hx:a.eval x=.pointer (some ⟨S,o,none⟩)) (h:T (.pointer (some ⟨S,o+1,none⟩)) w):Runs Tryz.prog ⟨dst,.fieldAddr 60 x 1,ty,pos,after,g⟩ a w T:=by
 refine Runs.value (v:=.pointer (some ⟨S,o+1,none⟩)) (w':=w) ?_ h
 simp only [execOp,hx]
 go_simp
theorem rn_lss_32 {o1 o2:Operand}{b c:Int}(hx:a.eval o1=.int .i16 b) (hy:a.eval o2=.int .i16 c) (h:T (.bool (decide (b < c))) w):Runs Tryz.prog ⟨dst,.binOp .lss 32 o1 o2 32,ty,pos,after,g⟩ a w T:=by
 refine Runs.value (v:=.bool (decide (b < c))) (w':=w) ?_ h
 simp only [execOp,hx,hy]
 go_simp
theorem rn_fld_62_0 {x:Operand}{S o:Nat}(hx:a.eval x=.pointer (some ⟨S,o,none⟩)) (h:T (.pointer (some ⟨S,o,none⟩)) w):Runs Tryz.prog ⟨dst,.fieldAddr 62 x 0,ty,pos,after,g⟩ a w T:=by
 refine Runs.value (v:=.pointer (some ⟨S,o,none⟩)) (w':=w) ?_ h
 simp only [execOp,hx]
 go_simp
theorem rn_fld_62_1 {x:Operand}{S o:Nat}(hx:a.eval x=.pointer (some ⟨S,o,none⟩)) (h:T (.pointer (some ⟨S,o+1,none⟩)) w):Runs Tryz.prog ⟨dst,.fieldAddr 62 x 1,ty,pos,after,g⟩ a w T:=by
 refine Runs.value (v:=.pointer (some ⟨S,o+1,none⟩)) (w':=w) ?_ h
 simp only [execOp,hx]
 go_simp
theorem rn_fld_62_2 {x:Operand}{S o:Nat}(hx:a.eval x=.pointer (some ⟨S,o,none⟩)) (h:T (.pointer (some ⟨S,o+2,none⟩)) w):Runs Tryz.prog ⟨dst,.fieldAddr 62 x 2,ty,pos,after,g⟩ a w T:=by
 refine Runs.value (v:=.pointer (some ⟨S,o+2,none⟩)) (w':=w) ?_ h
 simp only [execOp,hx]
 go_simp
theorem rn_fld_64_0 {x:Operand}{S o:Nat}(hx:a.eval x=.pointer (some ⟨S,o,none⟩)) (h:T (.pointer (some ⟨S,o,none⟩)) w):Runs Tryz.prog ⟨dst,.fieldAddr 64 x 0,ty,pos,after,g⟩ a w T:=by
 refine Runs.value (v:=.pointer (some ⟨S,o,none⟩)) (w':=w) ?_ h
 simp only [execOp,hx]
 go_simp
theorem rn_fld_64_1 {x:Operand}{S o:Nat}(hx:a.eval x=.pointer (some ⟨S,o,none⟩)) (h:T (.pointer (some ⟨S,o+1,none⟩)) w):Runs Tryz.prog ⟨dst,.fieldAddr 64 x 1,ty,pos,after,g⟩ a w T:=by
 refine Runs.value (v:=.pointer (some ⟨S,o+1,none⟩)) (w':=w) ?_ h
 simp only [execOp,hx]
 go_simp
end
theorem ldsl {dst:Option Tmp}{ty:TypeId}{pos:String}{after:Array Edge}{g:Option (Nat × Bool)}{a:Act}{x:Operand}{q:Addr}{v:Value}{w:World}(hx:a.eval x=.pointer (some q)) (hc:w.cell? q=some v) (W:World) (hW:W=w:=by rfl):(execOp a.eval ⟨dst,.load 24 x,ty,pos,after,g⟩).run Tryz.prog W=.ok (.value v) W:=by
 subst hW
 simp only [execOp,hx]
 go_simp
theorem infoStr:(Tryz.prog.info? 9).map (fun i=>(i.zero,i.size,i.bytes))=some (some (.string ⟨#[]⟩),1,16):=by kernel_rfl
section
variable {dst:Option Tmp}{ty:TypeId}{pos:String}{after:Array Edge}{g:Option (Nat × Bool)}{a:Act}{w:World}{T:Value→World→Prop}
theorem runs_bs0s (h:T (.slice (some ⟨w.heap.size,0,none⟩) 0 0) (w.alloc (.cells #[] 9))):Runs Tryz.prog ⟨dst,.buildSlice 24 0 #[],ty,pos,after,g⟩ a w T:=by
 refine Runs.value (v:=.slice (some ⟨w.heap.size,0,none⟩) 0 0) (w':=w.alloc (.cells #[] 9)) ?_ h
 simp only [execOp]
 go_simp
theorem runs_lens_ {x:Operand}{p:Option Addr}{n c:Nat}(hx:a.eval x=.slice p n c) (h:T (.int .i64 (n:Nat)) w):Runs Tryz.prog ⟨dst,.call { callee:=.builtin .len,args:=#[x],argTypes:=#[24] },ty,pos,after,g⟩ a w T:=by
 refine Runs.value (v:=.int .i64 (n:Nat)) (w':=w) ?_ h
 simp [execOp,resolve,invoke,builtin,hx,Result.andThen]
 go_simp
end
def AllH (P:Program) (ops:Array Oper) (Q:Exit→Act→World→Prop) (S:World→Prop) (fuel:Nat) (listed:Array Bool) (a:Act) (w:World):List Nat→Prop
 | []=>True
 | i :: r=>(∃o,ops[i]?=some o∧o.guard=none∧Runs P o a w fun v w'=>S w'∧wpAnyH P .any ops Q S fuel (listed.setIfInBounds i true) (a.put o.dst v) w')∧AllH P ops Q S fuel listed a w r
theorem AllH.at {P:Program}{ops:Array Oper}{Q:Exit→Act→World→Prop}{S:World→Prop}{fuel:Nat}{listed:Array Bool}{a:Act}{w:World}:∀{rs:List Nat},AllH P ops Q S fuel listed a w rs→∀i ∈ rs,∃o,ops[i]?=some o∧o.guard=none∧Runs P o a w fun v w'=>S w'∧wpAnyH P .any ops Q S fuel (listed.setIfInBounds i true) (a.put o.dst v) w'
 | _ :: _,h,i,hi=>by
   rcases List.mem_cons.1 hi with rfl | hi
   ·exact h.1
   ·exact AllH.at h.2 i hi
theorem wpAnyH_go {P:Program}{ops:Array Oper}{Q:Exit→Act→World→Prop}{S:World→Prop}{fuel:Nat}{listed:Array Bool}{a:Act}{w:World}(rs:List Nat) (hr:Region.ready .any ops listed=rs) (hne:rs≠[]) (h:AllH P ops Q S fuel listed a w rs):wpAnyH P .any ops Q S (fuel+1) listed a w:=by
 refine wpAnyH_all hr hne fun i hi=>?_
 obtain ⟨o,ho,hg,hr⟩:=h.at i hi
 unfold wpOp
 simp only [ho]
 rw [if_pos (by simp [Region.wanted,hg])]
 exact .inl (hr _ _ fun _ _ h=>h)
theorem cut_code {P:Program}{c:Code}{Q:Exit→Act→World→Prop}{a:Act}{w:World}(F:Act→Act→World→Prop) (h1:c.wp P (fun e a' w'=>e=.normal∧F a a' w') a w) (h2:∀a' w',F a a' w'→Q .normal a' w'):c.wp P Q a w :=
 Code.wp_mono (fun e a' w' ⟨he,h⟩=>by subst he;exact h2 a' w' h) h1
set_option maxHeartbeats 16000000 in
theorem wf_any (P:Pg) (B:Nat→Prop) (w:World) (cp gp sp op hp tp:Option Addr) (cc gc sc oc hc tc:Nat) (hB:∀b,B b→b < w.heap.size) (hpg:PgIn B w P cp gp sp op hp tp cc gc sc oc hc tc) (hn:P.ss.length≤1048576∧P.os.length≤1048576) :
 Calls Tryz.prog 19 #[pgv P cp gp sp op hp tp cc gc sc oc hc tc] w fun e w'=>e=.returned (.bool (okP P))∧Grew w w':=by
 obtain ⟨hcaps,hmaxs⟩:=hpg.caps
 obtain ⟨b,hb⟩:∃b,okP P=b:=⟨_,rfl⟩
 rw [hb]
 obtain ⟨cs,gs,ss,os,hs,ts⟩:=P
 have HM:Hid ((okCs cs&&(okGs gs&&(okNs (ss++os)&&(okHs hs&&okTs ts))))=b):=Lib.hid hb
 have HPG:=Lib.hid (hpg.kept ((Grew.refl w).alloc (Obj.cells #[.slice cp cs.length cc,.slice gp gs.length gc,.slice sp ss.length sc,.slice op os.length oc,.slice hp hs.length hc,.slice tp ts.length tc] 28)))
 have HSZ:=Lib.hid hpg.sz
 dsimp only at hcaps HSZ hn ⊢
 have HLS:=Lib.hid hn
 have HHB:=Lib.hid hB
 clear hpg hb hn hB
 go_enter Tryz.func19,Tryz.ntmps19
 go_wp2
 have HBX:Hid (Blk w.heap.size [.slice cp cs.length cc,.slice gp gs.length gc,.slice sp ss.length sc,.slice op os.length oc,.slice hp hs.length hc,.slice tp ts.length tc] 28 (w.alloc (Obj.cells #[.slice cp cs.length cc,.slice gp gs.length gc,.slice sp ss.length sc,.slice op os.length oc,.slice hp hs.length hc,.slice tp ts.length tc] 28))):=Lib.hid (Blk.new w _ _)
 have HG0:Hid (Grew w (w.alloc (Obj.cells #[.slice cp cs.length cc,.slice gp gs.length gc,.slice sp ss.length sc,.slice op os.length oc,.slice hp hs.length hc,.slice tp ts.length tc] 28))):=Lib.hid ((Grew.refl w).alloc _)
 generalize (w.alloc (Obj.cells #[.slice cp cs.length cc,.slice gp gs.length gc,.slice sp ss.length sc,.slice op os.length oc,.slice hp hs.length hc,.slice tp ts.length tc] 28))=w1 at HBX HG0 HPG ⊢
 generalize w.heap.size=Sp at HBX ⊢
 have HXC:=Lib.hid HPG.out.cs.2
 have HXG:=Lib.hid HPG.out.gs.2
 have HSS:=Lib.hid HPG.out.ss.2
 have HOS:=Lib.hid HPG.out.os.2
 have HXH:=Lib.hid HPG.out.hs.2
 have HXT:=Lib.hid HPG.out.ts
 have HGA:Hid (Grew w1 w1):=Lib.hid (Grew.refl _)
 clear HPG
 have HOK:Hid (cs.all (fun c:Cn=>okC c.s c.v)=false→b=false):=Lib.hid (fun h=>by rw [← HM.out,show okCs cs=false from h,Bool.false_and])
 go_loopg [4,16] cs.length (fun gg s0_ iv wr=>∃(j:Nat),iv=.int .i64 (j:Int)∧j≤cs.length∧gg=cs.length - j∧Hid ((cs.take j).all (fun c:Cn=>okC c.s c.v)=true)∧Hid (Grew w1 wr))
 case atStart=>exact⟨0,rfl,Nat.zero_le _,rfl,Lib.hid rfl,HGA⟩
 case round =>
  obtain ⟨j,rfl,hj,rfl,HI,HG⟩:=hrel
  by_cases hlt:j < cs.length
  ·obtain ⟨b1,o1,rfl,hcc⟩:=HXC.out.getF j hlt
   have hm:=List.getElem_mem hlt
   have htk:=List.take_succ_eq_append_getElem hlt
   have HLT:=Lib.hid (Nat.succ_le_of_lt hlt)
   have hsz0:=HSZ.out.1 _ hm
   have hno:=fun h=>HOK.out (all_no (f:=fun c:Cn=>okC c.s c.v) hm h)
   generalize cs[j]=x at hcc hm htk hsz0 hno
   obtain ⟨s,z,q⟩:=x
   have hsz:s.size≤1048576:=hsz0.1
   replace hcc:∀i_ u_,([.string s,.int .i16 z,.int .i64 q]:List Value)[i_]?=some u_→wr.cell? ⟨b1,o1+j * 3+i_,none⟩=some u_:=fun i_ u_ h_=>Atv.kept (hcc i_ u_ h_) HG.out
   have q0:wr.cell? ⟨b1,o1+j * 3,none⟩=some (.string s):=by simpa using hcc 0 _ rfl
   have q1:wr.cell? ⟨b1,o1+j * 3+1,none⟩=some (.int .i16 z):=hcc 1 _ rfl
   have q2:wr.cell? ⟨b1,o1+j * 3+2,none⟩=some (.int .i64 q):=hcc 2 _ rfl
   have HTK:=Lib.hid htk
   have HNO:Hid (okC s z=false→b=false):=Lib.hid hno
   have HID:=Lib.hid (fun W=>ident_any s hsz W)
   clear hcc hm htk hsz hsz0 hno
   go_upto_region 4 with fail
   have hb1:Blk wr.heap.size [.string s,.int .i16 z,.int .i64 q] 60 (wr.alloc (Obj.cells #[.string s,.int .i16 z,.int .i64 q] 60)):=Blk.new wr _ _
   have hgV:Grew w1 (wr.alloc (Obj.cells #[.string s,.int .i16 z,.int .i64 q] 60)):=HG.out.alloc _
   generalize (wr.alloc (Obj.cells #[.string s,.int .i16 z,.int .i64 q] 60))=V at hb1 hgV ⊢
   generalize wr.heap.size=T at hb1 ⊢
   have HGV:=Lib.hid hgV
   have d0:Atv ⟨T,0,none⟩ (.string s) V:=hb1.atv 0 rfl
   have d1:Atv ⟨T,1,none⟩ (.int .i16 z) V:=hb1.atv 1 rfl
   have d2:Atv ⟨T,2,none⟩ (.int .i64 q) V:=hb1.atv 2 rfl
   clear hb1 hgV q0 q1 q2 HG
   refine wp_postsL [some 20,some 21,some 22,some 23,some 24,some 25,some 26,some 27,some 28] [Zf,Zf,Zf,Zf,Zf,Zf,Zf,Zf,Zf,Zf,Zf,Zf,Zf,Zf,Zf,Zf,Zf,Zf,Zf,Zf,Zt,Zt,Zt,Zt,Zt,Zt,Zt,Zt,Zt,Zf,Zf,Zf,Zf,Zf,Zf,Zf,Zf,Zf,Zf,Zf,Zf,Zf,Zf,Zf,Zf,Zf,Zf,Zf,Zf,Zf,Zf,Zf,Zf,Zf,Zf,Zf,Zf,Zf,Zf,Zf,Zf,Zf,Zf,Zf,Zf,Zf,Zf,Zf,Zf,Zf,Zf,Zf,Zf,Zf,Zf,Zf,Zf,Zf,Zf,Zf,Zf,Zf,Zf,Zf,Zf,Zf,Zf,Zf,Zf,Zf,Zf,Zf,Zf,Zf,Zf,Zf,Zf,Zf,Zf,Zf,Zf,Zf,Zf,Zf,Zf,Zf,Zf,Zf] [fun v _=>v=.pointer (some ⟨T,0,none⟩),fun v _=>v=.string s,fun v _=>v=.bool (idn s),fun v _=>v=.bool (!(idn s)),fun v _=>v=.bool (!(idn s)),fun v _=>(((!(idn s))=false)→v=.pointer (some ⟨T,1,none⟩))∧(¬ ((!(idn s))=false)→v=undef),fun v _=>(((!(idn s))=false)→v=.int .i16 (z))∧(¬ ((!(idn s))=false)→v=undef),fun v _=>(((!(idn s))=false)→v=.bool (decide ((z) < (-32767))))∧(¬ ((!(idn s))=false)→v=undef),fun v _=>v=.bool ((!(idn s))||(decide ((z) < (-32767))))] (by kernel_rfl) rfl ?_ ⟨?_,?_,?_,?_,?_,?_,?_,?_,?_,trivial⟩ ?_
   ·exact⟨Zi,Zi,Zi,Zi,Zi,Zi,Zi,Zi,Zi,trivial⟩
   ·intro u w hR hd;exact rn_fld_60_0 (ev rfl) Zr
   ·intro u w hR hd;exact rn_ld_9 (ev (hd.1 rfl)) (d0.kept hR) Zr
   ·intro u w hR hd;exact runs_c1 enters_id (ev (hd.1 rfl)) (callp (fun _ e=>e) (HID.out _))
   ·intro u w hR hd;exact runs_nt (ev (hd.1 rfl)) Zr
   ·intro u w hR hd;exact runs_mv (ev (hd.1 rfl)) Zr
   ·intro u w hR hd;exact⟨fun hg=>have hG:((!(idn s))=false):=Value.bool.inj ((hd.1 rfl).symm.trans hg);rn_fld_60_1 (ev rfl) (Zs hG),Zn (hd.1 rfl)⟩
   ·intro u w hR hd;exact⟨fun hg=>have hG:((!(idn s))=false):=Value.bool.inj ((hd.2.1 rfl).symm.trans hg);rn_ld_32 (ev ((hd.1 rfl).1 hG)) (d1.kept hR) (Zs hG),Zn (hd.2.1 rfl)⟩
   ·intro u w hR hd;exact⟨fun hg=>have hG:((!(idn s))=false):=Value.bool.inj ((hd.2.1 rfl).symm.trans hg);rn_lss_32 (ev ((hd.1 rfl).1 hG)) rfl (Zs hG),Zn (hd.2.1 rfl)⟩
   ·intro u w hR hd;exact runs_or2 (ev (hd.1 rfl)) (fun hb=>ev ((hd.2.1 rfl).1 hb)) Zr
   ·intro u w4 hR hh
    have he:u 28=.bool ((!(idn s))||(decide ((z) < (-32767)))):=hh 8 (by decide)
    have hE:((!(idn s))||(decide ((z) < (-32767))))=!okC s z:=by rw [okC,Bool.not_not]
    rw [hE] at he
    simp only [mixA,mixL,zz9,zz0,he]
    have HG4:Hid (Grew w1 w4):=Lib.hid (HGV.out.trans hR)
    clear hh he hE hR d0 d1 d2
    cases hok:okC s z with
    | false =>
      have HF2:=Lib.hid (HNO.out hok)
      go_wp2
      go_ret
      exact⟨ret_bool HF2.out.symm,HG0.out.trans HG4.out⟩
    | true =>
      have HOKX:=Lib.hid hok
      clear HNO hok
      go_wp2
      go_roundg (cs.length - (j+1))
      case measure=>have:=HLT.out;omega
      case rel=>exact⟨j+1,by go_num,HLT.out,rfl,Lib.hid (by rw [all_snoc HTK.out,HI.out,Bool.true_and];exact HOKX.out),HG4⟩
  ·obtain rfl:j=cs.length:=by omega
   rw [List.take_length] at HI
   replace HM:Hid ((okGs gs&&(okNs (ss++os)&&(okHs hs&&okTs ts)))=b):=Lib.hid (by rw [← HM.out,show okCs cs=true from HI.out,Bool.true_and])
   have HGB:Hid (Grew w1 wr):=Lib.hid HG.out
   have hbx:=HBX.out.grew HG.out
   have r0:=hbx.cell 0
   have r1:=hbx.cell 1
   have r2:=hbx.cell 2
   have r3:=hbx.cell 3
   have r4:=hbx.cell 4
   have r5:=hbx.cell 5
   simp only [zz7,zz8] at r0 r1 r2 r3 r4 r5
   clear HOK hbx HI
   go_wp2
   clear r0 r1 r2 r3 r4 r5
   have HOK:Hid (gs.all (fun c:Gl=>okG c.s c.l c.i)=false→b=false):=Lib.hid (fun h=>by rw [← HM.out,show okGs gs=false from h,Bool.false_and])
   go_loopg [6,33] gs.length (fun gg s0_ iv wr=>∃(j:Nat),iv=.int .i64 (j:Int)∧j≤gs.length∧gg=gs.length - j∧Hid ((gs.take j).all (fun c:Gl=>okG c.s c.l c.i)=true)∧Hid (Grew w1 wr))
   case atStart=>exact⟨0,rfl,Nat.zero_le _,rfl,Lib.hid rfl,HGB⟩
   case round =>
    obtain ⟨j,rfl,hj,rfl,HI,HG⟩:=hrel
    by_cases hlt:j < gs.length
    ·obtain ⟨b1,o1,rfl,hcc⟩:=HXG.out.getF j hlt
     have hm:=List.getElem_mem hlt
     have htk:=List.take_succ_eq_append_getElem hlt
     have HLT:=Lib.hid (Nat.succ_le_of_lt hlt)
     have hsz0:=HSZ.out.2.1 _ hm
     have hno:=fun h=>HOK.out (all_no (f:=fun c:Gl=>okG c.s c.l c.i) hm h)
     generalize gs[j]=x at hcc hm htk hsz0 hno
     obtain ⟨s,l,i,q⟩:=x
     have hsz:s.size≤1048576:=hsz0.1
     replace hcc:∀i_ u_,([.string s,.int .i64 l,.int .i16 i,.int .i64 q]:List Value)[i_]?=some u_→wr.cell? ⟨b1,o1+j * 4+i_,none⟩=some u_:=fun i_ u_ h_=>Atv.kept (hcc i_ u_ h_) HG.out
     have q0:wr.cell? ⟨b1,o1+j * 4,none⟩=some (.string s):=by simpa using hcc 0 _ rfl
     have q1:wr.cell? ⟨b1,o1+j * 4+1,none⟩=some (.int .i64 l):=hcc 1 _ rfl
     have q2:wr.cell? ⟨b1,o1+j * 4+2,none⟩=some (.int .i16 i):=hcc 2 _ rfl
     have q3:wr.cell? ⟨b1,o1+j * 4+3,none⟩=some (.int .i64 q):=hcc 3 _ rfl
     have HTK:=Lib.hid htk
     have HNO:Hid (okG s l i=false→b=false):=Lib.hid hno
     have HID:=Lib.hid (fun W=>ident_any s hsz W)
     clear hcc hm htk hsz hsz0 hno
     go_upto_region 10 with fail
     have hb1:Blk wr.heap.size [.string s,.int .i64 l,.int .i16 i,.int .i64 q] 62 (wr.alloc (Obj.cells #[.string s,.int .i64 l,.int .i16 i,.int .i64 q] 62)):=Blk.new wr _ _
     have hgV:Grew w1 (wr.alloc (Obj.cells #[.string s,.int .i64 l,.int .i16 i,.int .i64 q] 62)):=HG.out.alloc _
     generalize (wr.alloc (Obj.cells #[.string s,.int .i64 l,.int .i16 i,.int .i64 q] 62))=V at hb1 hgV ⊢
     generalize wr.heap.size=T at hb1 ⊢
     have HGV:=Lib.hid hgV
     have d0:Atv ⟨T,0,none⟩ (.string s) V:=hb1.atv 0 rfl
     have d1:Atv ⟨T,1,none⟩ (.int .i64 l) V:=hb1.atv 1 rfl
     have d2:Atv ⟨T,2,none⟩ (.int .i16 i) V:=hb1.atv 2 rfl
     have d3:Atv ⟨T,3,none⟩ (.int .i64 q) V:=hb1.atv 3 rfl
     clear hb1 hgV q0 q1 q2 q3 HG
     refine wp_postsL [some 37,some 38,some 39,some 40,some 41,some 42,some 43,some 44,some 45,some 46,some 47,some 48,some 49,some 50,some 51,some 52,some 53,some 54,some 55,some 56,some 57,some 58,some 59,some 60,some 61] [Zf,Zf,Zf,Zf,Zf,Zf,Zf,Zf,Zf,Zf,Zf,Zf,Zf,Zf,Zf,Zf,Zf,Zf,Zf,Zf,Zf,Zf,Zf,Zf,Zf,Zf,Zf,Zf,Zf,Zf,Zf,Zf,Zf,Zf,Zf,Zf,Zf,Zt,Zt,Zt,Zt,Zt,Zt,Zt,Zt,Zt,Zt,Zt,Zt,Zt,Zt,Zt,Zt,Zt,Zt,Zt,Zt,Zt,Zt,Zt,Zt,Zt,Zf,Zf,Zf,Zf,Zf,Zf,Zf,Zf,Zf,Zf,Zf,Zf,Zf,Zf,Zf,Zf,Zf,Zf,Zf,Zf,Zf,Zf,Zf,Zf,Zf,Zf,Zf,Zf,Zf,Zf,Zf,Zf,Zf,Zf,Zf,Zf,Zf,Zf,Zf,Zf,Zf,Zf,Zf,Zf,Zf,Zf] [fun v _=>v=.pointer (some ⟨T,0,none⟩),fun v _=>v=.string s,fun v _=>v=.bool (idn s),fun v _=>v=.bool (!(idn s)),fun v _=>v=.bool (!(idn s)),fun v _=>(((!(idn s))=false)→v=.pointer (some ⟨T,1,none⟩))∧(¬ ((!(idn s))=false)→v=undef),fun v _=>(((!(idn s))=false)→v=.int .i64 (l))∧(¬ ((!(idn s))=false)→v=undef),fun v _=>(((!(idn s))=false)→v=.bool (num1 l 0))∧(¬ ((!(idn s))=false)→v=undef),fun v _=>(((!(idn s))=false)→v=.bool (!(num1 l 0)))∧(¬ ((!(idn s))=false)→v=undef),fun v _=>v=.bool ((!(idn s))||(!(num1 l 0))),fun v _=>v=.bool ((!(idn s))||(!(num1 l 0))),fun v _=>((((!(idn s))||(!(num1 l 0)))=false)→v=.pointer (some ⟨T,2,none⟩))∧(¬ (((!(idn s))||(!(num1 l 0)))=false)→v=undef),fun v _=>((((!(idn s))||(!(num1 l 0)))=false)→v=.int .i16 (i))∧(¬ (((!(idn s))||(!(num1 l 0)))=false)→v=undef),fun v _=>((((!(idn s))||(!(num1 l 0)))=false)→v=.bool (decide ((i) < (-32767))))∧(¬ (((!(idn s))||(!(num1 l 0)))=false)→v=undef),fun v _=>v=.bool (((!(idn s))||(!(num1 l 0)))||(decide ((i) < (-32767)))),fun v _=>v=.bool (((!(idn s))||(!(num1 l 0)))||(decide ((i) < (-32767)))),fun v _=>(((((!(idn s))||(!(num1 l 0)))||(decide ((i) < (-32767))))=false)→v=.pointer (some ⟨T,1,none⟩))∧(¬ ((((!(idn s))||(!(num1 l 0)))||(decide ((i) < (-32767))))=false)→v=undef),fun v _=>(((((!(idn s))||(!(num1 l 0)))||(decide ((i) < (-32767))))=false)→v=.int .i64 (l))∧(¬ ((((!(idn s))||(!(num1 l 0)))||(decide ((i) < (-32767))))=false)→v=undef),fun v _=>(((((!(idn s))||(!(num1 l 0)))||(decide ((i) < (-32767))))=false)→v=.bool (decide ((0) < (l))))∧(¬ ((((!(idn s))||(!(num1 l 0)))||(decide ((i) < (-32767))))=false)→v=undef),fun v _=>(((((!(idn s))||(!(num1 l 0)))||(decide ((i) < (-32767))))=false)→v=.bool (decide ((0) < (l))))∧(¬ ((((!(idn s))||(!(num1 l 0)))||(decide ((i) < (-32767))))=false)→v=undef),fun v _=>((((((!(idn s))||(!(num1 l 0)))||(decide ((i) < (-32767))))=false)∧((decide ((0) < (l)))=true))→v=.pointer (some ⟨T,2,none⟩))∧(¬ (((((!(idn s))||(!(num1 l 0)))||(decide ((i) < (-32767))))=false)∧((decide ((0) < (l)))=true))→v=undef),fun v _=>((((((!(idn s))||(!(num1 l 0)))||(decide ((i) < (-32767))))=false)∧((decide ((0) < (l)))=true))→v=.int .i16 (i))∧(¬ (((((!(idn s))||(!(num1 l 0)))||(decide ((i) < (-32767))))=false)∧((decide ((0) < (l)))=true))→v=undef),fun v _=>((((((!(idn s))||(!(num1 l 0)))||(decide ((i) < (-32767))))=false)∧((decide ((0) < (l)))=true))→v=.bool ((i) != (0)))∧(¬ (((((!(idn s))||(!(num1 l 0)))||(decide ((i) < (-32767))))=false)∧((decide ((0) < (l)))=true))→v=undef),fun v _=>(((((!(idn s))||(!(num1 l 0)))||(decide ((i) < (-32767))))=false)→v=.bool ((decide ((0) < (l)))&&((i) != (0))))∧(¬ ((((!(idn s))||(!(num1 l 0)))||(decide ((i) < (-32767))))=false)→v=undef),fun v _=>v=.bool ((((!(idn s))||(!(num1 l 0)))||(decide ((i) < (-32767))))||((decide ((0) < (l)))&&((i) != (0))))] (by kernel_rfl) rfl ?_ ⟨?_,?_,?_,?_,?_,?_,?_,?_,?_,?_,?_,?_,?_,?_,?_,?_,?_,?_,?_,?_,?_,?_,?_,?_,?_,trivial⟩ ?_
     ·exact⟨Zi,Zi,Zi,Zi,Zi,Zi,Zi,Zi,Zi,Zi,Zi,Zi,Zi,Zi,Zi,Zi,Zi,Zi,Zi,Zi,Zi,Zi,Zi,Zi,Zi,trivial⟩
     ·intro u w hR hd;exact rn_fld_62_0 (ev rfl) Zr
     ·intro u w hR hd;exact rn_ld_9 (ev (hd.1 rfl)) (d0.kept hR) Zr
     ·intro u w hR hd;exact runs_c1 enters_id (ev (hd.1 rfl)) (callp (fun _ e=>e) (HID.out _))
     ·intro u w hR hd;exact runs_nt (ev (hd.1 rfl)) Zr
     ·intro u w hR hd;exact runs_mv (ev (hd.1 rfl)) Zr
     ·intro u w hR hd;exact⟨fun hg=>have hG:((!(idn s))=false):=Value.bool.inj ((hd.1 rfl).symm.trans hg);rn_fld_62_1 (ev rfl) (Zs hG),Zn (hd.1 rfl)⟩
     ·intro u w hR hd;exact⟨fun hg=>have hG:((!(idn s))=false):=Value.bool.inj ((hd.2.1 rfl).symm.trans hg);rn_ld_3 (ev ((hd.1 rfl).1 hG)) (d1.kept hR) (Zs hG),Zn (hd.2.1 rfl)⟩
     ·intro u w hR hd;exact⟨fun hg=>have hG:((!(idn s))=false):=Value.bool.inj ((hd.2.1 rfl).symm.trans hg);runs_c2 enters_nu (ev ((hd.1 rfl).1 hG)) rfl (callp (fun _ e=>⟨fun _=>e,fun hn=>absurd hG hn⟩) ((number_any l 0 _).mono fun e w9 h=>(⟨h.1,h.2 ▸ Grew.refl _⟩))),Zn (hd.2.1 rfl)⟩
     ·intro u w hR hd;exact⟨fun hg=>have hG:((!(idn s))=false):=Value.bool.inj ((hd.2.1 rfl).symm.trans hg);runs_nt (ev ((hd.1 rfl).1 hG)) (Zs hG),Zn (hd.2.1 rfl)⟩
     ·intro u w hR hd;exact runs_or2 (ev (hd.1 rfl)) (fun hb=>ev ((hd.2.1 rfl).1 hb)) Zr
     ·intro u w hR hd;exact runs_mv (ev (hd.1 rfl)) Zr
     ·intro u w hR hd;exact⟨fun hg=>have hG:(((!(idn s))||(!(num1 l 0)))=false):=Value.bool.inj ((hd.1 rfl).symm.trans hg);rn_fld_62_2 (ev rfl) (Zs hG),Zn (hd.1 rfl)⟩
     ·intro u w hR hd;exact⟨fun hg=>have hG:(((!(idn s))||(!(num1 l 0)))=false):=Value.bool.inj ((hd.2.1 rfl).symm.trans hg);rn_ld_32 (ev ((hd.1 rfl).1 hG)) (d2.kept hR) (Zs hG),Zn (hd.2.1 rfl)⟩
     ·intro u w hR hd;exact⟨fun hg=>have hG:(((!(idn s))||(!(num1 l 0)))=false):=Value.bool.inj ((hd.2.1 rfl).symm.trans hg);rn_lss_32 (ev ((hd.1 rfl).1 hG)) rfl (Zs hG),Zn (hd.2.1 rfl)⟩
     ·intro u w hR hd;exact runs_or2 (ev (hd.1 rfl)) (fun hb=>ev ((hd.2.1 rfl).1 hb)) Zr
     ·intro u w hR hd;exact runs_mv (ev (hd.1 rfl)) Zr
     ·intro u w hR hd;exact⟨fun hg=>have hG:((((!(idn s))||(!(num1 l 0)))||(decide ((i) < (-32767))))=false):=Value.bool.inj ((hd.1 rfl).symm.trans hg);rn_fld_62_1 (ev rfl) (Zs hG),Zn (hd.1 rfl)⟩
     ·intro u w hR hd;exact⟨fun hg=>have hG:((((!(idn s))||(!(num1 l 0)))||(decide ((i) < (-32767))))=false):=Value.bool.inj ((hd.2.1 rfl).symm.trans hg);rn_ld_3 (ev ((hd.1 rfl).1 hG)) (d1.kept hR) (Zs hG),Zn (hd.2.1 rfl)⟩
     ·intro u w hR hd;exact⟨fun hg=>have hG:((((!(idn s))||(!(num1 l 0)))||(decide ((i) < (-32767))))=false):=Value.bool.inj ((hd.2.1 rfl).symm.trans hg);rn_gtr_3 (ev ((hd.1 rfl).1 hG)) rfl (Zs hG),Zn (hd.2.1 rfl)⟩
     ·intro u w hR hd;exact⟨fun hg=>have hG:((((!(idn s))||(!(num1 l 0)))||(decide ((i) < (-32767))))=false):=Value.bool.inj ((hd.2.1 rfl).symm.trans hg);runs_mv (ev ((hd.1 rfl).1 hG)) (Zs hG),Zn (hd.2.1 rfl)⟩
     ·intro u w hR hd;exact⟨fun hg=>have hP:((((!(idn s))||(!(num1 l 0)))||(decide ((i) < (-32767))))=false):=Classical.byContradiction (fun hnp=>absurd (((hd.1 rfl).2 hnp).symm.trans hg) (fun h=>by first | cases h | (simp [undef] at h)));have hG:(((((!(idn s))||(!(num1 l 0)))||(decide ((i) < (-32767))))=false)∧((decide ((0) < (l)))=true)):=⟨hP,Value.bool.inj (((hd.1 rfl).1 hP).symm.trans hg)⟩;rn_fld_62_2 (ev rfl) (Zs hG),fun hn=>⟨fun hG=>absurd (((hd.1 rfl).1 hG.1).trans (congrArg Value.bool hG.2)) hn,fun _=>rfl⟩⟩
     ·intro u w hR hd;exact⟨fun hg=>have hP:((((!(idn s))||(!(num1 l 0)))||(decide ((i) < (-32767))))=false):=Classical.byContradiction (fun hnp=>absurd (((hd.2.1 rfl).2 hnp).symm.trans hg) (fun h=>by first | cases h | (simp [undef] at h)));have hG:(((((!(idn s))||(!(num1 l 0)))||(decide ((i) < (-32767))))=false)∧((decide ((0) < (l)))=true)):=⟨hP,Value.bool.inj (((hd.2.1 rfl).1 hP).symm.trans hg)⟩;rn_ld_32 (ev ((hd.1 rfl).1 hG)) (d2.kept hR) (Zs hG),fun hn=>⟨fun hG=>absurd (((hd.2.1 rfl).1 hG.1).trans (congrArg Value.bool hG.2)) hn,fun _=>rfl⟩⟩
     ·intro u w hR hd;exact⟨fun hg=>have hP:((((!(idn s))||(!(num1 l 0)))||(decide ((i) < (-32767))))=false):=Classical.byContradiction (fun hnp=>absurd (((hd.2.1 rfl).2 hnp).symm.trans hg) (fun h=>by first | cases h | (simp [undef] at h)));have hG:(((((!(idn s))||(!(num1 l 0)))||(decide ((i) < (-32767))))=false)∧((decide ((0) < (l)))=true)):=⟨hP,Value.bool.inj (((hd.2.1 rfl).1 hP).symm.trans hg)⟩;rn_neq_32 (ev ((hd.1 rfl).1 hG)) rfl (Zs hG),fun hn=>⟨fun hG=>absurd (((hd.2.1 rfl).1 hG.1).trans (congrArg Value.bool hG.2)) hn,fun _=>rfl⟩⟩
     ·intro u w hR hd;exact⟨fun hg=>have hG:((((!(idn s))||(!(num1 l 0)))||(decide ((i) < (-32767))))=false):=Value.bool.inj ((hd.2.2.1 rfl).symm.trans hg);runs_an (ev ((hd.1 rfl).1 hG)) (fun hb=>ev ((hd.2.1 rfl).1 ⟨hG,hb⟩)) (Zs hG),Zn (hd.2.2.1 rfl)⟩
     ·intro u w hR hd;exact runs_or2 (ev (hd.1 rfl)) (fun hb=>ev ((hd.2.1 rfl).1 hb)) Zr
     ·intro u w4 hR hh
      have he:u 61=.bool ((((!(idn s))||(!(num1 l 0)))||(decide ((i) < (-32767))))||((decide ((0) < (l)))&&((i) != (0)))):=hh 24 (by decide)
      have hE:((((!(idn s))||(!(num1 l 0)))||(decide ((i) < (-32767))))||((decide ((0) < (l)))&&((i) != (0))))=!okG s l i:=by rw [okG,Bool.not_not]
      rw [hE] at he
      simp only [mixA,mixL,zz9,zz0,he]
      have HG4:Hid (Grew w1 w4):=Lib.hid (HGV.out.trans hR)
      clear hh he hE hR d0 d1 d2 d3
      cases hok:okG s l i with
      | false =>
        have HF2:=Lib.hid (HNO.out hok)
        go_wp2
        go_ret
        exact⟨ret_bool HF2.out.symm,HG0.out.trans HG4.out⟩
      | true =>
        have HOKX:=Lib.hid hok
        clear HNO hok
        go_wp2
        go_roundg (gs.length - (j+1))
        case measure=>have:=HLT.out;omega
        case rel=>exact⟨j+1,by go_num,HLT.out,rfl,Lib.hid (by rw [all_snoc HTK.out,HI.out,Bool.true_and];exact HOKX.out),HG4⟩
    ·obtain rfl:j=gs.length:=by omega
     rw [List.take_length] at HI
     replace HM:Hid ((okNs (ss++os)&&(okHs hs&&okTs ts))=b):=Lib.hid (by rw [← HM.out,show okGs gs=true from HI.out,Bool.true_and])
     have HG2:Hid (Grew w1 wr):=Lib.hid HG.out
     have hbx:=HBX.out.grew HG.out
     have r0:=hbx.cell 0
     have r1:=hbx.cell 1
     have r2:=hbx.cell 2
     have r3:=hbx.cell 3
     have r4:=hbx.cell 4
     have r5:=hbx.cell 5
     simp only [zz7,zz8] at r0 r1 r2 r3 r4 r5
     clear HOK hbx HI
     clear r0 r1 r2 r3 r4 r5
     go_upto_region 13 with fail
     refine cut_code (fun a0_ a2_ w2_=>∃q0 v3 u6 n6 k6,a2_=(((((((((a0_.put (some 63) (.slice (some ⟨q0,0,none⟩) 0 0)).put (some 64) (.pointer (some ⟨Sp,2,none⟩))).put (some 65) (.slice sp ss.length sc)).put (some 66) (v3)).put (some 67) (.pointer (some ⟨Sp,3,none⟩))).put (some 68) (.slice op os.length oc)).put (some 69) (.slice u6 n6 k6)).put (some 70) (.int .i64 ((n6:Nat):Int))).put (some 71) (.int .i64 0))∧InN FlatAt 1 strc (fun _=>True) w2_ u6 n6 k6 (ss++os)∧Grew w1 w2_) ?_ ?_
     ·obtain ⟨B0,hB0⟩:∃B0,B0=w1.heap.size:=⟨_,rfl⟩
      have HBW:=Lib.hid hB0
      have hK:=HBX.out.grew (HG2.out.trans (Grew.refl _).drw)
      have hg9:=HG2.out.trans (Grew.refl wr).drw
      refine wp_region_held_drew (S:=fun W9=>Blk Sp [.slice cp cs.length cc,.slice gp gs.length gc,.slice sp ss.length sc,.slice op os.length oc,.slice hp hs.length hc,.slice tp ts.length tc] 28 W9) (by kernel_rfl) hK fun _=>?_
      refine wpAnyH_take (i:=1) (v:=.pointer (some ⟨Sp,2,none⟩)) rfl (by kernel_rfl) (by kernel_rfl) (by kernel_rfl) (fun _ _ _ h=>nomatch h.1) (Or.inl ⟨by rfl,fun W9 _=>by simp only [execOp];go_simp⟩) hK ?_
      simp only [zz1,zz2,zz3,Act.put,mixA,mixL,zz9,zz0,zz4,zz5,zz6]
      refine wpAnyH_take (i:=2) (v:=.slice sp ss.length sc) rfl (by kernel_rfl) (by kernel_rfl) (by kernel_rfl) (fun _ _ _ h=>nomatch h.1) (Or.inl ⟨by rfl,fun W9 h9=>ldsl rfl (h9.cell 2) W9⟩) hK ?_
      simp only [zz1,zz2,zz3,Act.put,mixA,mixL,zz9,zz0,zz4,zz5,zz6]
      refine wpAnyH_take (i:=4) (v:=.pointer (some ⟨Sp,3,none⟩)) rfl (by kernel_rfl) (by kernel_rfl) (by kernel_rfl) (fun _ _ _ h=>nomatch h.1) (Or.inl ⟨by rfl,fun W9 _=>by simp only [execOp];go_simp⟩) hK ?_
      simp only [zz1,zz2,zz3,Act.put,mixA,mixL,zz9,zz0,zz4,zz5,zz6]
      refine wpAnyH_take (i:=5) (v:=.slice op os.length oc) rfl (by kernel_rfl) (by kernel_rfl) (by kernel_rfl) (fun _ _ _ h=>nomatch h.1) (Or.inl ⟨by rfl,fun W9 h9=>ldsl rfl (h9.cell 3) W9⟩) hK ?_
      simp only [zz1,zz2,zz3,Act.put,mixA,mixL,zz9,zz0,zz4,zz5,zz6]
      refine wpAnyH_take (i:=8) (v:=.int .i64 0) rfl (by kernel_rfl) (by kernel_rfl) (by kernel_rfl) (fun _ _ _ h=>nomatch h.1) (Or.inl ⟨by rfl,fun W9 _=>by simp only [execOp];go_simp⟩) hK ?_
      simp only [zz1,zz2,zz3,Act.put,mixA,mixL,zz9,zz0,zz4,zz5,zz6]
      refine wpAnyH_go [0] (by kernel_rfl) (by simp) ⟨⟨_,rfl,rfl,?_⟩,trivial⟩
      have h6:OwN FlatAt 1 strc B0 (fun b=>b < B0) (wr.drew.alloc (Obj.cells #[] 9)) 9 (some ⟨wr.drew.heap.size,0,none⟩) 0 0 ([]:List ByteArray):=⟨rfl,[],OwR.lit encStr wr.drew [] 0 B0 9 #[] rfl rfl (by omega) (by have:=hg9.sz;have:=HBW.out;omega),rfl⟩
      refine runs_bs0s ?_
      have gx:Grew wr.drew (wr.drew.alloc (Obj.cells #[] 9)):=(Grew.refl _).alloc _
      have hK2:=hK.grew gx
      have hg2:=hg9.trans gx
      generalize wr.drew.heap.size=q0 at h6 ⊢
      generalize wr.drew.alloc (Obj.cells #[] 9)=y1 at h6 gx hK2 hg2 ⊢
      refine⟨hK2,?_⟩
      clear hK hg9 gx
      have hK:=hK2
      have hg9:=hg2
      clear hK2 hg2
      simp only [zz1,zz2,zz3,Act.put,mixA,mixL,zz9,zz0,zz4,zz5,zz6]
      refine wpAnyH_go [3] (by kernel_rfl) (by simp) ⟨⟨_,rfl,rfl,?_⟩,trivial⟩
      refine runs_append_own (hangsF encStr) B0 9 (.string ⟨#[]⟩) 16 Tryz.underlying24 infoStr rfl (some ⟨q0,0,none⟩) 0 0 [] (ev rfl) h6 sp ss.length sc ss (ev rfl) (HSS.out.kept (hangsF encStr) hg9) (fun b hb=>h6.off (hangsF encStr) hb) (by have:=HLS.out;omega) (by have:=HLS.out;omega) (by have:=hg9.sz;have:=HBW.out;omega) fun u3 k3 y2 h3 hp3=>?_
      have hK2:=hp3.blk hK (fun a ha=>by have h1:=(h6.place (hangsF encStr) a ha).1;have h2:=HBX.out.lt;have h3:=HBW.out;omega)
      have hg2:Grew w1 y2:=Below.trans hg9 (HBW.out ▸ hp3.below)
      refine⟨hK2,?_⟩
      clear hK hg9 hp3 h6
      have hK:=hK2
      have hg9:=hg2
      clear hK2 hg2
      simp only [zz1,zz2,zz3,Act.put,mixA,mixL,zz9,zz0,zz4,zz5,zz6]
      refine wpAnyH_go [6] (by kernel_rfl) (by simp) ⟨⟨_,rfl,rfl,?_⟩,trivial⟩
      refine runs_append_own (hangsF encStr) B0 9 (.string ⟨#[]⟩) 16 Tryz.underlying24 infoStr rfl u3 (0+ss.length) k3 ([]++ss) (ev rfl) h3 op os.length oc os (ev rfl) (HOS.out.kept (hangsF encStr) hg9) (fun b hb=>h3.off (hangsF encStr) hb) (by have:=HLS.out;omega) (by have:=HLS.out;omega) (by have:=hg9.sz;have:=HBW.out;omega) fun u6 k6 y3 h6 hp6=>?_
      have hK2:=hp6.blk hK (fun a ha=>by have h1:=(h3.place (hangsF encStr) a ha).1;have h2:=HBX.out.lt;have h3:=HBW.out;omega)
      have hg2:Grew w1 y3:=Below.trans hg9 (HBW.out ▸ hp6.below)
      refine⟨hK2,?_⟩
      clear hK hg9 hp6 h3
      have hK:=hK2
      have hg9:=hg2
      clear hK2 hg2
      simp only [zz1,zz2,zz3,Act.put,mixA,mixL,zz9,zz0,zz4,zz5,zz6]
      refine wpAnyH_go [7] (by kernel_rfl) (by simp) ⟨⟨_,rfl,rfl,?_⟩,trivial⟩
      refine runs_lens_ (ev rfl) ⟨hK,?_⟩
      simp only [zz1,zz2,zz3,Act.put,mixA,mixL,zz9,zz0,zz4,zz5,zz6]
      refine wpAnyH_done (by kernel_rfl) ?_ _
      exact⟨rfl,q0,.slice u3 (0+ss.length) k3,u6,0+ss.length+os.length,k6,by kernel_rfl,h6.inN (hangsF encStr),hg9⟩
     ·rintro a' V ⟨q0,v3,u6,n6,k6,rfl,hns,g6⟩
      simp only [zz1,zz2,zz3,Act.put,mixA,mixL,zz9,zz0,zz4,zz5,zz6]
      have HXN:=Lib.hid hns
      have HGV:Hid (Grew w1 V):=Lib.hid g6
      have hn6:n6=(ss++os).length:=hns.1
      have hcap6:=(hns.cap (hangsF encStr)).1
      have hmax6:=(hns.cap (hangsF encStr)).2.1
      have HSZN:Hid (∀s ∈ ss++os,s.size≤1048576):=Lib.hid (fun s hs=>by
       rcases List.mem_append.1 hs with h | h
       ·exact HSZ.out.2.2.1 s h
       ·exact HSZ.out.2.2.2.1 s h)
      subst hn6
      generalize ss++os=ns at HXN HSZN HM hcap6 ⊢
      clear hns g6
      go_wp2
      have HOK:Hid (ns.all (fun s:ByteArray=>idn s)=false→b=false):=Lib.hid (fun h=>by rw [← HM.out,show okNs ns=false from h,Bool.false_and])
      go_loopg [8,71] ns.length (fun gg sv iv wr=>∃(j:Nat),iv=.int .i64 (j:Int)∧j≤ns.length∧gg=ns.length - j∧Hid ((ns.take j).all (fun s:ByteArray=>idn s)=true)∧Hid (Grew V wr))
      case atStart=>exact⟨0,rfl,Nat.zero_le _,rfl,Lib.hid rfl,Lib.hid (Grew.refl _)⟩
      case round =>
       obtain ⟨j,rfl,hj,rfl,HI,HGr⟩:=hrel
       have HG:=Lib.hid (HGV.out.trans HGr.out)
       by_cases hlt:j < ns.length
       ·obtain ⟨b1,o1,rfl,hcc⟩:=HXN.out.getF j hlt
        have hm:=List.getElem_mem hlt
        have htk:=List.take_succ_eq_append_getElem hlt
        have HLT:=Lib.hid (Nat.succ_le_of_lt hlt)
        have hsz:=HSZN.out _ hm
        have hno:=fun h=>HOK.out (all_no (f:=fun s:ByteArray=>idn s) hm h)
        generalize ns[j]=s at hcc hm htk hsz hno
        have q0:wr.cell? ⟨b1,o1+j,none⟩=some (.string s):=by
         have h1:=Atv.kept (hcc 0 (.string s) rfl) HGr.out
         simpa using h1
        have HTK:=Lib.hid htk
        have HNO:Hid (idn s=false→b=false):=Lib.hid hno
        obtain ⟨d,hd⟩:∃d,idn s=d:=⟨_,rfl⟩
        have HID:Hid (∀W,Calls Tryz.prog 62 #[.string s] W fun e w'=>e=.returned (.bool d)∧Grew W w'):=Lib.hid (fun W=>hd ▸ ident_any s hsz W)
        have HD:=Lib.hid hd
        clear hcc hm htk hsz hno
        cases d with
        | false =>
          have HF2:=Lib.hid (HNO.out hd)
          clear HNO hd
          go_wp2_with (go_at_call 62;(with_reducible refine(HID.out _).mono ?_);rintro e w6 ⟨rfl,g6⟩;have HG6:=Lib.hid (HG.out.trans g6);clear g6)
          go_ret
          exact⟨ret_bool HF2.out.symm,HG0.out.trans HG6.out⟩
        | true =>
          clear HNO hd
          go_wp2_with (go_at_call 62;(with_reducible refine(HID.out _).mono ?_);rintro e w6 ⟨rfl,g6⟩;have HG6:=Lib.hid (HGr.out.trans g6);clear g6)
          go_roundg (ns.length - (j+1))
          case measure=>have:=HLT.out;omega
          case rel=>exact⟨j+1,by go_num,HLT.out,rfl,Lib.hid (by rw [all_snoc HTK.out,HI.out,Bool.true_and];exact HD.out),HG6⟩
       ·obtain rfl:j=ns.length:=by omega
        rw [List.take_length] at HI
        replace HM:Hid ((okHs hs&&okTs ts)=b):=Lib.hid (by rw [← HM.out,show okNs ns=true from HI.out,Bool.true_and])
        have HG5:Hid (Grew w1 wr):=Lib.hid HG.out
        have hbx:=HBX.out.grew HG.out
        have r0:=hbx.cell 0
        have r1:=hbx.cell 1
        have r2:=hbx.cell 2
        have r3:=hbx.cell 3
        have r4:=hbx.cell 4
        have r5:=hbx.cell 5
        simp only [zz7,zz8] at r0 r1 r2 r3 r4 r5
        clear HOK hbx HI
        go_wp2
        clear r0 r1 r2 r3 r4 r5
        have HOK:Hid (hs.all (fun c:Cn=>okH c.s c.v)=false→b=false):=Lib.hid (fun h=>by rw [← HM.out,show okHs hs=false from h,Bool.false_and])
        go_loopg [10,82] hs.length (fun gg s0_ iv wr=>∃(j:Nat),iv=.int .i64 (j:Int)∧j≤hs.length∧gg=hs.length - j∧Hid ((hs.take j).all (fun c:Cn=>okH c.s c.v)=true)∧Hid (Grew w1 wr))
        case atStart=>exact⟨0,rfl,Nat.zero_le _,rfl,Lib.hid rfl,HG5⟩
        case round =>
         obtain ⟨j,rfl,hj,rfl,HI,HG⟩:=hrel
         by_cases hlt:j < hs.length
         ·obtain ⟨b1,o1,rfl,hcc⟩:=HXH.out.getF j hlt
          have hm:=List.getElem_mem hlt
          have htk:=List.take_succ_eq_append_getElem hlt
          have HLT:=Lib.hid (Nat.succ_le_of_lt hlt)
          have hsz0:=HSZ.out.2.2.2.2 _ hm
          have hno:=fun h=>HOK.out (all_no (f:=fun c:Cn=>okH c.s c.v) hm h)
          generalize hs[j]=x at hcc hm htk hsz0 hno
          obtain ⟨s,z,q⟩:=x
          have hsz:s.size≤1048576:=hsz0
          replace hcc:∀i_ u_,([.string s,.int .i64 z,.int .i64 q]:List Value)[i_]?=some u_→wr.cell? ⟨b1,o1+j * 3+i_,none⟩=some u_:=fun i_ u_ h_=>Atv.kept (hcc i_ u_ h_) HG.out
          have q0:wr.cell? ⟨b1,o1+j * 3,none⟩=some (.string s):=by simpa using hcc 0 _ rfl
          have q1:wr.cell? ⟨b1,o1+j * 3+1,none⟩=some (.int .i64 z):=hcc 1 _ rfl
          have q2:wr.cell? ⟨b1,o1+j * 3+2,none⟩=some (.int .i64 q):=hcc 2 _ rfl
          have HTK:=Lib.hid htk
          have HNO:Hid (okH s z=false→b=false):=Lib.hid hno
          have HID:=Lib.hid (fun W=>ident_any s hsz W)
          clear hcc hm htk hsz hsz0 hno
          go_upto_region 22 with fail
          have hb1:Blk wr.heap.size [.string s,.int .i64 z,.int .i64 q] 64 (wr.alloc (Obj.cells #[.string s,.int .i64 z,.int .i64 q] 64)):=Blk.new wr _ _
          have hgV:Grew w1 (wr.alloc (Obj.cells #[.string s,.int .i64 z,.int .i64 q] 64)):=HG.out.alloc _
          generalize (wr.alloc (Obj.cells #[.string s,.int .i64 z,.int .i64 q] 64))=V at hb1 hgV ⊢
          generalize wr.heap.size=T at hb1 ⊢
          have HGV:=Lib.hid hgV
          have d0:Atv ⟨T,0,none⟩ (.string s) V:=hb1.atv 0 rfl
          have d1:Atv ⟨T,1,none⟩ (.int .i64 z) V:=hb1.atv 1 rfl
          have d2:Atv ⟨T,2,none⟩ (.int .i64 q) V:=hb1.atv 2 rfl
          clear hb1 hgV q0 q1 q2 HG
          refine wp_postsL [some 86,some 87,some 88,some 89,some 90,some 91,some 92,some 93,some 94,some 95] [Zf,Zf,Zf,Zf,Zf,Zf,Zf,Zf,Zf,Zf,Zf,Zf,Zf,Zf,Zf,Zf,Zf,Zf,Zf,Zf,Zf,Zf,Zf,Zf,Zf,Zf,Zf,Zf,Zf,Zf,Zf,Zf,Zf,Zf,Zf,Zf,Zf,Zf,Zf,Zf,Zf,Zf,Zf,Zf,Zf,Zf,Zf,Zf,Zf,Zf,Zf,Zf,Zf,Zf,Zf,Zf,Zf,Zf,Zf,Zf,Zf,Zf,Zf,Zf,Zf,Zf,Zf,Zf,Zf,Zf,Zf,Zf,Zf,Zf,Zf,Zf,Zf,Zf,Zf,Zf,Zf,Zf,Zf,Zf,Zf,Zf,Zt,Zt,Zt,Zt,Zt,Zt,Zt,Zt,Zt,Zt,Zf,Zf,Zf,Zf,Zf,Zf,Zf,Zf,Zf,Zf,Zf,Zf] [fun v _=>v=.pointer (some ⟨T,0,none⟩),fun v _=>v=.string s,fun v _=>v=.bool (idn s),fun v _=>v=.bool (!(idn s)),fun v _=>v=.bool (!(idn s)),fun v _=>(((!(idn s))=false)→v=.pointer (some ⟨T,1,none⟩))∧(¬ ((!(idn s))=false)→v=undef),fun v _=>(((!(idn s))=false)→v=.int .i64 (z))∧(¬ ((!(idn s))=false)→v=undef),fun v _=>(((!(idn s))=false)→v=.bool (num1 z 0))∧(¬ ((!(idn s))=false)→v=undef),fun v _=>(((!(idn s))=false)→v=.bool (!(num1 z 0)))∧(¬ ((!(idn s))=false)→v=undef),fun v _=>v=.bool ((!(idn s))||(!(num1 z 0)))] (by kernel_rfl) rfl ?_ ⟨?_,?_,?_,?_,?_,?_,?_,?_,?_,?_,trivial⟩ ?_
          ·exact⟨Zi,Zi,Zi,Zi,Zi,Zi,Zi,Zi,Zi,Zi,trivial⟩
          ·intro u w hR hd;exact rn_fld_64_0 (ev rfl) Zr
          ·intro u w hR hd;exact rn_ld_9 (ev (hd.1 rfl)) (d0.kept hR) Zr
          ·intro u w hR hd;exact runs_c1 enters_id (ev (hd.1 rfl)) (callp (fun _ e=>e) (HID.out _))
          ·intro u w hR hd;exact runs_nt (ev (hd.1 rfl)) Zr
          ·intro u w hR hd;exact runs_mv (ev (hd.1 rfl)) Zr
          ·intro u w hR hd;exact⟨fun hg=>have hG:((!(idn s))=false):=Value.bool.inj ((hd.1 rfl).symm.trans hg);rn_fld_64_1 (ev rfl) (Zs hG),Zn (hd.1 rfl)⟩
          ·intro u w hR hd;exact⟨fun hg=>have hG:((!(idn s))=false):=Value.bool.inj ((hd.2.1 rfl).symm.trans hg);rn_ld_3 (ev ((hd.1 rfl).1 hG)) (d1.kept hR) (Zs hG),Zn (hd.2.1 rfl)⟩
          ·intro u w hR hd;exact⟨fun hg=>have hG:((!(idn s))=false):=Value.bool.inj ((hd.2.1 rfl).symm.trans hg);runs_c2 enters_nu (ev ((hd.1 rfl).1 hG)) rfl (callp (fun _ e=>⟨fun _=>e,fun hn=>absurd hG hn⟩) ((number_any z 0 _).mono fun e w9 h=>(⟨h.1,h.2 ▸ Grew.refl _⟩))),Zn (hd.2.1 rfl)⟩
          ·intro u w hR hd;exact⟨fun hg=>have hG:((!(idn s))=false):=Value.bool.inj ((hd.2.1 rfl).symm.trans hg);runs_nt (ev ((hd.1 rfl).1 hG)) (Zs hG),Zn (hd.2.1 rfl)⟩
          ·intro u w hR hd;exact runs_or2 (ev (hd.1 rfl)) (fun hb=>ev ((hd.2.1 rfl).1 hb)) Zr
          ·intro u w4 hR hh
           have he:u 95=.bool ((!(idn s))||(!(num1 z 0))):=hh 9 (by decide)
           have hE:((!(idn s))||(!(num1 z 0)))=!okH s z:=by rw [okH,Bool.not_not]
           rw [hE] at he
           simp only [mixA,mixL,zz9,zz0,he]
           have HG4:Hid (Grew w1 w4):=Lib.hid (HGV.out.trans hR)
           clear hh he hE hR d0 d1 d2
           cases hok:okH s z with
           | false =>
             have HF2:=Lib.hid (HNO.out hok)
             go_wp2
             go_ret
             exact⟨ret_bool HF2.out.symm,HG0.out.trans HG4.out⟩
           | true =>
             have HOKX:=Lib.hid hok
             clear HNO hok
             go_wp2
             go_roundg (hs.length - (j+1))
             case measure=>have:=HLT.out;omega
             case rel=>exact⟨j+1,by go_num,HLT.out,rfl,Lib.hid (by rw [all_snoc HTK.out,HI.out,Bool.true_and];exact HOKX.out),HG4⟩
         ·obtain rfl:j=hs.length:=by omega
          rw [List.take_length] at HI
          replace HM:Hid ((okTs ts)=b):=Lib.hid (by rw [← HM.out,show okHs hs=true from HI.out,Bool.true_and])
          have HG7:Hid (Grew w1 wr):=Lib.hid HG.out
          have hbx:=HBX.out.grew HG.out
          have r0:=hbx.cell 0
          have r1:=hbx.cell 1
          have r2:=hbx.cell 2
          have r3:=hbx.cell 3
          have r4:=hbx.cell 4
          have r5:=hbx.cell 5
          simp only [zz7,zz8] at r0 r1 r2 r3 r4 r5
          clear HOK hbx HI
          go_wp2
          clear r0 r1 r2 r3 r4 r5
          have HOK:Hid (ts.all (fun t:Ta=>okT t)=false→b=false):=Lib.hid (fun h=>by rw [← HM.out,show okTs ts=false from h])
          go_loopg [12,100] ts.length (fun gg bv iv wr=>∃(j:Nat),iv=.int .i64 (j:Int)∧j≤ts.length∧gg=ts.length - j∧Hid ((ts.take j).all (fun t:Ta=>okT t)=true)∧Hid (Grew w1 wr))
          case atStart=>exact⟨0,rfl,Nat.zero_le _,rfl,Lib.hid rfl,HG7⟩
          case round =>
           obtain ⟨j,rfl,hj,rfl,HI,HG⟩:=hrel
           by_cases hlt:j < ts.length
           ·
            obtain ⟨ba,oa,pba,cba,rfl,hba,hboa,hca⟩:=HXT.out.get j hlt
            have hma:=List.getElem_mem hlt
            have hta:=List.take_succ_eq_append_getElem hlt
            have HLa:=Lib.hid (Nat.succ_le_of_lt hlt)
            generalize ts[j]=xa at *
            obtain ⟨sa,ia,da,ha,ma,na,ya,qa⟩:=xa
            replace hba:sa.size≤1048576∧ha.size≤1048576∧ma.size≤1048576:=hba.2
            have HTa:=Lib.hid hta
            have HYa:Hid (SL B w1 pba cba ya):=Lib.hid hboa
            have hcapa:ya.length≤cba:=hboa.cap.1
            have hmaxa:=hboa.cap.2.1
            replace hca:∀i_ u_,(tdc ⟨sa,ia,da,ha,ma,na,pba,ya.length,cba,qa⟩)[i_]?=some u_→wr.cell? ⟨ba,oa+j * 8+i_,none⟩=some u_:=fun i_ u_ h_=>Atv.kept (hca i_ u_ h_) HG.out
            have ca0:wr.cell? ⟨ba,oa+j * 8,none⟩=some (.string sa):=by simpa using hca 0 _ rfl
            have ca1:wr.cell? ⟨ba,oa+j * 8+1,none⟩=some (.int .i64 ia):=hca 1 _ rfl
            have ca2:wr.cell? ⟨ba,oa+j * 8+2,none⟩=some (.int .i64 da):=hca 2 _ rfl
            have ca3:wr.cell? ⟨ba,oa+j * 8+3,none⟩=some (.string ha):=hca 3 _ rfl
            have ca4:wr.cell? ⟨ba,oa+j * 8+4,none⟩=some (.string ma):=hca 4 _ rfl
            have ca5:wr.cell? ⟨ba,oa+j * 8+5,none⟩=some (.int .i64 na):=hca 5 _ rfl
            have ca6:wr.cell? ⟨ba,oa+j * 8+6,none⟩=some (.slice pba ya.length cba):=hca 6 _ rfl
            have ca7:wr.cell? ⟨ba,oa+j * 8+7,none⟩=some (.int .i64 qa):=hca 7 _ rfl
            clear hca hboa hta
            obtain ⟨d,hd⟩:∃d,okT ⟨sa,ia,da,ha,ma,na,ya,qa⟩=d:=⟨_,rfl⟩
            have HNO:=Lib.hid (fun(h:d=false)=>(show b=false from HOK.out (all_no (f:=fun t:Ta=>okT t) hma (hd.trans h))))
            have HTO:=Lib.hid (fun W (hW:Grew w1 W)=>(show Calls Tryz.prog 64 #[tv sa ia da ha ma na pba ya.length cba qa] W fun e w'=>e=.returned (.bool d)∧Grew W w' from hd ▸ taskok_any sa ia da ha ma na ya qa B W pba cba hba.1 hba.2.1 hba.2.2 (HYa.out.kept hW)))
            have HD:=Lib.hid hd
            clear hma
            cases d with
            | false =>
              have HF2:=Lib.hid (HNO.out rfl)
              clear HNO hd
              go_wp2_with (go_at_call 64;(with_reducible refine(HTO.out _ (HG.out.alloc _)).mono ?_);rintro e w6 ⟨rfl,g6⟩;have HG6:=Lib.hid ((HG.out.alloc _).trans g6);clear g6)
              go_ret
              exact⟨ret_bool HF2.out.symm,HG0.out.trans HG6.out⟩
            | true =>
              clear HNO hd
              go_wp2_with (go_at_call 64;(with_reducible refine(HTO.out _ (HG.out.alloc _)).mono ?_);rintro e w6 ⟨rfl,g6⟩;have HG6:=Lib.hid ((HG.out.alloc _).trans g6);clear g6)
              go_roundg (ts.length - (j+1))
              case measure=>have:=HLa.out;omega
              case rel=>exact⟨j+1,by go_num,HLa.out,rfl,Lib.hid (by rw [all_snoc HTa.out,HI.out,Bool.true_and];exact HD.out),HG6⟩
           ·obtain rfl:j=ts.length:=by omega
            rw [List.take_length] at HI
            go_wp2
            go_ret
            exact⟨ret_bool (by rw [← HM.out];exact HI.out.symm),HG0.out.trans HG.out⟩

end Go.Proofs.YtcknpcbkofgdoaaGreatDoor
namespace Go.Proofs.YtcknpcbkofgdoaaGreatDoor
open Go Go.RowKit Go.IntWalk
set_option linter.unusedSimpArgs false
set_option linter.unusedVariables false
set_option maxRecDepth 8000
section
variable {dst:Option Tmp}{ty:TypeId}{pos:String}{after:Array Edge}{g:Option (Nat × Bool)}{a:Act}{w:World}{T:Value→World→Prop}
theorem rn_cat_9 {o1 o2:Operand}{b c:List UInt8}(hx:a.eval o1=.string ⟨b.toArray⟩) (hy:a.eval o2=.string ⟨c.toArray⟩) (hb:b.length+c.length≤9223372036854775807) (h:T (.string ⟨(b++c).toArray⟩) w):Runs Tryz.prog ⟨dst,.binOp .add 9 o1 o2 9,ty,pos,after,g⟩ a w T:=by
 have hs:(⟨b.toArray⟩:ByteArray)++⟨c.toArray⟩=⟨(b++c).toArray⟩:=by apply ByteArray.ext;simp
 have hn:¬ 9223372036854775807 < b.length+c.length:=by omega
 refine Runs.value (v:=.string ⟨(b++c).toArray⟩) (w':=w) ?_ h
 rw [← hs]
 simp only [execOp,hx,hy]
 go_simp
theorem rn_idx_33 {x y:Operand}{b o n c:Nat}(i:Nat) (hx:a.eval x=.slice (some ⟨b,o,none⟩) n c) (hy:a.eval y=.int .i64 (i:Int)) (hi:i < n) (h:T (.pointer (some ⟨b,o+i * 6,none⟩)) w):Runs Tryz.prog ⟨dst,.indexAddr 33 x y,ty,pos,after,g⟩ a w T:=by
 have hi2:(i:Int) < (n:Int):=by omega
 refine Runs.value (v:=.pointer (some ⟨b,o+i * 6,none⟩)) (w':=w) ?_ h
 simp only [execOp,hx,hy]
 go_simp
theorem rn_ld_35 {x:Operand}{S o:Nat}{v0 v1 v2 v3 v4 v5:Value}(hx:a.eval x=.pointer (some ⟨S,o,none⟩)) (h0:w.cell? ⟨S,o,none⟩=some v0) (h1:w.cell? ⟨S,o+1,none⟩=some v1) (h2:w.cell? ⟨S,o+2,none⟩=some v2) (h3:w.cell? ⟨S,o+3,none⟩=some v3) (h4:w.cell? ⟨S,o+4,none⟩=some v4) (h5:w.cell? ⟨S,o+5,none⟩=some v5) (h:T (.agg #[v0,v1,v2,v3,v4,v5]) w):Runs Tryz.prog ⟨dst,.load 35 x,ty,pos,after,g⟩ a w T:=by
 refine Runs.value (v:=.agg #[v0,v1,v2,v3,v4,v5]) (w':=w) ?_ h
 simp only [execOp,hx]
 go_simp
end
set_option maxHeartbeats 8000000 in
theorem text_any:∀x,TextC x:=by
 intro x
 induction x using Xp.ind with
 | h k s v o ar q ih =>
 intro B w p c hz hx hok hn
 replace hz:s.size≤1048576∧v≤32767:=hz
 have HX:Hid (XL B w p c ar):=Lib.hid hx
 have hcap:ar.length≤c:=hx.cap.1
 have hmax:=hx.cap.2.1
 show Calls Tryz.prog 51 #[xv k s v o p ar.length c q] w _
 obtain ⟨hz1,hz2⟩:=hz
 rcases ok_cases hok with ⟨rfl,rfl,-,-,hv⟩ | ⟨hk,rfl,-,-,hs⟩ | ⟨rfl,a,rfl,-,-,hs,hoka⟩ | ⟨rfl,a,rfl,-,-,ho,hoka⟩ | ⟨rfl,a,b,rfl,-,-,ho,hoka,hokb⟩
 ·rw [tx1]
  have HN:=Lib.hid (fun W=>numz_any v ⟨by omega,by omega⟩ W)
  have hw:wrap64 v=v:=wrap64_in _ (by omega)
  clear ih hx HX hok hn
  go_enter Tryz.func51,Tryz.ntmps51
  go_wp2_with (go_at_call 46;(with_reducible refine(HN.out _).mono ?_);rintro e w2 ⟨rfl,rfl⟩)
  go_ret
  exact⟨rfl,(Grew.refl w).alloc _⟩
 ·clear ih hx HX hok hn
  rcases hk with rfl | rfl
  ·rw [tx2]
   go_enter Tryz.func51,Tryz.ntmps51
   go_wp2
   go_ret
   exact⟨rfl,(Grew.refl w).alloc _⟩
  ·rw [tx4]
   have HE:Hid ((⟨#[114,101,97,100,40]⟩:ByteArray)++s++⟨#[41]⟩=⟨(([114,101,97,100,40]++s.data.toList)++[41]).toArray⟩):=Lib.hid (by rw [← str_append,← str_append])
   generalize (⟨(([114,101,97,100,40]++s.data.toList)++[41]).toArray⟩:ByteArray)=R at HE ⊢
   go_enter Tryz.func51,Tryz.ntmps51
   go_wp2
   go_ret
   exact⟨ret_string HE.out,(Grew.refl w).alloc _⟩
 ·rw [tx3]
  have ls:=idn_len hs
  obtain ⟨b1a,o1a,pa,ca,hpa,hba,hxa,hca⟩:=HX.out.get 0 (by simp)
  obtain ⟨ka,sa,va,oa,ra,qa⟩:=a
  replace hxa:XL B w pa ca ra:=hxa
  replace hba:B b1a∧sa.size≤1048576∧va≤32767:=hba
  replace hca:∀i_ u_,(xdc ⟨ka,sa,va,oa,pa,ra.length,ca,qa⟩)[i_]?=some u_→w.cell? ⟨b1a,o1a+0 * 6+i_,none⟩=some u_:=hca
  rw [nX,nXs,nXs] at hn
  obtain ⟨Ta,hTa⟩:∃t,txX ⟨ka,sa,va,oa,ra,qa⟩=t:=⟨_,rfl⟩
  have lTa:=txX_len ⟨ka,sa,va,oa,ra,qa⟩ hoka (XL.fitX (x:=⟨ka,sa,va,oa,ra,qa⟩) hba.2.2 hxa)
  rw [hTa] at lTa
  have HTa:=Lib.hid (fun W (hW:Grew w W)=>(show Calls Tryz.prog 51 #[xv ka sa va oa pa ra.length ca qa] W fun e w'=>e=.returned (.string ⟨(Ta).toArray⟩)∧Grew W w' from hTa ▸ ih ⟨ka,sa,va,oa,ra,qa⟩ (by simp) B W pa ca hba.2 (hxa.kept hW) hoka (by omega)))
  rw [hTa]
  subst hpa
  go_enter Tryz.func51,Tryz.ntmps51
  go_upto_region 5 with fail
  have hb0:Blk w.heap.size [.int .i64 3,.string s,.int .i16 v,.int .i64 o,.slice (some ⟨b1a,o1a,none⟩) 1 c,.int .i64 q] 35 (w.alloc (Obj.cells #[.int .i64 3,.string s,.int .i16 v,.int .i64 o,.slice (some ⟨b1a,o1a,none⟩) 1 c,.int .i64 q] 35)):=Blk.new w _ _
  have hgV:Grew w (w.alloc (Obj.cells #[.int .i64 3,.string s,.int .i16 v,.int .i64 o,.slice (some ⟨b1a,o1a,none⟩) 1 c,.int .i64 q] 35)):=(Grew.refl w).alloc _
  generalize (w.alloc (Obj.cells #[.int .i64 3,.string s,.int .i16 v,.int .i64 o,.slice (some ⟨b1a,o1a,none⟩) 1 c,.int .i64 q] 35))=V at hb0 hgV ⊢
  generalize w.heap.size=S at hb0 ⊢
  have HGV:=Lib.hid hgV
  have hbd:=hb0.grew (Grew.refl V).drw
  have d0:Atv ⟨S,0,none⟩ (.int .i64 3) V.drew:=(hbd).atv 0 rfl
  have d1:Atv ⟨S,1,none⟩ (.string s) V.drew:=(hbd).atv 1 rfl
  have d3:Atv ⟨S,3,none⟩ (.int .i64 o) V.drew:=(hbd).atv 3 rfl
  have d4:Atv ⟨S,4,none⟩ (.slice (some ⟨b1a,o1a,none⟩) 1 c) V.drew:=(hbd).atv 4 rfl
  have e0:Atv ⟨b1a,o1a+0 * 6,none⟩ (.int .i64 ka) V.drew:=Atv.kept (hca 0 _ rfl) (HGV.out.trans (Grew.refl V).drw)
  have e1:Atv ⟨b1a,o1a+0 * 6+1,none⟩ (.string sa) V.drew:=Atv.kept (hca 1 _ rfl) (HGV.out.trans (Grew.refl V).drw)
  have e2:Atv ⟨b1a,o1a+0 * 6+2,none⟩ (.int .i16 va) V.drew:=Atv.kept (hca 2 _ rfl) (HGV.out.trans (Grew.refl V).drw)
  have e3:Atv ⟨b1a,o1a+0 * 6+3,none⟩ (.int .i64 oa) V.drew:=Atv.kept (hca 3 _ rfl) (HGV.out.trans (Grew.refl V).drw)
  have e4:Atv ⟨b1a,o1a+0 * 6+4,none⟩ (.slice pa ra.length ca) V.drew:=Atv.kept (hca 4 _ rfl) (HGV.out.trans (Grew.refl V).drw)
  have e5:Atv ⟨b1a,o1a+0 * 6+5,none⟩ (.int .i64 qa) V.drew:=Atv.kept (hca 5 _ rfl) (HGV.out.trans (Grew.refl V).drw)
  clear hb0 hgV hbd hca
  refine wp_posts [some 15,some 16,some 17,some 18,some 19,some 20,some 21,some 22,some 23,some 24,some 2] [Zf,Zf,Zt,Zf,Zf,Zf,Zf,Zf,Zf,Zf,Zf,Zf,Zf,Zf,Zf,Zt,Zt,Zt,Zt,Zt,Zt,Zt,Zt,Zt,Zt,Zf,Zf,Zf,Zf,Zf,Zf,Zf,Zf,Zf,Zf,Zf,Zf,Zf,Zf,Zf,Zf,Zf,Zf,Zf,Zf,Zf,Zf,Zf,Zf,Zf,Zf,Zf,Zf,Zf,Zf,Zf,Zf,Zf,Zf,Zf,Zf,Zf,Zf,Zf,Zf,Zf,Zf,Zf,Zf,Zf,Zf] [fun v _=>v=.pointer (some ⟨S,1,none⟩),fun v _=>v=.string ⟨(s.data.toList).toArray⟩,fun v _=>v=.string ⟨((s.data.toList)++([91])).toArray⟩,fun v _=>v=.pointer (some ⟨S,4,none⟩),fun v _=>v=.slice (some ⟨b1a,o1a,none⟩) (1) (c),fun v _=>v=.pointer (some ⟨b1a,o1a+0 * 6,none⟩),fun v _=>v=.agg #[.int .i64 (ka),.string sa,.int .i16 (va),.int .i64 (oa),.slice pa ra.length ca,.int .i64 (qa)],fun v _=>v=.string ⟨(Ta).toArray⟩,fun v _=>v=.string ⟨(((s.data.toList)++([91]))++(Ta)).toArray⟩,fun v _=>v=.string ⟨((((s.data.toList)++([91]))++(Ta))++([93])).toArray⟩,fun v _=>v=.string ⟨((((s.data.toList)++([91]))++(Ta))++([93])).toArray⟩] (by kernel_rfl) (by kernel_rfl) rfl ?_ ⟨?_,?_,?_,?_,?_,?_,?_,?_,?_,?_,?_,trivial⟩ ?_
  ·exact⟨Zi,Zi,Zi,Zi,Zi,Zi,Zi,Zi,Zi,Zi,Zi,trivial⟩
  ·intro u w hR hd;exact rn_fld_35_1 (ev rfl) Zr
  ·intro u w hR hd;exact rn_ld_9 (ev (hd.1 rfl)) (d1.kept hR) Zr
  ·intro u w hR hd;exact rn_cat_9 (ev (hd.1 rfl)) rfl (by first | omega | (simp <;> omega)) Zr
  ·intro u w hR hd;exact rn_fld_35_4 (ev rfl) Zr
  ·intro u w hR hd;exact rn_ld_33 (ev (hd.1 rfl)) (d4.kept hR) Zr
  ·intro u w hR hd;exact rn_idx_33 (0) (ev (hd.1 rfl)) rfl (by omega) Zr
  ·intro u w hR hd;exact rn_ld_35 (ev (hd.1 rfl)) (e0.kept hR) (e1.kept hR) (e2.kept hR) (e3.kept hR) (e4.kept hR) (e5.kept hR) Zr
  ·intro u w hR hd;exact runs_c1 enters_tx (ev (hd.1 rfl)) (callp (fun _ e=>e) (HTa.out _ (HGV.out.trans ((Grew.refl _).drw.trans hR))))
  ·intro u w hR hd;exact rn_cat_9 (ev (hd.1 rfl)) (ev (hd.2.1 rfl)) (by first | omega | (simp <;> omega)) Zr
  ·intro u w hR hd;exact rn_cat_9 (ev (hd.1 rfl)) rfl (by first | omega | (simp <;> omega)) Zr
  ·intro u w hR hd;exact runs_mva (ev (hd.1 rfl)) Zr
  ·intro u w4 hR h
   have he:u 2=.string ⟨((((s.data.toList)++([91]))++(Ta))++([93])).toArray⟩:=h 10 (by decide)
   have HG4:=Lib.hid (HGV.out.trans ((Grew.refl V).drw.trans hR))
   simp only [mixA,mixL,zz9,zz0,he]
   clear h he hR
   go_wp2
   go_ret
   exact⟨rfl,HG4.out⟩
 ·rw [tx5]
  obtain ⟨b1a,o1a,pa,ca,hpa,hba,hxa,hca⟩:=HX.out.get 0 (by simp)
  obtain ⟨ka,sa,va,oa,ra,qa⟩:=a
  replace hxa:XL B w pa ca ra:=hxa
  replace hba:B b1a∧sa.size≤1048576∧va≤32767:=hba
  replace hca:∀i_ u_,(xdc ⟨ka,sa,va,oa,pa,ra.length,ca,qa⟩)[i_]?=some u_→w.cell? ⟨b1a,o1a+0 * 6+i_,none⟩=some u_:=hca
  rw [nX,nXs,nXs] at hn
  obtain ⟨Ta,hTa⟩:∃t,txX ⟨ka,sa,va,oa,ra,qa⟩=t:=⟨_,rfl⟩
  have lTa:=txX_len ⟨ka,sa,va,oa,ra,qa⟩ hoka (XL.fitX (x:=⟨ka,sa,va,oa,ra,qa⟩) hba.2.2 hxa)
  rw [hTa] at lTa
  obtain ⟨Ua,hUa⟩:∃t,opd 6 ka oa (txX ⟨ka,sa,va,oa,ra,qa⟩)=t:=⟨_,rfl⟩
  have lUa:=opd_len 6 ka oa (txX ⟨ka,sa,va,oa,ra,qa⟩)
  rw [hUa,hTa] at lUa
  have HUa:=Lib.hid (fun W (hW:Grew w W)=>(show Calls Tryz.prog 105 #[xv ka sa va oa pa ra.length ca qa,.int .i64 6] W fun e w'=>e=.returned (.string ⟨(Ua).toArray⟩)∧Grew W w' from hUa ▸ operand_of (x:=⟨ka,sa,va,oa,ra,qa⟩) (ih ⟨ka,sa,va,oa,ra,qa⟩ (by simp)) B W pa ca 6 hba.2 (hxa.kept hW) hoka (by omega)))
  obtain ⟨G,hG⟩:∃t,sgT o=t:=⟨_,rfl⟩
  have lG:=sgT_len o
  rw [hG] at lG
  have HSG:=Lib.hid (fun W=>hG ▸ sign_any o (by omega) W)
  clear ho
  rw [show (Xp.mk ka sa va oa ra qa).k=ka from rfl,show (Xp.mk ka sa va oa ra qa).o=oa from rfl,hUa,hG]
  subst hpa
  go_enter Tryz.func51,Tryz.ntmps51
  go_upto_region 9 with fail
  have hb0:Blk w.heap.size [.int .i64 5,.string s,.int .i16 v,.int .i64 o,.slice (some ⟨b1a,o1a,none⟩) 1 c,.int .i64 q] 35 (w.alloc (Obj.cells #[.int .i64 5,.string s,.int .i16 v,.int .i64 o,.slice (some ⟨b1a,o1a,none⟩) 1 c,.int .i64 q] 35)):=Blk.new w _ _
  have hgV:Grew w (w.alloc (Obj.cells #[.int .i64 5,.string s,.int .i16 v,.int .i64 o,.slice (some ⟨b1a,o1a,none⟩) 1 c,.int .i64 q] 35)):=(Grew.refl w).alloc _
  generalize (w.alloc (Obj.cells #[.int .i64 5,.string s,.int .i16 v,.int .i64 o,.slice (some ⟨b1a,o1a,none⟩) 1 c,.int .i64 q] 35))=V at hb0 hgV ⊢
  generalize w.heap.size=S at hb0 ⊢
  have HGV:=Lib.hid hgV
  have hbd:=hb0.grew (Grew.refl V).drw
  have d0:Atv ⟨S,0,none⟩ (.int .i64 5) V.drew:=(hbd).atv 0 rfl
  have d1:Atv ⟨S,1,none⟩ (.string s) V.drew:=(hbd).atv 1 rfl
  have d3:Atv ⟨S,3,none⟩ (.int .i64 o) V.drew:=(hbd).atv 3 rfl
  have d4:Atv ⟨S,4,none⟩ (.slice (some ⟨b1a,o1a,none⟩) 1 c) V.drew:=(hbd).atv 4 rfl
  have e0:Atv ⟨b1a,o1a+0 * 6,none⟩ (.int .i64 ka) V.drew:=Atv.kept (hca 0 _ rfl) (HGV.out.trans (Grew.refl V).drw)
  have e1:Atv ⟨b1a,o1a+0 * 6+1,none⟩ (.string sa) V.drew:=Atv.kept (hca 1 _ rfl) (HGV.out.trans (Grew.refl V).drw)
  have e2:Atv ⟨b1a,o1a+0 * 6+2,none⟩ (.int .i16 va) V.drew:=Atv.kept (hca 2 _ rfl) (HGV.out.trans (Grew.refl V).drw)
  have e3:Atv ⟨b1a,o1a+0 * 6+3,none⟩ (.int .i64 oa) V.drew:=Atv.kept (hca 3 _ rfl) (HGV.out.trans (Grew.refl V).drw)
  have e4:Atv ⟨b1a,o1a+0 * 6+4,none⟩ (.slice pa ra.length ca) V.drew:=Atv.kept (hca 4 _ rfl) (HGV.out.trans (Grew.refl V).drw)
  have e5:Atv ⟨b1a,o1a+0 * 6+5,none⟩ (.int .i64 qa) V.drew:=Atv.kept (hca 5 _ rfl) (HGV.out.trans (Grew.refl V).drw)
  clear hb0 hgV hbd hca
  refine wp_posts [some 33,some 34,some 35,some 36,some 37,some 38,some 39,some 40,some 41,some 2] [Zf,Zf,Zt,Zf,Zf,Zf,Zf,Zf,Zf,Zf,Zf,Zf,Zf,Zf,Zf,Zf,Zf,Zf,Zf,Zf,Zf,Zf,Zf,Zf,Zf,Zf,Zf,Zf,Zf,Zf,Zf,Zf,Zf,Zt,Zt,Zt,Zt,Zt,Zt,Zt,Zt,Zt,Zf,Zf,Zf,Zf,Zf,Zf,Zf,Zf,Zf,Zf,Zf,Zf,Zf,Zf,Zf,Zf,Zf,Zf,Zf,Zf,Zf,Zf,Zf,Zf,Zf,Zf,Zf,Zf,Zf] [fun v _=>v=.pointer (some ⟨S,3,none⟩),fun v _=>v=.int .i64 (o),fun v _=>v=.string ⟨(G).toArray⟩,fun v _=>v=.pointer (some ⟨S,4,none⟩),fun v _=>v=.slice (some ⟨b1a,o1a,none⟩) (1) (c),fun v _=>v=.pointer (some ⟨b1a,o1a+0 * 6,none⟩),fun v _=>v=.agg #[.int .i64 (ka),.string sa,.int .i16 (va),.int .i64 (oa),.slice pa ra.length ca,.int .i64 (qa)],fun v _=>v=.string ⟨(Ua).toArray⟩,fun v _=>v=.string ⟨((G)++(Ua)).toArray⟩,fun v _=>v=.string ⟨((G)++(Ua)).toArray⟩] (by kernel_rfl) (by kernel_rfl) rfl ?_ ⟨?_,?_,?_,?_,?_,?_,?_,?_,?_,?_,trivial⟩ ?_
  ·exact⟨Zi,Zi,Zi,Zi,Zi,Zi,Zi,Zi,Zi,Zi,trivial⟩
  ·intro u w hR hd;exact rn_fld_35_3 (ev rfl) Zr
  ·intro u w hR hd;exact rn_ld_3 (ev (hd.1 rfl)) (d3.kept hR) Zr
  ·intro u w hR hd;exact runs_c1 enters_sg (ev (hd.1 rfl)) (callp (fun _ e=>e) (HSG.out _))
  ·intro u w hR hd;exact rn_fld_35_4 (ev rfl) Zr
  ·intro u w hR hd;exact rn_ld_33 (ev (hd.1 rfl)) (d4.kept hR) Zr
  ·intro u w hR hd;exact rn_idx_33 (0) (ev (hd.1 rfl)) rfl (by omega) Zr
  ·intro u w hR hd;exact rn_ld_35 (ev (hd.1 rfl)) (e0.kept hR) (e1.kept hR) (e2.kept hR) (e3.kept hR) (e4.kept hR) (e5.kept hR) Zr
  ·intro u w hR hd;exact runs_c2 enters_op (ev (hd.1 rfl)) rfl (callp (fun _ e=>e) (HUa.out _ (HGV.out.trans ((Grew.refl _).drw.trans hR))))
  ·intro u w hR hd;exact rn_cat_9 (ev (hd.1 rfl)) (ev (hd.2.1 rfl)) (by first | omega | (simp <;> omega)) Zr
  ·intro u w hR hd;exact runs_mva (ev (hd.1 rfl)) Zr
  ·intro u w4 hR h
   have he:u 2=.string ⟨((G)++(Ua)).toArray⟩:=h 9 (by decide)
   have HG4:=Lib.hid (HGV.out.trans ((Grew.refl V).drw.trans hR))
   simp only [mixA,mixL,zz9,zz0,he]
   clear h he hR
   go_wp2
   go_ret
   exact⟨rfl,HG4.out⟩
 ·rw [tx6]
  obtain ⟨b1a,o1a,pa,ca,hpa,hba,hxa,hca⟩:=HX.out.get 0 (by simp)
  obtain ⟨ka,sa,va,oa,ra,qa⟩:=a
  replace hxa:XL B w pa ca ra:=hxa
  replace hba:B b1a∧sa.size≤1048576∧va≤32767:=hba
  replace hca:∀i_ u_,(xdc ⟨ka,sa,va,oa,pa,ra.length,ca,qa⟩)[i_]?=some u_→w.cell? ⟨b1a,o1a+0 * 6+i_,none⟩=some u_:=hca
  obtain ⟨b1b,o1b,pb,cb,hpb,hbb,hxb,hcb⟩:=HX.out.get 1 (by simp)
  obtain ⟨kb,sb,vb,ob,rb,qb⟩:=b
  replace hxb:XL B w pb cb rb:=hxb
  replace hbb:B b1b∧sb.size≤1048576∧vb≤32767:=hbb
  replace hcb:∀i_ u_,(xdc ⟨kb,sb,vb,ob,pb,rb.length,cb,qb⟩)[i_]?=some u_→w.cell? ⟨b1b,o1b+1 * 6+i_,none⟩=some u_:=hcb
  have hpb2:=hpa.symm.trans hpb
  simp only [Option.some.injEq,Addr.mk.injEq,and_true] at hpb2
  obtain ⟨rfl,rfl⟩:=hpb2
  rw [nX,nXs,nXs,nXs] at hn
  obtain ⟨Ta,hTa⟩:∃t,txX ⟨ka,sa,va,oa,ra,qa⟩=t:=⟨_,rfl⟩
  have lTa:=txX_len ⟨ka,sa,va,oa,ra,qa⟩ hoka (XL.fitX (x:=⟨ka,sa,va,oa,ra,qa⟩) hba.2.2 hxa)
  rw [hTa] at lTa
  obtain ⟨Tb,hTb⟩:∃t,txX ⟨kb,sb,vb,ob,rb,qb⟩=t:=⟨_,rfl⟩
  have lTb:=txX_len ⟨kb,sb,vb,ob,rb,qb⟩ hokb (XL.fitX (x:=⟨kb,sb,vb,ob,rb,qb⟩) hbb.2.2 hxb)
  rw [hTb] at lTb
  obtain ⟨Ua,hUa⟩:∃t,opd (lfT o) ka oa (txX ⟨ka,sa,va,oa,ra,qa⟩)=t:=⟨_,rfl⟩
  have lUa:=opd_len (lfT o) ka oa (txX ⟨ka,sa,va,oa,ra,qa⟩)
  rw [hUa,hTa] at lUa
  obtain ⟨Ub,hUb⟩:∃t,opd (lvT o+1) kb ob (txX ⟨kb,sb,vb,ob,rb,qb⟩)=t:=⟨_,rfl⟩
  have lUb:=opd_len (lvT o+1) kb ob (txX ⟨kb,sb,vb,ob,rb,qb⟩)
  rw [hUb,hTb] at lUb
  obtain ⟨G,hG⟩:∃t,sgT o=t:=⟨_,rfl⟩
  have lG:=sgT_len o
  rw [hG] at lG
  have HSG:=Lib.hid (fun W=>hG ▸ sign_any o (by omega) W)
  obtain ⟨LV,hLV⟩:∃z,lvT o=z:=⟨_,rfl⟩
  obtain ⟨LF,hLF⟩:∃z,lfT o=z:=⟨_,rfl⟩
  have hLVb:-10≤LV∧LV≤10:=by rw [← hLV];exact lvT_bd o
  have hLF2:LF=if LV=3 then 4 else LV:=by rw [← hLF,lfT,hLV]
  have HLV:=Lib.hid (fun W=>(show Calls Tryz.prog 106 #[xv 6 s v o p 2 c q] W fun e w'=>e=.returned (.int .i64 LV)∧Grew W w' from by rw [← hLV];exact level_any 6 s v o p _ c q (fun _=>ho) W))
  rw [show (Xp.mk ka sa va oa ra qa).k=ka from rfl,show (Xp.mk ka sa va oa ra qa).o=oa from rfl,show (Xp.mk kb sb vb ob rb qb).k=kb from rfl,show (Xp.mk kb sb vb ob rb qb).o=ob from rfl,hUa,hUb,hG]
  rw [hLF] at hUa
  rw [hLV] at hUb
  have HUa:=Lib.hid (fun W (hW:Grew w W)=>(show Calls Tryz.prog 105 #[xv ka sa va oa pa ra.length ca qa,.int .i64 LF] W fun e w'=>e=.returned (.string ⟨(Ua).toArray⟩)∧Grew W w' from hUa ▸ operand_of (x:=⟨ka,sa,va,oa,ra,qa⟩) (ih ⟨ka,sa,va,oa,ra,qa⟩ (by simp)) B W pa ca LF hba.2 (hxa.kept hW) hoka (by omega)))
  have HUb:=Lib.hid (fun W (hW:Grew w W)=>(show Calls Tryz.prog 105 #[xv kb sb vb ob pb rb.length cb qb,.int .i64 (LV+1)] W fun e w'=>e=.returned (.string ⟨(Ub).toArray⟩)∧Grew W w' from hUb ▸ operand_of (x:=⟨kb,sb,vb,ob,rb,qb⟩) (ih ⟨kb,sb,vb,ob,rb,qb⟩ (by simp)) B W pb cb (LV+1) hbb.2 (hxb.kept hW) hokb (by omega)))
  subst hpa
  have HGG:∀w1,Grew (w.alloc (Obj.cells #[.int .i64 6,.string s,.int .i16 v,.int .i64 o,.slice (some ⟨b1a,o1a,none⟩) 2 c,.int .i64 q] 35)) w1→Blk w.heap.size [.int .i64 6,.string s,.int .i16 v,.int .i64 o,.slice (some ⟨b1a,o1a,none⟩) 2 c,.int .i64 q] 35 w1:=fun w1 h=>(Blk.new w _ _).grew h
  have HGH:=Lib.hid HGG
  clear HGG
  clear hLF
  by_cases h3:LV=3
  ·rw [if_pos h3] at hLF2
   subst hLF2
   subst h3
   go_enter Tryz.func51,Tryz.ntmps51
   go_upto_region 15 with (go_at_call 106;(with_reducible refine(HLV.out _).mono ?_);rintro e w1 ⟨rfl,g1⟩;have HV1:=Lib.hid g1;clear g1)
   have hb0:=HGH.out _ HV1.out
   have hgV:Grew w w1:=((Grew.refl w).alloc _).trans HV1.out
   clear HV1 HGH
   generalize w1=V at hb0 hgV ⊢
   generalize w.heap.size=S at hb0 ⊢
   have HGV:=Lib.hid hgV
   have hbd:=hb0.grew (Grew.refl V).drw
   have d0:Atv ⟨S,0,none⟩ (.int .i64 6) V.drew:=(hbd).atv 0 rfl
   have d1:Atv ⟨S,1,none⟩ (.string s) V.drew:=(hbd).atv 1 rfl
   have d3:Atv ⟨S,3,none⟩ (.int .i64 o) V.drew:=(hbd).atv 3 rfl
   have d4:Atv ⟨S,4,none⟩ (.slice (some ⟨b1a,o1a,none⟩) 2 c) V.drew:=(hbd).atv 4 rfl
   have e0:Atv ⟨b1a,o1a+0 * 6,none⟩ (.int .i64 ka) V.drew:=Atv.kept (hca 0 _ rfl) (HGV.out.trans (Grew.refl V).drw)
   have e1:Atv ⟨b1a,o1a+0 * 6+1,none⟩ (.string sa) V.drew:=Atv.kept (hca 1 _ rfl) (HGV.out.trans (Grew.refl V).drw)
   have e2:Atv ⟨b1a,o1a+0 * 6+2,none⟩ (.int .i16 va) V.drew:=Atv.kept (hca 2 _ rfl) (HGV.out.trans (Grew.refl V).drw)
   have e3:Atv ⟨b1a,o1a+0 * 6+3,none⟩ (.int .i64 oa) V.drew:=Atv.kept (hca 3 _ rfl) (HGV.out.trans (Grew.refl V).drw)
   have e4:Atv ⟨b1a,o1a+0 * 6+4,none⟩ (.slice pa ra.length ca) V.drew:=Atv.kept (hca 4 _ rfl) (HGV.out.trans (Grew.refl V).drw)
   have e5:Atv ⟨b1a,o1a+0 * 6+5,none⟩ (.int .i64 qa) V.drew:=Atv.kept (hca 5 _ rfl) (HGV.out.trans (Grew.refl V).drw)
   have f0:Atv ⟨b1a,o1a+1 * 6,none⟩ (.int .i64 kb) V.drew:=Atv.kept (hcb 0 _ rfl) (HGV.out.trans (Grew.refl V).drw)
   have f1:Atv ⟨b1a,o1a+1 * 6+1,none⟩ (.string sb) V.drew:=Atv.kept (hcb 1 _ rfl) (HGV.out.trans (Grew.refl V).drw)
   have f2:Atv ⟨b1a,o1a+1 * 6+2,none⟩ (.int .i16 vb) V.drew:=Atv.kept (hcb 2 _ rfl) (HGV.out.trans (Grew.refl V).drw)
   have f3:Atv ⟨b1a,o1a+1 * 6+3,none⟩ (.int .i64 ob) V.drew:=Atv.kept (hcb 3 _ rfl) (HGV.out.trans (Grew.refl V).drw)
   have f4:Atv ⟨b1a,o1a+1 * 6+4,none⟩ (.slice pb rb.length cb) V.drew:=Atv.kept (hcb 4 _ rfl) (HGV.out.trans (Grew.refl V).drw)
   have f5:Atv ⟨b1a,o1a+1 * 6+5,none⟩ (.int .i64 qb) V.drew:=Atv.kept (hcb 5 _ rfl) (HGV.out.trans (Grew.refl V).drw)
   clear hb0 hgV hbd hca hcb
   refine wp_posts [some 49,some 50,some 51,some 52,some 53,some 54,some 55,some 56,some 57,some 58,some 59,some 60,some 61,some 62,some 63,some 64,some 65,some 66,some 67,some 68,some 2] zD1 [fun v _=>v=.pointer (some ⟨S,4,none⟩),fun v _=>v=.slice (some ⟨b1a,o1a,none⟩) (2) (c),fun v _=>v=.pointer (some ⟨b1a,o1a+0 * 6,none⟩),fun v _=>v=.agg #[.int .i64 (ka),.string sa,.int .i16 (va),.int .i64 (oa),.slice pa ra.length ca,.int .i64 (qa)],fun v _=>v=.int .i64 (4),fun v _=>v=.string ⟨(Ua).toArray⟩,fun v _=>v=.string ⟨((Ua)++([32])).toArray⟩,fun v _=>v=.pointer (some ⟨S,3,none⟩),fun v _=>v=.int .i64 (o),fun v _=>v=.string ⟨(G).toArray⟩,fun v _=>v=.string ⟨(((Ua)++([32]))++(G)).toArray⟩,fun v _=>v=.string ⟨((((Ua)++([32]))++(G))++([32])).toArray⟩,fun v _=>v=.pointer (some ⟨S,4,none⟩),fun v _=>v=.slice (some ⟨b1a,o1a,none⟩) (2) (c),fun v _=>v=.pointer (some ⟨b1a,o1a+1 * 6,none⟩),fun v _=>v=.agg #[.int .i64 (kb),.string sb,.int .i16 (vb),.int .i64 (ob),.slice pb rb.length cb,.int .i64 (qb)],fun v _=>v=.int .i64 (3),fun v _=>v=.int .i64 ((3)+(1)),fun v _=>v=.string ⟨(Ub).toArray⟩,fun v _=>v=.string ⟨(((((Ua)++([32]))++(G))++([32]))++(Ub)).toArray⟩,fun v _=>v=.string ⟨(((((Ua)++([32]))++(G))++([32]))++(Ub)).toArray⟩] (by kernel_rfl) (by kernel_rfl) rfl ?_ ⟨?_,?_,?_,?_,?_,?_,?_,?_,?_,?_,?_,?_,?_,?_,?_,?_,?_,?_,?_,?_,?_,trivial⟩ ?_
   ·exact⟨Zi,Zi,Zi,Zi,Zi,Zi,Zi,Zi,Zi,Zi,Zi,Zi,Zi,Zi,Zi,Zi,Zi,Zi,Zi,Zi,Zi,trivial⟩
   ·intro u w hR hd;exact rn_fld_35_4 (ev rfl) Zr
   ·intro u w hR hd;exact rn_ld_33 (ev (hd.1 rfl)) (d4.kept hR) Zr
   ·intro u w hR hd;exact rn_idx_33 (0) (ev (hd.1 rfl)) rfl (by omega) Zr
   ·intro u w hR hd;exact rn_ld_35 (ev (hd.1 rfl)) (e0.kept hR) (e1.kept hR) (e2.kept hR) (e3.kept hR) (e4.kept hR) (e5.kept hR) Zr
   ·intro u w hR hd;exact runs_mv (ev rfl) Zr
   ·intro u w hR hd;exact runs_c2 enters_op (ev (hd.1 rfl)) (ev (hd.2.1 rfl)) (callp (fun _ e=>e) (HUa.out _ (HGV.out.trans ((Grew.refl _).drw.trans hR))))
   ·intro u w hR hd;exact rn_cat_9 (ev (hd.1 rfl)) rfl (by first | omega | (simp <;> omega)) Zr
   ·intro u w hR hd;exact rn_fld_35_3 (ev rfl) Zr
   ·intro u w hR hd;exact rn_ld_3 (ev (hd.1 rfl)) (d3.kept hR) Zr
   ·intro u w hR hd;exact runs_c1 enters_sg (ev (hd.1 rfl)) (callp (fun _ e=>e) (HSG.out _))
   ·intro u w hR hd;exact rn_cat_9 (ev (hd.1 rfl)) (ev (hd.2.1 rfl)) (by first | omega | (simp <;> omega)) Zr
   ·intro u w hR hd;exact rn_cat_9 (ev (hd.1 rfl)) rfl (by first | omega | (simp <;> omega)) Zr
   ·intro u w hR hd;exact rn_fld_35_4 (ev rfl) Zr
   ·intro u w hR hd;exact rn_ld_33 (ev (hd.1 rfl)) (d4.kept hR) Zr
   ·intro u w hR hd;exact rn_idx_33 (1) (ev (hd.1 rfl)) rfl (by omega) Zr
   ·intro u w hR hd;exact rn_ld_35 (ev (hd.1 rfl)) (f0.kept hR) (f1.kept hR) (f2.kept hR) (f3.kept hR) (f4.kept hR) (f5.kept hR) Zr
   ·intro u w hR hd;exact runs_mv (ev rfl) Zr
   ·intro u w hR hd;exact rn_add_3 (ev (hd.1 rfl)) rfl (by omega) Zr
   ·intro u w hR hd;exact runs_c2 enters_op (ev (hd.1 rfl)) (ev (hd.2.1 rfl)) (callp (fun _ e=>e) (HUb.out _ (HGV.out.trans ((Grew.refl _).drw.trans hR))))
   ·intro u w hR hd;exact rn_cat_9 (ev (hd.1 rfl)) (ev (hd.2.1 rfl)) (by first | omega | (simp <;> omega)) Zr
   ·intro u w hR hd;exact runs_mva (ev (hd.1 rfl)) Zr
   ·intro u w4 hR h
    have he:u 2=.string ⟨(((((Ua)++([32]))++(G))++([32]))++(Ub)).toArray⟩:=h 20 (by decide)
    have HG4:=Lib.hid (HGV.out.trans ((Grew.refl V).drw.trans hR))
    simp only [mixA,mixL,zz9,zz0,he]
    clear h he hR
    go_wp2
    go_ret
    exact⟨rfl,HG4.out⟩
  ·rw [if_neg h3] at hLF2
   have b3:(LV==3)=false:=by simpa using h3
   subst LF
   go_enter Tryz.func51,Tryz.ntmps51
   go_upto_region 15 with (go_at_call 106;(with_reducible refine(HLV.out _).mono ?_);rintro e w1 ⟨rfl,g1⟩;have HV1:=Lib.hid g1;clear g1)
   have hb0:=HGH.out _ HV1.out
   have hgV:Grew w w1:=((Grew.refl w).alloc _).trans HV1.out
   clear HV1 HGH
   generalize w1=V at hb0 hgV ⊢
   generalize w.heap.size=S at hb0 ⊢
   have HGV:=Lib.hid hgV
   have hbd:=hb0.grew (Grew.refl V).drw
   have d0:Atv ⟨S,0,none⟩ (.int .i64 6) V.drew:=(hbd).atv 0 rfl
   have d1:Atv ⟨S,1,none⟩ (.string s) V.drew:=(hbd).atv 1 rfl
   have d3:Atv ⟨S,3,none⟩ (.int .i64 o) V.drew:=(hbd).atv 3 rfl
   have d4:Atv ⟨S,4,none⟩ (.slice (some ⟨b1a,o1a,none⟩) 2 c) V.drew:=(hbd).atv 4 rfl
   have e0:Atv ⟨b1a,o1a+0 * 6,none⟩ (.int .i64 ka) V.drew:=Atv.kept (hca 0 _ rfl) (HGV.out.trans (Grew.refl V).drw)
   have e1:Atv ⟨b1a,o1a+0 * 6+1,none⟩ (.string sa) V.drew:=Atv.kept (hca 1 _ rfl) (HGV.out.trans (Grew.refl V).drw)
   have e2:Atv ⟨b1a,o1a+0 * 6+2,none⟩ (.int .i16 va) V.drew:=Atv.kept (hca 2 _ rfl) (HGV.out.trans (Grew.refl V).drw)
   have e3:Atv ⟨b1a,o1a+0 * 6+3,none⟩ (.int .i64 oa) V.drew:=Atv.kept (hca 3 _ rfl) (HGV.out.trans (Grew.refl V).drw)
   have e4:Atv ⟨b1a,o1a+0 * 6+4,none⟩ (.slice pa ra.length ca) V.drew:=Atv.kept (hca 4 _ rfl) (HGV.out.trans (Grew.refl V).drw)
   have e5:Atv ⟨b1a,o1a+0 * 6+5,none⟩ (.int .i64 qa) V.drew:=Atv.kept (hca 5 _ rfl) (HGV.out.trans (Grew.refl V).drw)
   have f0:Atv ⟨b1a,o1a+1 * 6,none⟩ (.int .i64 kb) V.drew:=Atv.kept (hcb 0 _ rfl) (HGV.out.trans (Grew.refl V).drw)
   have f1:Atv ⟨b1a,o1a+1 * 6+1,none⟩ (.string sb) V.drew:=Atv.kept (hcb 1 _ rfl) (HGV.out.trans (Grew.refl V).drw)
   have f2:Atv ⟨b1a,o1a+1 * 6+2,none⟩ (.int .i16 vb) V.drew:=Atv.kept (hcb 2 _ rfl) (HGV.out.trans (Grew.refl V).drw)
   have f3:Atv ⟨b1a,o1a+1 * 6+3,none⟩ (.int .i64 ob) V.drew:=Atv.kept (hcb 3 _ rfl) (HGV.out.trans (Grew.refl V).drw)
   have f4:Atv ⟨b1a,o1a+1 * 6+4,none⟩ (.slice pb rb.length cb) V.drew:=Atv.kept (hcb 4 _ rfl) (HGV.out.trans (Grew.refl V).drw)
   have f5:Atv ⟨b1a,o1a+1 * 6+5,none⟩ (.int .i64 qb) V.drew:=Atv.kept (hcb 5 _ rfl) (HGV.out.trans (Grew.refl V).drw)
   clear hb0 hgV hbd hca hcb
   refine wp_posts [some 49,some 50,some 51,some 52,some 53,some 54,some 55,some 56,some 57,some 58,some 59,some 60,some 61,some 62,some 63,some 64,some 65,some 66,some 67,some 68,some 2] zD1 [fun v _=>v=.pointer (some ⟨S,4,none⟩),fun v _=>v=.slice (some ⟨b1a,o1a,none⟩) (2) (c),fun v _=>v=.pointer (some ⟨b1a,o1a+0 * 6,none⟩),fun v _=>v=.agg #[.int .i64 (ka),.string sa,.int .i16 (va),.int .i64 (oa),.slice pa ra.length ca,.int .i64 (qa)],fun v _=>v=.int .i64 (LV),fun v _=>v=.string ⟨(Ua).toArray⟩,fun v _=>v=.string ⟨((Ua)++([32])).toArray⟩,fun v _=>v=.pointer (some ⟨S,3,none⟩),fun v _=>v=.int .i64 (o),fun v _=>v=.string ⟨(G).toArray⟩,fun v _=>v=.string ⟨(((Ua)++([32]))++(G)).toArray⟩,fun v _=>v=.string ⟨((((Ua)++([32]))++(G))++([32])).toArray⟩,fun v _=>v=.pointer (some ⟨S,4,none⟩),fun v _=>v=.slice (some ⟨b1a,o1a,none⟩) (2) (c),fun v _=>v=.pointer (some ⟨b1a,o1a+1 * 6,none⟩),fun v _=>v=.agg #[.int .i64 (kb),.string sb,.int .i16 (vb),.int .i64 (ob),.slice pb rb.length cb,.int .i64 (qb)],fun v _=>v=.int .i64 (LV),fun v _=>v=.int .i64 ((LV)+(1)),fun v _=>v=.string ⟨(Ub).toArray⟩,fun v _=>v=.string ⟨(((((Ua)++([32]))++(G))++([32]))++(Ub)).toArray⟩,fun v _=>v=.string ⟨(((((Ua)++([32]))++(G))++([32]))++(Ub)).toArray⟩] (by kernel_rfl) (by kernel_rfl) rfl ?_ ⟨?_,?_,?_,?_,?_,?_,?_,?_,?_,?_,?_,?_,?_,?_,?_,?_,?_,?_,?_,?_,?_,trivial⟩ ?_
   ·exact⟨Zi,Zi,Zi,Zi,Zi,Zi,Zi,Zi,Zi,Zi,Zi,Zi,Zi,Zi,Zi,Zi,Zi,Zi,Zi,Zi,Zi,trivial⟩
   ·intro u w hR hd;exact rn_fld_35_4 (ev rfl) Zr
   ·intro u w hR hd;exact rn_ld_33 (ev (hd.1 rfl)) (d4.kept hR) Zr
   ·intro u w hR hd;exact rn_idx_33 (0) (ev (hd.1 rfl)) rfl (by omega) Zr
   ·intro u w hR hd;exact rn_ld_35 (ev (hd.1 rfl)) (e0.kept hR) (e1.kept hR) (e2.kept hR) (e3.kept hR) (e4.kept hR) (e5.kept hR) Zr
   ·intro u w hR hd;exact runs_mv (ev rfl) Zr
   ·intro u w hR hd;exact runs_c2 enters_op (ev (hd.1 rfl)) (ev (hd.2.1 rfl)) (callp (fun _ e=>e) (HUa.out _ (HGV.out.trans ((Grew.refl _).drw.trans hR))))
   ·intro u w hR hd;exact rn_cat_9 (ev (hd.1 rfl)) rfl (by first | omega | (simp <;> omega)) Zr
   ·intro u w hR hd;exact rn_fld_35_3 (ev rfl) Zr
   ·intro u w hR hd;exact rn_ld_3 (ev (hd.1 rfl)) (d3.kept hR) Zr
   ·intro u w hR hd;exact runs_c1 enters_sg (ev (hd.1 rfl)) (callp (fun _ e=>e) (HSG.out _))
   ·intro u w hR hd;exact rn_cat_9 (ev (hd.1 rfl)) (ev (hd.2.1 rfl)) (by first | omega | (simp <;> omega)) Zr
   ·intro u w hR hd;exact rn_cat_9 (ev (hd.1 rfl)) rfl (by first | omega | (simp <;> omega)) Zr
   ·intro u w hR hd;exact rn_fld_35_4 (ev rfl) Zr
   ·intro u w hR hd;exact rn_ld_33 (ev (hd.1 rfl)) (d4.kept hR) Zr
   ·intro u w hR hd;exact rn_idx_33 (1) (ev (hd.1 rfl)) rfl (by omega) Zr
   ·intro u w hR hd;exact rn_ld_35 (ev (hd.1 rfl)) (f0.kept hR) (f1.kept hR) (f2.kept hR) (f3.kept hR) (f4.kept hR) (f5.kept hR) Zr
   ·intro u w hR hd;exact runs_mv (ev rfl) Zr
   ·intro u w hR hd;exact rn_add_3 (ev (hd.1 rfl)) rfl (by omega) Zr
   ·intro u w hR hd;exact runs_c2 enters_op (ev (hd.1 rfl)) (ev (hd.2.1 rfl)) (callp (fun _ e=>e) (HUb.out _ (HGV.out.trans ((Grew.refl _).drw.trans hR))))
   ·intro u w hR hd;exact rn_cat_9 (ev (hd.1 rfl)) (ev (hd.2.1 rfl)) (by first | omega | (simp <;> omega)) Zr
   ·intro u w hR hd;exact runs_mva (ev (hd.1 rfl)) Zr
   ·intro u w4 hR h
    have he:u 2=.string ⟨(((((Ua)++([32]))++(G))++([32]))++(Ub)).toArray⟩:=h 20 (by decide)
    have HG4:=Lib.hid (HGV.out.trans ((Grew.refl V).drw.trans hR))
    simp only [mixA,mixL,zz9,zz0,he]
    clear h he hR
    go_wp2
    go_ret
    exact⟨rfl,HG4.out⟩
end Go.Proofs.YtcknpcbkofgdoaaGreatDoor
namespace Go.Proofs.YtcknpcbkofgdoaaGreatDoor
open Go Go.RowKit Go.IntWalk
set_option linter.unusedSimpArgs false
set_option linter.unusedVariables false
set_option maxRecDepth 8000
section
variable {dst:Option Tmp}{ty:TypeId}{pos:String}{after:Array Edge}{g:Option (Nat × Bool)}{a:Act}{w:World}{T:Value→World→Prop}
end
theorem enters_nm:Enters Tryz.prog 46:=fun args w=>by go_simp
abbrev sv (k:Int) (s:ByteArray) (n:Int) (ap:Option Addr) (an ac:Nat) (bp:Option Addr) (bn bc:Nat) (ep:Option Addr) (en ec:Nat) (q:Int):Value:=.agg #[.int .i64 k,.string s,.int .i64 n,.slice ap an ac,.slice bp bn bc,.slice ep en ec,.int .i64 q]
set_option maxHeartbeats 8000000 in
theorem simple_1 (s:ByteArray) (n q:Int) (a:Xp) (B:Nat→Prop) (w:World) (p:Option Addr) (c:Nat) (bp ep:Option Addr) (bn bc en ec:Nat) (hs:s.data.toList.length≤32) (hx:XL B w p c [a]) (hoka:okX a=true) (hn:nXs [a]≤1048576) :
 Calls Tryz.prog 164 #[sv 1 s n p 1 c bp bn bc ep en ec q] w fun e w'=>e=.returned (.string ⟨(simT 1 s.data.toList (agT [a] 0) (agT [a] 1)).toArray⟩)∧Grew w w':=by
 have HX:=Lib.hid hx
 have hs2:s.size≤32:=hs
 have hs3:s.data.size≤32:=hs
 have hcap:=hx.cap.1
 have hmax:=hx.cap.2.1
 rw [nXs] at hn
 obtain ⟨b1a,o1a,pa,ca,hpa,hba,hxa,hca⟩:=HX.out.get 0 (by simp)
 obtain ⟨ka,sa,va,oa,ra,qa⟩:=a
 replace hxa:XL B w pa ca ra:=hxa
 replace hba:B b1a∧sa.size≤1048576∧va≤32767:=hba
 replace hca:∀i_ u_,(xdc ⟨ka,sa,va,oa,pa,ra.length,ca,qa⟩)[i_]?=some u_→w.cell? ⟨b1a,o1a+0 * 6+i_,none⟩=some u_:=hca
 obtain ⟨Ta,hTa⟩:∃t,txX ⟨ka,sa,va,oa,ra,qa⟩=t:=⟨_,rfl⟩
 have lTa:=txX_len ⟨ka,sa,va,oa,ra,qa⟩ hoka (XL.fitX (x:=⟨ka,sa,va,oa,ra,qa⟩) hba.2.2 hxa)
 rw [hTa] at lTa
 have HTa:=Lib.hid (fun W (hW:Grew w W)=>(show Calls Tryz.prog 51 #[xv ka sa va oa pa ra.length ca qa] W fun e w'=>e=.returned (.string ⟨(Ta).toArray⟩)∧Grew W w' from hTa ▸ text_any ⟨ka,sa,va,oa,ra,qa⟩ B W pa ca hba.2 (hxa.kept hW) hoka (by omega)))
 rw [show simT 1 s.data.toList (agT [⟨ka,sa,va,oa,ra,qa⟩] 0) (agT [⟨ka,sa,va,oa,ra,qa⟩] 1)=(((([108,101,116,32])++(s.data.toList))++([32,61,32]))++(Ta))++([59]) from by rw [← hTa];rfl]
 subst hpa
 go_enter Tryz.func164,Tryz.ntmps164
 go_upto_region 3 with fail
 have hb0:Blk w.heap.size [.int .i64 1,.string s,.int .i64 n,.slice (some ⟨b1a,o1a,none⟩) 1 c,.slice bp bn bc,.slice ep en ec,.int .i64 q] 49 (w.alloc (Obj.cells #[.int .i64 1,.string s,.int .i64 n,.slice (some ⟨b1a,o1a,none⟩) 1 c,.slice bp bn bc,.slice ep en ec,.int .i64 q] 49)):=Blk.new w _ _
 have hgV:Grew w (w.alloc (Obj.cells #[.int .i64 1,.string s,.int .i64 n,.slice (some ⟨b1a,o1a,none⟩) 1 c,.slice bp bn bc,.slice ep en ec,.int .i64 q] 49)):=(Grew.refl w).alloc _
 generalize (w.alloc (Obj.cells #[.int .i64 1,.string s,.int .i64 n,.slice (some ⟨b1a,o1a,none⟩) 1 c,.slice bp bn bc,.slice ep en ec,.int .i64 q] 49))=V at hb0 hgV ⊢
 generalize w.heap.size=S at hb0 ⊢
 have HGV:=Lib.hid hgV
 have hbd:=hb0.grew (Grew.refl V).drw
 have d1:Atv ⟨S,1,none⟩ (.string s) V.drew:=hbd.atv 1 rfl
 have d2:Atv ⟨S,2,none⟩ (.int .i64 n) V.drew:=hbd.atv 2 rfl
 have d3:Atv ⟨S,3,none⟩ (.slice (some ⟨b1a,o1a,none⟩) 1 c) V.drew:=hbd.atv 3 rfl
 have e0:Atv ⟨b1a,o1a+0 * 6,none⟩ (.int .i64 ka) V.drew:=Atv.kept (hca 0 _ rfl) (HGV.out.trans (Grew.refl V).drw)
 have e1:Atv ⟨b1a,o1a+0 * 6+1,none⟩ (.string sa) V.drew:=Atv.kept (hca 1 _ rfl) (HGV.out.trans (Grew.refl V).drw)
 have e2:Atv ⟨b1a,o1a+0 * 6+2,none⟩ (.int .i16 va) V.drew:=Atv.kept (hca 2 _ rfl) (HGV.out.trans (Grew.refl V).drw)
 have e3:Atv ⟨b1a,o1a+0 * 6+3,none⟩ (.int .i64 oa) V.drew:=Atv.kept (hca 3 _ rfl) (HGV.out.trans (Grew.refl V).drw)
 have e4:Atv ⟨b1a,o1a+0 * 6+4,none⟩ (.slice pa ra.length ca) V.drew:=Atv.kept (hca 4 _ rfl) (HGV.out.trans (Grew.refl V).drw)
 have e5:Atv ⟨b1a,o1a+0 * 6+5,none⟩ (.int .i64 qa) V.drew:=Atv.kept (hca 5 _ rfl) (HGV.out.trans (Grew.refl V).drw)
 clear hb0 hgV hbd hca
 refine wp_posts [some 7,some 8,some 9,some 10,some 11,some 12,some 13,some 14,some 15,some 16,some 17,some 2] [Zf,Zf,Zt,Zf,Zf,Zf,Zf,Zt,Zt,Zt,Zt,Zt,Zt,Zt,Zt,Zt,Zt,Zt,Zf,Zf,Zf,Zf,Zf,Zf,Zf,Zf,Zf,Zf,Zf,Zf,Zf,Zf,Zf,Zf,Zf,Zf,Zf,Zf,Zf,Zf,Zf,Zf,Zf,Zf,Zf,Zf,Zf,Zf,Zf,Zf,Zf,Zf,Zf,Zf,Zf,Zf,Zf,Zf,Zf,Zf,Zf,Zf,Zf,Zf,Zf,Zf,Zf,Zf,Zf,Zf,Zf,Zf,Zf,Zf,Zf,Zf,Zf,Zf,Zf,Zf,Zf,Zf,Zf,Zf,Zf,Zf] [fun v _=>v=.pointer (some ⟨S,1,none⟩),fun v _=>v=.string ⟨(s.data.toList).toArray⟩,fun v _=>v=.string ⟨(([108,101,116,32])++(s.data.toList)).toArray⟩,fun v _=>v=.string ⟨((([108,101,116,32])++(s.data.toList))++([32,61,32])).toArray⟩,fun v _=>v=.pointer (some ⟨S,3,none⟩),fun v _=>v=.slice (some ⟨b1a,o1a,none⟩) (1) (c),fun v _=>v=.pointer (some ⟨b1a,o1a+0 * 6,none⟩),fun v _=>v=.agg #[.int .i64 (ka),.string sa,.int .i16 (va),.int .i64 (oa),.slice pa ra.length ca,.int .i64 (qa)],fun v _=>v=.string ⟨(Ta).toArray⟩,fun v _=>v=.string ⟨(((([108,101,116,32])++(s.data.toList))++([32,61,32]))++(Ta)).toArray⟩,fun v _=>v=.string ⟨((((([108,101,116,32])++(s.data.toList))++([32,61,32]))++(Ta))++([59])).toArray⟩,fun v _=>v=.string ⟨((((([108,101,116,32])++(s.data.toList))++([32,61,32]))++(Ta))++([59])).toArray⟩] (by kernel_rfl) (by kernel_rfl) rfl ?_ ⟨?_,?_,?_,?_,?_,?_,?_,?_,?_,?_,?_,?_,trivial⟩ ?_
 ·exact⟨Zi,Zi,Zi,Zi,Zi,Zi,Zi,Zi,Zi,Zi,Zi,Zi,trivial⟩
 ·intro u w hR hd;exact rn_fld_49_1 (ev rfl) Zr
 ·intro u w hR hd;exact rn_ld_9 (ev (hd.1 rfl)) (d1.kept hR) Zr
 ·intro u w hR hd;exact rn_cat_9 rfl (ev (hd.1 rfl)) (by first | omega | (simp <;> omega)) Zr
 ·intro u w hR hd;exact rn_cat_9 (ev (hd.1 rfl)) rfl (by first | omega | (simp <;> omega)) Zr
 ·intro u w hR hd;exact rn_fld_49_3 (ev rfl) Zr
 ·intro u w hR hd;exact rn_ld_33 (ev (hd.1 rfl)) (d3.kept hR) Zr
 ·intro u w hR hd;exact rn_idx_33 (0) (ev (hd.1 rfl)) rfl (by omega) Zr
 ·intro u w hR hd;exact rn_ld_35 (ev (hd.1 rfl)) (e0.kept hR) (e1.kept hR) (e2.kept hR) (e3.kept hR) (e4.kept hR) (e5.kept hR) Zr
 ·intro u w hR hd;exact runs_c1 enters_tx (ev (hd.1 rfl)) (callp (fun _ e=>e) (HTa.out _ (HGV.out.trans ((Grew.refl _).drw.trans hR))))
 ·intro u w hR hd;exact rn_cat_9 (ev (hd.1 rfl)) (ev (hd.2.1 rfl)) (by first | omega | (simp <;> omega)) Zr
 ·intro u w hR hd;exact rn_cat_9 (ev (hd.1 rfl)) rfl (by first | omega | (simp <;> omega)) Zr
 ·intro u w hR hd;exact runs_mva (ev (hd.1 rfl)) Zr
 ·intro u w4 hR h
  have he:u 2=.string ⟨((((([108,101,116,32])++(s.data.toList))++([32,61,32]))++(Ta))++([59])).toArray⟩:=h 11 (by decide)
  have HG4:=Lib.hid (HGV.out.trans ((Grew.refl V).drw.trans hR))
  simp only [mixA,mixL,zz9,zz0,he]
  clear h he hR
  go_wp2
  go_ret
  exact⟨rfl,HG4.out⟩
set_option maxHeartbeats 8000000 in
theorem simple_2 (s:ByteArray) (n q:Int) (a:Xp) (B:Nat→Prop) (w:World) (p:Option Addr) (c:Nat) (bp ep:Option Addr) (bn bc en ec:Nat) (hs:s.data.toList.length≤32) (hx:XL B w p c [a]) (hoka:okX a=true) (hn:nXs [a]≤1048576) :
 Calls Tryz.prog 164 #[sv 2 s n p 1 c bp bn bc ep en ec q] w fun e w'=>e=.returned (.string ⟨(simT 2 s.data.toList (agT [a] 0) (agT [a] 1)).toArray⟩)∧Grew w w':=by
 have HX:=Lib.hid hx
 have hs2:s.size≤32:=hs
 have hs3:s.data.size≤32:=hs
 have hcap:=hx.cap.1
 have hmax:=hx.cap.2.1
 rw [nXs] at hn
 obtain ⟨b1a,o1a,pa,ca,hpa,hba,hxa,hca⟩:=HX.out.get 0 (by simp)
 obtain ⟨ka,sa,va,oa,ra,qa⟩:=a
 replace hxa:XL B w pa ca ra:=hxa
 replace hba:B b1a∧sa.size≤1048576∧va≤32767:=hba
 replace hca:∀i_ u_,(xdc ⟨ka,sa,va,oa,pa,ra.length,ca,qa⟩)[i_]?=some u_→w.cell? ⟨b1a,o1a+0 * 6+i_,none⟩=some u_:=hca
 obtain ⟨Ta,hTa⟩:∃t,txX ⟨ka,sa,va,oa,ra,qa⟩=t:=⟨_,rfl⟩
 have lTa:=txX_len ⟨ka,sa,va,oa,ra,qa⟩ hoka (XL.fitX (x:=⟨ka,sa,va,oa,ra,qa⟩) hba.2.2 hxa)
 rw [hTa] at lTa
 have HTa:=Lib.hid (fun W (hW:Grew w W)=>(show Calls Tryz.prog 51 #[xv ka sa va oa pa ra.length ca qa] W fun e w'=>e=.returned (.string ⟨(Ta).toArray⟩)∧Grew W w' from hTa ▸ text_any ⟨ka,sa,va,oa,ra,qa⟩ B W pa ca hba.2 (hxa.kept hW) hoka (by omega)))
 rw [show simT 2 s.data.toList (agT [⟨ka,sa,va,oa,ra,qa⟩] 0) (agT [⟨ka,sa,va,oa,ra,qa⟩] 1)=(((s.data.toList)++([32,61,32]))++(Ta))++([59]) from by rw [← hTa];rfl]
 subst hpa
 go_enter Tryz.func164,Tryz.ntmps164
 go_upto_region 5 with fail
 have hb0:Blk w.heap.size [.int .i64 2,.string s,.int .i64 n,.slice (some ⟨b1a,o1a,none⟩) 1 c,.slice bp bn bc,.slice ep en ec,.int .i64 q] 49 (w.alloc (Obj.cells #[.int .i64 2,.string s,.int .i64 n,.slice (some ⟨b1a,o1a,none⟩) 1 c,.slice bp bn bc,.slice ep en ec,.int .i64 q] 49)):=Blk.new w _ _
 have hgV:Grew w (w.alloc (Obj.cells #[.int .i64 2,.string s,.int .i64 n,.slice (some ⟨b1a,o1a,none⟩) 1 c,.slice bp bn bc,.slice ep en ec,.int .i64 q] 49)):=(Grew.refl w).alloc _
 generalize (w.alloc (Obj.cells #[.int .i64 2,.string s,.int .i64 n,.slice (some ⟨b1a,o1a,none⟩) 1 c,.slice bp bn bc,.slice ep en ec,.int .i64 q] 49))=V at hb0 hgV ⊢
 generalize w.heap.size=S at hb0 ⊢
 have HGV:=Lib.hid hgV
 have hbd:=hb0.grew (Grew.refl V).drw
 have d1:Atv ⟨S,1,none⟩ (.string s) V.drew:=hbd.atv 1 rfl
 have d2:Atv ⟨S,2,none⟩ (.int .i64 n) V.drew:=hbd.atv 2 rfl
 have d3:Atv ⟨S,3,none⟩ (.slice (some ⟨b1a,o1a,none⟩) 1 c) V.drew:=hbd.atv 3 rfl
 have e0:Atv ⟨b1a,o1a+0 * 6,none⟩ (.int .i64 ka) V.drew:=Atv.kept (hca 0 _ rfl) (HGV.out.trans (Grew.refl V).drw)
 have e1:Atv ⟨b1a,o1a+0 * 6+1,none⟩ (.string sa) V.drew:=Atv.kept (hca 1 _ rfl) (HGV.out.trans (Grew.refl V).drw)
 have e2:Atv ⟨b1a,o1a+0 * 6+2,none⟩ (.int .i16 va) V.drew:=Atv.kept (hca 2 _ rfl) (HGV.out.trans (Grew.refl V).drw)
 have e3:Atv ⟨b1a,o1a+0 * 6+3,none⟩ (.int .i64 oa) V.drew:=Atv.kept (hca 3 _ rfl) (HGV.out.trans (Grew.refl V).drw)
 have e4:Atv ⟨b1a,o1a+0 * 6+4,none⟩ (.slice pa ra.length ca) V.drew:=Atv.kept (hca 4 _ rfl) (HGV.out.trans (Grew.refl V).drw)
 have e5:Atv ⟨b1a,o1a+0 * 6+5,none⟩ (.int .i64 qa) V.drew:=Atv.kept (hca 5 _ rfl) (HGV.out.trans (Grew.refl V).drw)
 clear hb0 hgV hbd hca
 refine wp_posts [some 20,some 21,some 22,some 23,some 24,some 25,some 26,some 27,some 28,some 29,some 2] [Zf,Zf,Zt,Zf,Zf,Zf,Zf,Zf,Zf,Zf,Zf,Zf,Zf,Zf,Zf,Zf,Zf,Zf,Zf,Zf,Zt,Zt,Zt,Zt,Zt,Zt,Zt,Zt,Zt,Zt,Zf,Zf,Zf,Zf,Zf,Zf,Zf,Zf,Zf,Zf,Zf,Zf,Zf,Zf,Zf,Zf,Zf,Zf,Zf,Zf,Zf,Zf,Zf,Zf,Zf,Zf,Zf,Zf,Zf,Zf,Zf,Zf,Zf,Zf,Zf,Zf,Zf,Zf,Zf,Zf,Zf,Zf,Zf,Zf,Zf,Zf,Zf,Zf,Zf,Zf,Zf,Zf,Zf,Zf,Zf,Zf] [fun v _=>v=.pointer (some ⟨S,1,none⟩),fun v _=>v=.string ⟨(s.data.toList).toArray⟩,fun v _=>v=.string ⟨((s.data.toList)++([32,61,32])).toArray⟩,fun v _=>v=.pointer (some ⟨S,3,none⟩),fun v _=>v=.slice (some ⟨b1a,o1a,none⟩) (1) (c),fun v _=>v=.pointer (some ⟨b1a,o1a+0 * 6,none⟩),fun v _=>v=.agg #[.int .i64 (ka),.string sa,.int .i16 (va),.int .i64 (oa),.slice pa ra.length ca,.int .i64 (qa)],fun v _=>v=.string ⟨(Ta).toArray⟩,fun v _=>v=.string ⟨(((s.data.toList)++([32,61,32]))++(Ta)).toArray⟩,fun v _=>v=.string ⟨((((s.data.toList)++([32,61,32]))++(Ta))++([59])).toArray⟩,fun v _=>v=.string ⟨((((s.data.toList)++([32,61,32]))++(Ta))++([59])).toArray⟩] (by kernel_rfl) (by kernel_rfl) rfl ?_ ⟨?_,?_,?_,?_,?_,?_,?_,?_,?_,?_,?_,trivial⟩ ?_
 ·exact⟨Zi,Zi,Zi,Zi,Zi,Zi,Zi,Zi,Zi,Zi,Zi,trivial⟩
 ·intro u w hR hd;exact rn_fld_49_1 (ev rfl) Zr
 ·intro u w hR hd;exact rn_ld_9 (ev (hd.1 rfl)) (d1.kept hR) Zr
 ·intro u w hR hd;exact rn_cat_9 (ev (hd.1 rfl)) rfl (by first | omega | (simp <;> omega)) Zr
 ·intro u w hR hd;exact rn_fld_49_3 (ev rfl) Zr
 ·intro u w hR hd;exact rn_ld_33 (ev (hd.1 rfl)) (d3.kept hR) Zr
 ·intro u w hR hd;exact rn_idx_33 (0) (ev (hd.1 rfl)) rfl (by omega) Zr
 ·intro u w hR hd;exact rn_ld_35 (ev (hd.1 rfl)) (e0.kept hR) (e1.kept hR) (e2.kept hR) (e3.kept hR) (e4.kept hR) (e5.kept hR) Zr
 ·intro u w hR hd;exact runs_c1 enters_tx (ev (hd.1 rfl)) (callp (fun _ e=>e) (HTa.out _ (HGV.out.trans ((Grew.refl _).drw.trans hR))))
 ·intro u w hR hd;exact rn_cat_9 (ev (hd.1 rfl)) (ev (hd.2.1 rfl)) (by first | omega | (simp <;> omega)) Zr
 ·intro u w hR hd;exact rn_cat_9 (ev (hd.1 rfl)) rfl (by first | omega | (simp <;> omega)) Zr
 ·intro u w hR hd;exact runs_mva (ev (hd.1 rfl)) Zr
 ·intro u w4 hR h
  have he:u 2=.string ⟨((((s.data.toList)++([32,61,32]))++(Ta))++([59])).toArray⟩:=h 10 (by decide)
  have HG4:=Lib.hid (HGV.out.trans ((Grew.refl V).drw.trans hR))
  simp only [mixA,mixL,zz9,zz0,he]
  clear h he hR
  go_wp2
  go_ret
  exact⟨rfl,HG4.out⟩
set_option maxHeartbeats 8000000 in
theorem simple_3 (s:ByteArray) (n q:Int) (a b:Xp) (B:Nat→Prop) (w:World) (p:Option Addr) (c:Nat) (bp ep:Option Addr) (bn bc en ec:Nat) (hs:s.data.toList.length≤32) (hx:XL B w p c [a,b]) (hoka:okX a=true) (hokb:okX b=true) (hn:nXs [a,b]≤1048576) :
 Calls Tryz.prog 164 #[sv 3 s n p 2 c bp bn bc ep en ec q] w fun e w'=>e=.returned (.string ⟨(simT 3 s.data.toList (agT [a,b] 0) (agT [a,b] 1)).toArray⟩)∧Grew w w':=by
 have HX:=Lib.hid hx
 have hs2:s.size≤32:=hs
 have hs3:s.data.size≤32:=hs
 have hcap:=hx.cap.1
 have hmax:=hx.cap.2.1
 rw [nXs,nXs] at hn
 obtain ⟨b1a,o1a,pa,ca,hpa,hba,hxa,hca⟩:=HX.out.get 0 (by simp)
 obtain ⟨ka,sa,va,oa,ra,qa⟩:=a
 replace hxa:XL B w pa ca ra:=hxa
 replace hba:B b1a∧sa.size≤1048576∧va≤32767:=hba
 replace hca:∀i_ u_,(xdc ⟨ka,sa,va,oa,pa,ra.length,ca,qa⟩)[i_]?=some u_→w.cell? ⟨b1a,o1a+0 * 6+i_,none⟩=some u_:=hca
 obtain ⟨b1b,o1b,pb,cb,hpb,hbb,hxb,hcb⟩:=HX.out.get 1 (by simp)
 obtain ⟨kb,sb,vb,ob,rb,qb⟩:=b
 replace hxb:XL B w pb cb rb:=hxb
 replace hbb:B b1b∧sb.size≤1048576∧vb≤32767:=hbb
 replace hcb:∀i_ u_,(xdc ⟨kb,sb,vb,ob,pb,rb.length,cb,qb⟩)[i_]?=some u_→w.cell? ⟨b1b,o1b+1 * 6+i_,none⟩=some u_:=hcb
 have hpb2:=hpa.symm.trans hpb
 simp only [Option.some.injEq,Addr.mk.injEq,and_true] at hpb2
 obtain ⟨rfl,rfl⟩:=hpb2
 obtain ⟨Ta,hTa⟩:∃t,txX ⟨ka,sa,va,oa,ra,qa⟩=t:=⟨_,rfl⟩
 have lTa:=txX_len ⟨ka,sa,va,oa,ra,qa⟩ hoka (XL.fitX (x:=⟨ka,sa,va,oa,ra,qa⟩) hba.2.2 hxa)
 rw [hTa] at lTa
 have HTa:=Lib.hid (fun W (hW:Grew w W)=>(show Calls Tryz.prog 51 #[xv ka sa va oa pa ra.length ca qa] W fun e w'=>e=.returned (.string ⟨(Ta).toArray⟩)∧Grew W w' from hTa ▸ text_any ⟨ka,sa,va,oa,ra,qa⟩ B W pa ca hba.2 (hxa.kept hW) hoka (by omega)))
 obtain ⟨Tb,hTb⟩:∃t,txX ⟨kb,sb,vb,ob,rb,qb⟩=t:=⟨_,rfl⟩
 have lTb:=txX_len ⟨kb,sb,vb,ob,rb,qb⟩ hokb (XL.fitX (x:=⟨kb,sb,vb,ob,rb,qb⟩) hbb.2.2 hxb)
 rw [hTb] at lTb
 have HTb:=Lib.hid (fun W (hW:Grew w W)=>(show Calls Tryz.prog 51 #[xv kb sb vb ob pb rb.length cb qb] W fun e w'=>e=.returned (.string ⟨(Tb).toArray⟩)∧Grew W w' from hTb ▸ text_any ⟨kb,sb,vb,ob,rb,qb⟩ B W pb cb hbb.2 (hxb.kept hW) hokb (by omega)))
 rw [show simT 3 s.data.toList (agT [⟨ka,sa,va,oa,ra,qa⟩,⟨kb,sb,vb,ob,rb,qb⟩] 0) (agT [⟨ka,sa,va,oa,ra,qa⟩,⟨kb,sb,vb,ob,rb,qb⟩] 1)=(((((s.data.toList)++([91]))++(Ta))++([93,32,61,32]))++(Tb))++([59]) from by rw [← hTa,← hTb];rfl]
 subst hpa
 go_enter Tryz.func164,Tryz.ntmps164
 go_upto_region 7 with fail
 have hb0:Blk w.heap.size [.int .i64 3,.string s,.int .i64 n,.slice (some ⟨b1a,o1a,none⟩) 2 c,.slice bp bn bc,.slice ep en ec,.int .i64 q] 49 (w.alloc (Obj.cells #[.int .i64 3,.string s,.int .i64 n,.slice (some ⟨b1a,o1a,none⟩) 2 c,.slice bp bn bc,.slice ep en ec,.int .i64 q] 49)):=Blk.new w _ _
 have hgV:Grew w (w.alloc (Obj.cells #[.int .i64 3,.string s,.int .i64 n,.slice (some ⟨b1a,o1a,none⟩) 2 c,.slice bp bn bc,.slice ep en ec,.int .i64 q] 49)):=(Grew.refl w).alloc _
 generalize (w.alloc (Obj.cells #[.int .i64 3,.string s,.int .i64 n,.slice (some ⟨b1a,o1a,none⟩) 2 c,.slice bp bn bc,.slice ep en ec,.int .i64 q] 49))=V at hb0 hgV ⊢
 generalize w.heap.size=S at hb0 ⊢
 have HGV:=Lib.hid hgV
 have hbd:=hb0.grew (Grew.refl V).drw
 have d1:Atv ⟨S,1,none⟩ (.string s) V.drew:=hbd.atv 1 rfl
 have d2:Atv ⟨S,2,none⟩ (.int .i64 n) V.drew:=hbd.atv 2 rfl
 have d3:Atv ⟨S,3,none⟩ (.slice (some ⟨b1a,o1a,none⟩) 2 c) V.drew:=hbd.atv 3 rfl
 have e0:Atv ⟨b1a,o1a+0 * 6,none⟩ (.int .i64 ka) V.drew:=Atv.kept (hca 0 _ rfl) (HGV.out.trans (Grew.refl V).drw)
 have e1:Atv ⟨b1a,o1a+0 * 6+1,none⟩ (.string sa) V.drew:=Atv.kept (hca 1 _ rfl) (HGV.out.trans (Grew.refl V).drw)
 have e2:Atv ⟨b1a,o1a+0 * 6+2,none⟩ (.int .i16 va) V.drew:=Atv.kept (hca 2 _ rfl) (HGV.out.trans (Grew.refl V).drw)
 have e3:Atv ⟨b1a,o1a+0 * 6+3,none⟩ (.int .i64 oa) V.drew:=Atv.kept (hca 3 _ rfl) (HGV.out.trans (Grew.refl V).drw)
 have e4:Atv ⟨b1a,o1a+0 * 6+4,none⟩ (.slice pa ra.length ca) V.drew:=Atv.kept (hca 4 _ rfl) (HGV.out.trans (Grew.refl V).drw)
 have e5:Atv ⟨b1a,o1a+0 * 6+5,none⟩ (.int .i64 qa) V.drew:=Atv.kept (hca 5 _ rfl) (HGV.out.trans (Grew.refl V).drw)
 have f0:Atv ⟨b1a,o1a+1 * 6,none⟩ (.int .i64 kb) V.drew:=Atv.kept (hcb 0 _ rfl) (HGV.out.trans (Grew.refl V).drw)
 have f1:Atv ⟨b1a,o1a+1 * 6+1,none⟩ (.string sb) V.drew:=Atv.kept (hcb 1 _ rfl) (HGV.out.trans (Grew.refl V).drw)
 have f2:Atv ⟨b1a,o1a+1 * 6+2,none⟩ (.int .i16 vb) V.drew:=Atv.kept (hcb 2 _ rfl) (HGV.out.trans (Grew.refl V).drw)
 have f3:Atv ⟨b1a,o1a+1 * 6+3,none⟩ (.int .i64 ob) V.drew:=Atv.kept (hcb 3 _ rfl) (HGV.out.trans (Grew.refl V).drw)
 have f4:Atv ⟨b1a,o1a+1 * 6+4,none⟩ (.slice pb rb.length cb) V.drew:=Atv.kept (hcb 4 _ rfl) (HGV.out.trans (Grew.refl V).drw)
 have f5:Atv ⟨b1a,o1a+1 * 6+5,none⟩ (.int .i64 qb) V.drew:=Atv.kept (hcb 5 _ rfl) (HGV.out.trans (Grew.refl V).drw)
 clear hb0 hgV hbd hca hcb
 refine wp_posts [some 32,some 33,some 34,some 35,some 36,some 37,some 38,some 39,some 40,some 41,some 42,some 43,some 44,some 45,some 46,some 47,some 48,some 2] [Zf,Zf,Zt,Zf,Zf,Zf,Zf,Zf,Zf,Zf,Zf,Zf,Zf,Zf,Zf,Zf,Zf,Zf,Zf,Zf,Zf,Zf,Zf,Zf,Zf,Zf,Zf,Zf,Zf,Zf,Zf,Zf,Zt,Zt,Zt,Zt,Zt,Zt,Zt,Zt,Zt,Zt,Zt,Zt,Zt,Zt,Zt,Zt,Zt,Zf,Zf,Zf,Zf,Zf,Zf,Zf,Zf,Zf,Zf,Zf,Zf,Zf,Zf,Zf,Zf,Zf,Zf,Zf,Zf,Zf,Zf,Zf,Zf,Zf,Zf,Zf,Zf,Zf,Zf,Zf,Zf,Zf,Zf,Zf,Zf,Zf] [fun v _=>v=.pointer (some ⟨S,1,none⟩),fun v _=>v=.string ⟨(s.data.toList).toArray⟩,fun v _=>v=.string ⟨((s.data.toList)++([91])).toArray⟩,fun v _=>v=.pointer (some ⟨S,3,none⟩),fun v _=>v=.slice (some ⟨b1a,o1a,none⟩) (2) (c),fun v _=>v=.pointer (some ⟨b1a,o1a+0 * 6,none⟩),fun v _=>v=.agg #[.int .i64 (ka),.string sa,.int .i16 (va),.int .i64 (oa),.slice pa ra.length ca,.int .i64 (qa)],fun v _=>v=.string ⟨(Ta).toArray⟩,fun v _=>v=.string ⟨(((s.data.toList)++([91]))++(Ta)).toArray⟩,fun v _=>v=.string ⟨((((s.data.toList)++([91]))++(Ta))++([93,32,61,32])).toArray⟩,fun v _=>v=.pointer (some ⟨S,3,none⟩),fun v _=>v=.slice (some ⟨b1a,o1a,none⟩) (2) (c),fun v _=>v=.pointer (some ⟨b1a,o1a+1 * 6,none⟩),fun v _=>v=.agg #[.int .i64 (kb),.string sb,.int .i16 (vb),.int .i64 (ob),.slice pb rb.length cb,.int .i64 (qb)],fun v _=>v=.string ⟨(Tb).toArray⟩,fun v _=>v=.string ⟨(((((s.data.toList)++([91]))++(Ta))++([93,32,61,32]))++(Tb)).toArray⟩,fun v _=>v=.string ⟨((((((s.data.toList)++([91]))++(Ta))++([93,32,61,32]))++(Tb))++([59])).toArray⟩,fun v _=>v=.string ⟨((((((s.data.toList)++([91]))++(Ta))++([93,32,61,32]))++(Tb))++([59])).toArray⟩] (by kernel_rfl) (by kernel_rfl) rfl ?_ ⟨?_,?_,?_,?_,?_,?_,?_,?_,?_,?_,?_,?_,?_,?_,?_,?_,?_,?_,trivial⟩ ?_
 ·exact⟨Zi,Zi,Zi,Zi,Zi,Zi,Zi,Zi,Zi,Zi,Zi,Zi,Zi,Zi,Zi,Zi,Zi,Zi,trivial⟩
 ·intro u w hR hd;exact rn_fld_49_1 (ev rfl) Zr
 ·intro u w hR hd;exact rn_ld_9 (ev (hd.1 rfl)) (d1.kept hR) Zr
 ·intro u w hR hd;exact rn_cat_9 (ev (hd.1 rfl)) rfl (by first | omega | (simp <;> omega)) Zr
 ·intro u w hR hd;exact rn_fld_49_3 (ev rfl) Zr
 ·intro u w hR hd;exact rn_ld_33 (ev (hd.1 rfl)) (d3.kept hR) Zr
 ·intro u w hR hd;exact rn_idx_33 (0) (ev (hd.1 rfl)) rfl (by omega) Zr
 ·intro u w hR hd;exact rn_ld_35 (ev (hd.1 rfl)) (e0.kept hR) (e1.kept hR) (e2.kept hR) (e3.kept hR) (e4.kept hR) (e5.kept hR) Zr
 ·intro u w hR hd;exact runs_c1 enters_tx (ev (hd.1 rfl)) (callp (fun _ e=>e) (HTa.out _ (HGV.out.trans ((Grew.refl _).drw.trans hR))))
 ·intro u w hR hd;exact rn_cat_9 (ev (hd.1 rfl)) (ev (hd.2.1 rfl)) (by first | omega | (simp <;> omega)) Zr
 ·intro u w hR hd;exact rn_cat_9 (ev (hd.1 rfl)) rfl (by first | omega | (simp <;> omega)) Zr
 ·intro u w hR hd;exact rn_fld_49_3 (ev rfl) Zr
 ·intro u w hR hd;exact rn_ld_33 (ev (hd.1 rfl)) (d3.kept hR) Zr
 ·intro u w hR hd;exact rn_idx_33 (1) (ev (hd.1 rfl)) rfl (by omega) Zr
 ·intro u w hR hd;exact rn_ld_35 (ev (hd.1 rfl)) (f0.kept hR) (f1.kept hR) (f2.kept hR) (f3.kept hR) (f4.kept hR) (f5.kept hR) Zr
 ·intro u w hR hd;exact runs_c1 enters_tx (ev (hd.1 rfl)) (callp (fun _ e=>e) (HTb.out _ (HGV.out.trans ((Grew.refl _).drw.trans hR))))
 ·intro u w hR hd;exact rn_cat_9 (ev (hd.1 rfl)) (ev (hd.2.1 rfl)) (by first | omega | (simp <;> omega)) Zr
 ·intro u w hR hd;exact rn_cat_9 (ev (hd.1 rfl)) rfl (by first | omega | (simp <;> omega)) Zr
 ·intro u w hR hd;exact runs_mva (ev (hd.1 rfl)) Zr
 ·intro u w4 hR h
  have he:u 2=.string ⟨((((((s.data.toList)++([91]))++(Ta))++([93,32,61,32]))++(Tb))++([59])).toArray⟩:=h 17 (by decide)
  have HG4:=Lib.hid (HGV.out.trans ((Grew.refl V).drw.trans hR))
  simp only [mixA,mixL,zz9,zz0,he]
  clear h he hR
  go_wp2
  go_ret
  exact⟨rfl,HG4.out⟩
set_option maxHeartbeats 8000000 in
theorem simple_7 (s:ByteArray) (n q:Int) (a:Xp) (B:Nat→Prop) (w:World) (p:Option Addr) (c:Nat) (bp ep:Option Addr) (bn bc en ec:Nat) (hs:s.data.toList.length≤32) (hx:XL B w p c [a]) (hoka:okX a=true) (hn:nXs [a]≤1048576) :
 Calls Tryz.prog 164 #[sv 7 s n p 1 c bp bn bc ep en ec q] w fun e w'=>e=.returned (.string ⟨(simT 7 s.data.toList (agT [a] 0) (agT [a] 1)).toArray⟩)∧Grew w w':=by
 have HX:=Lib.hid hx
 have hs2:s.size≤32:=hs
 have hs3:s.data.size≤32:=hs
 have hcap:=hx.cap.1
 have hmax:=hx.cap.2.1
 rw [nXs] at hn
 obtain ⟨b1a,o1a,pa,ca,hpa,hba,hxa,hca⟩:=HX.out.get 0 (by simp)
 obtain ⟨ka,sa,va,oa,ra,qa⟩:=a
 replace hxa:XL B w pa ca ra:=hxa
 replace hba:B b1a∧sa.size≤1048576∧va≤32767:=hba
 replace hca:∀i_ u_,(xdc ⟨ka,sa,va,oa,pa,ra.length,ca,qa⟩)[i_]?=some u_→w.cell? ⟨b1a,o1a+0 * 6+i_,none⟩=some u_:=hca
 obtain ⟨Ta,hTa⟩:∃t,txX ⟨ka,sa,va,oa,ra,qa⟩=t:=⟨_,rfl⟩
 have lTa:=txX_len ⟨ka,sa,va,oa,ra,qa⟩ hoka (XL.fitX (x:=⟨ka,sa,va,oa,ra,qa⟩) hba.2.2 hxa)
 rw [hTa] at lTa
 have HTa:=Lib.hid (fun W (hW:Grew w W)=>(show Calls Tryz.prog 51 #[xv ka sa va oa pa ra.length ca qa] W fun e w'=>e=.returned (.string ⟨(Ta).toArray⟩)∧Grew W w' from hTa ▸ text_any ⟨ka,sa,va,oa,ra,qa⟩ B W pa ca hba.2 (hxa.kept hW) hoka (by omega)))
 rw [show simT 7 s.data.toList (agT [⟨ka,sa,va,oa,ra,qa⟩] 0) (agT [⟨ka,sa,va,oa,ra,qa⟩] 1)=(((([115,101,110,100,32])++(s.data.toList))++([32]))++(Ta))++([59]) from by rw [← hTa];rfl]
 subst hpa
 go_enter Tryz.func164,Tryz.ntmps164
 go_upto_region 9 with fail
 have hb0:Blk w.heap.size [.int .i64 7,.string s,.int .i64 n,.slice (some ⟨b1a,o1a,none⟩) 1 c,.slice bp bn bc,.slice ep en ec,.int .i64 q] 49 (w.alloc (Obj.cells #[.int .i64 7,.string s,.int .i64 n,.slice (some ⟨b1a,o1a,none⟩) 1 c,.slice bp bn bc,.slice ep en ec,.int .i64 q] 49)):=Blk.new w _ _
 have hgV:Grew w (w.alloc (Obj.cells #[.int .i64 7,.string s,.int .i64 n,.slice (some ⟨b1a,o1a,none⟩) 1 c,.slice bp bn bc,.slice ep en ec,.int .i64 q] 49)):=(Grew.refl w).alloc _
 generalize (w.alloc (Obj.cells #[.int .i64 7,.string s,.int .i64 n,.slice (some ⟨b1a,o1a,none⟩) 1 c,.slice bp bn bc,.slice ep en ec,.int .i64 q] 49))=V at hb0 hgV ⊢
 generalize w.heap.size=S at hb0 ⊢
 have HGV:=Lib.hid hgV
 have hbd:=hb0.grew (Grew.refl V).drw
 have d1:Atv ⟨S,1,none⟩ (.string s) V.drew:=hbd.atv 1 rfl
 have d2:Atv ⟨S,2,none⟩ (.int .i64 n) V.drew:=hbd.atv 2 rfl
 have d3:Atv ⟨S,3,none⟩ (.slice (some ⟨b1a,o1a,none⟩) 1 c) V.drew:=hbd.atv 3 rfl
 have e0:Atv ⟨b1a,o1a+0 * 6,none⟩ (.int .i64 ka) V.drew:=Atv.kept (hca 0 _ rfl) (HGV.out.trans (Grew.refl V).drw)
 have e1:Atv ⟨b1a,o1a+0 * 6+1,none⟩ (.string sa) V.drew:=Atv.kept (hca 1 _ rfl) (HGV.out.trans (Grew.refl V).drw)
 have e2:Atv ⟨b1a,o1a+0 * 6+2,none⟩ (.int .i16 va) V.drew:=Atv.kept (hca 2 _ rfl) (HGV.out.trans (Grew.refl V).drw)
 have e3:Atv ⟨b1a,o1a+0 * 6+3,none⟩ (.int .i64 oa) V.drew:=Atv.kept (hca 3 _ rfl) (HGV.out.trans (Grew.refl V).drw)
 have e4:Atv ⟨b1a,o1a+0 * 6+4,none⟩ (.slice pa ra.length ca) V.drew:=Atv.kept (hca 4 _ rfl) (HGV.out.trans (Grew.refl V).drw)
 have e5:Atv ⟨b1a,o1a+0 * 6+5,none⟩ (.int .i64 qa) V.drew:=Atv.kept (hca 5 _ rfl) (HGV.out.trans (Grew.refl V).drw)
 clear hb0 hgV hbd hca
 refine wp_posts [some 51,some 52,some 53,some 54,some 55,some 56,some 57,some 58,some 59,some 60,some 61,some 2] [Zf,Zf,Zt,Zf,Zf,Zf,Zf,Zf,Zf,Zf,Zf,Zf,Zf,Zf,Zf,Zf,Zf,Zf,Zf,Zf,Zf,Zf,Zf,Zf,Zf,Zf,Zf,Zf,Zf,Zf,Zf,Zf,Zf,Zf,Zf,Zf,Zf,Zf,Zf,Zf,Zf,Zf,Zf,Zf,Zf,Zf,Zf,Zf,Zf,Zf,Zf,Zt,Zt,Zt,Zt,Zt,Zt,Zt,Zt,Zt,Zt,Zt,Zf,Zf,Zf,Zf,Zf,Zf,Zf,Zf,Zf,Zf,Zf,Zf,Zf,Zf,Zf,Zf,Zf,Zf,Zf,Zf,Zf,Zf,Zf,Zf] [fun v _=>v=.pointer (some ⟨S,1,none⟩),fun v _=>v=.string ⟨(s.data.toList).toArray⟩,fun v _=>v=.string ⟨(([115,101,110,100,32])++(s.data.toList)).toArray⟩,fun v _=>v=.string ⟨((([115,101,110,100,32])++(s.data.toList))++([32])).toArray⟩,fun v _=>v=.pointer (some ⟨S,3,none⟩),fun v _=>v=.slice (some ⟨b1a,o1a,none⟩) (1) (c),fun v _=>v=.pointer (some ⟨b1a,o1a+0 * 6,none⟩),fun v _=>v=.agg #[.int .i64 (ka),.string sa,.int .i16 (va),.int .i64 (oa),.slice pa ra.length ca,.int .i64 (qa)],fun v _=>v=.string ⟨(Ta).toArray⟩,fun v _=>v=.string ⟨(((([115,101,110,100,32])++(s.data.toList))++([32]))++(Ta)).toArray⟩,fun v _=>v=.string ⟨((((([115,101,110,100,32])++(s.data.toList))++([32]))++(Ta))++([59])).toArray⟩,fun v _=>v=.string ⟨((((([115,101,110,100,32])++(s.data.toList))++([32]))++(Ta))++([59])).toArray⟩] (by kernel_rfl) (by kernel_rfl) rfl ?_ ⟨?_,?_,?_,?_,?_,?_,?_,?_,?_,?_,?_,?_,trivial⟩ ?_
 ·exact⟨Zi,Zi,Zi,Zi,Zi,Zi,Zi,Zi,Zi,Zi,Zi,Zi,trivial⟩
 ·intro u w hR hd;exact rn_fld_49_1 (ev rfl) Zr
 ·intro u w hR hd;exact rn_ld_9 (ev (hd.1 rfl)) (d1.kept hR) Zr
 ·intro u w hR hd;exact rn_cat_9 rfl (ev (hd.1 rfl)) (by first | omega | (simp <;> omega)) Zr
 ·intro u w hR hd;exact rn_cat_9 (ev (hd.1 rfl)) rfl (by first | omega | (simp <;> omega)) Zr
 ·intro u w hR hd;exact rn_fld_49_3 (ev rfl) Zr
 ·intro u w hR hd;exact rn_ld_33 (ev (hd.1 rfl)) (d3.kept hR) Zr
 ·intro u w hR hd;exact rn_idx_33 (0) (ev (hd.1 rfl)) rfl (by omega) Zr
 ·intro u w hR hd;exact rn_ld_35 (ev (hd.1 rfl)) (e0.kept hR) (e1.kept hR) (e2.kept hR) (e3.kept hR) (e4.kept hR) (e5.kept hR) Zr
 ·intro u w hR hd;exact runs_c1 enters_tx (ev (hd.1 rfl)) (callp (fun _ e=>e) (HTa.out _ (HGV.out.trans ((Grew.refl _).drw.trans hR))))
 ·intro u w hR hd;exact rn_cat_9 (ev (hd.1 rfl)) (ev (hd.2.1 rfl)) (by first | omega | (simp <;> omega)) Zr
 ·intro u w hR hd;exact rn_cat_9 (ev (hd.1 rfl)) rfl (by first | omega | (simp <;> omega)) Zr
 ·intro u w hR hd;exact runs_mva (ev (hd.1 rfl)) Zr
 ·intro u w4 hR h
  have he:u 2=.string ⟨((((([115,101,110,100,32])++(s.data.toList))++([32]))++(Ta))++([59])).toArray⟩:=h 11 (by decide)
  have HG4:=Lib.hid (HGV.out.trans ((Grew.refl V).drw.trans hR))
  simp only [mixA,mixL,zz9,zz0,he]
  clear h he hR
  go_wp2
  go_ret
  exact⟨rfl,HG4.out⟩
set_option maxHeartbeats 8000000 in
theorem simple_9 (s:ByteArray) (n q:Int) (a:Xp) (B:Nat→Prop) (w:World) (p:Option Addr) (c:Nat) (bp ep:Option Addr) (bn bc en ec:Nat) (hs:s.data.toList.length≤32) (hx:XL B w p c [a]) (hoka:okX a=true) (hn:nXs [a]≤1048576) :
 Calls Tryz.prog 164 #[sv 9 s n p 1 c bp bn bc ep en ec q] w fun e w'=>e=.returned (.string ⟨(simT 9 s.data.toList (agT [a] 0) (agT [a] 1)).toArray⟩)∧Grew w w':=by
 have HX:=Lib.hid hx
 have hs2:s.size≤32:=hs
 have hs3:s.data.size≤32:=hs
 have hcap:=hx.cap.1
 have hmax:=hx.cap.2.1
 rw [nXs] at hn
 obtain ⟨b1a,o1a,pa,ca,hpa,hba,hxa,hca⟩:=HX.out.get 0 (by simp)
 obtain ⟨ka,sa,va,oa,ra,qa⟩:=a
 replace hxa:XL B w pa ca ra:=hxa
 replace hba:B b1a∧sa.size≤1048576∧va≤32767:=hba
 replace hca:∀i_ u_,(xdc ⟨ka,sa,va,oa,pa,ra.length,ca,qa⟩)[i_]?=some u_→w.cell? ⟨b1a,o1a+0 * 6+i_,none⟩=some u_:=hca
 obtain ⟨Ta,hTa⟩:∃t,txX ⟨ka,sa,va,oa,ra,qa⟩=t:=⟨_,rfl⟩
 have lTa:=txX_len ⟨ka,sa,va,oa,ra,qa⟩ hoka (XL.fitX (x:=⟨ka,sa,va,oa,ra,qa⟩) hba.2.2 hxa)
 rw [hTa] at lTa
 have HTa:=Lib.hid (fun W (hW:Grew w W)=>(show Calls Tryz.prog 51 #[xv ka sa va oa pa ra.length ca qa] W fun e w'=>e=.returned (.string ⟨(Ta).toArray⟩)∧Grew W w' from hTa ▸ text_any ⟨ka,sa,va,oa,ra,qa⟩ B W pa ca hba.2 (hxa.kept hW) hoka (by omega)))
 rw [show simT 9 s.data.toList (agT [⟨ka,sa,va,oa,ra,qa⟩] 0) (agT [⟨ka,sa,va,oa,ra,qa⟩] 1)=(((([111,117,116,112,117,116,32])++(s.data.toList))++([32]))++(Ta))++([59]) from by rw [← hTa];rfl]
 subst hpa
 go_enter Tryz.func164,Tryz.ntmps164
 go_upto_region 11 with fail
 have hb0:Blk w.heap.size [.int .i64 9,.string s,.int .i64 n,.slice (some ⟨b1a,o1a,none⟩) 1 c,.slice bp bn bc,.slice ep en ec,.int .i64 q] 49 (w.alloc (Obj.cells #[.int .i64 9,.string s,.int .i64 n,.slice (some ⟨b1a,o1a,none⟩) 1 c,.slice bp bn bc,.slice ep en ec,.int .i64 q] 49)):=Blk.new w _ _
 have hgV:Grew w (w.alloc (Obj.cells #[.int .i64 9,.string s,.int .i64 n,.slice (some ⟨b1a,o1a,none⟩) 1 c,.slice bp bn bc,.slice ep en ec,.int .i64 q] 49)):=(Grew.refl w).alloc _
 generalize (w.alloc (Obj.cells #[.int .i64 9,.string s,.int .i64 n,.slice (some ⟨b1a,o1a,none⟩) 1 c,.slice bp bn bc,.slice ep en ec,.int .i64 q] 49))=V at hb0 hgV ⊢
 generalize w.heap.size=S at hb0 ⊢
 have HGV:=Lib.hid hgV
 have hbd:=hb0.grew (Grew.refl V).drw
 have d1:Atv ⟨S,1,none⟩ (.string s) V.drew:=hbd.atv 1 rfl
 have d2:Atv ⟨S,2,none⟩ (.int .i64 n) V.drew:=hbd.atv 2 rfl
 have d3:Atv ⟨S,3,none⟩ (.slice (some ⟨b1a,o1a,none⟩) 1 c) V.drew:=hbd.atv 3 rfl
 have e0:Atv ⟨b1a,o1a+0 * 6,none⟩ (.int .i64 ka) V.drew:=Atv.kept (hca 0 _ rfl) (HGV.out.trans (Grew.refl V).drw)
 have e1:Atv ⟨b1a,o1a+0 * 6+1,none⟩ (.string sa) V.drew:=Atv.kept (hca 1 _ rfl) (HGV.out.trans (Grew.refl V).drw)
 have e2:Atv ⟨b1a,o1a+0 * 6+2,none⟩ (.int .i16 va) V.drew:=Atv.kept (hca 2 _ rfl) (HGV.out.trans (Grew.refl V).drw)
 have e3:Atv ⟨b1a,o1a+0 * 6+3,none⟩ (.int .i64 oa) V.drew:=Atv.kept (hca 3 _ rfl) (HGV.out.trans (Grew.refl V).drw)
 have e4:Atv ⟨b1a,o1a+0 * 6+4,none⟩ (.slice pa ra.length ca) V.drew:=Atv.kept (hca 4 _ rfl) (HGV.out.trans (Grew.refl V).drw)
 have e5:Atv ⟨b1a,o1a+0 * 6+5,none⟩ (.int .i64 qa) V.drew:=Atv.kept (hca 5 _ rfl) (HGV.out.trans (Grew.refl V).drw)
 clear hb0 hgV hbd hca
 refine wp_posts [some 64,some 65,some 66,some 67,some 68,some 69,some 70,some 71,some 72,some 73,some 74,some 2] [Zf,Zf,Zt,Zf,Zf,Zf,Zf,Zf,Zf,Zf,Zf,Zf,Zf,Zf,Zf,Zf,Zf,Zf,Zf,Zf,Zf,Zf,Zf,Zf,Zf,Zf,Zf,Zf,Zf,Zf,Zf,Zf,Zf,Zf,Zf,Zf,Zf,Zf,Zf,Zf,Zf,Zf,Zf,Zf,Zf,Zf,Zf,Zf,Zf,Zf,Zf,Zf,Zf,Zf,Zf,Zf,Zf,Zf,Zf,Zf,Zf,Zf,Zf,Zf,Zt,Zt,Zt,Zt,Zt,Zt,Zt,Zt,Zt,Zt,Zt,Zf,Zf,Zf,Zf,Zf,Zf,Zf,Zf,Zf,Zf,Zf] [fun v _=>v=.pointer (some ⟨S,1,none⟩),fun v _=>v=.string ⟨(s.data.toList).toArray⟩,fun v _=>v=.string ⟨(([111,117,116,112,117,116,32])++(s.data.toList)).toArray⟩,fun v _=>v=.string ⟨((([111,117,116,112,117,116,32])++(s.data.toList))++([32])).toArray⟩,fun v _=>v=.pointer (some ⟨S,3,none⟩),fun v _=>v=.slice (some ⟨b1a,o1a,none⟩) (1) (c),fun v _=>v=.pointer (some ⟨b1a,o1a+0 * 6,none⟩),fun v _=>v=.agg #[.int .i64 (ka),.string sa,.int .i16 (va),.int .i64 (oa),.slice pa ra.length ca,.int .i64 (qa)],fun v _=>v=.string ⟨(Ta).toArray⟩,fun v _=>v=.string ⟨(((([111,117,116,112,117,116,32])++(s.data.toList))++([32]))++(Ta)).toArray⟩,fun v _=>v=.string ⟨((((([111,117,116,112,117,116,32])++(s.data.toList))++([32]))++(Ta))++([59])).toArray⟩,fun v _=>v=.string ⟨((((([111,117,116,112,117,116,32])++(s.data.toList))++([32]))++(Ta))++([59])).toArray⟩] (by kernel_rfl) (by kernel_rfl) rfl ?_ ⟨?_,?_,?_,?_,?_,?_,?_,?_,?_,?_,?_,?_,trivial⟩ ?_
 ·exact⟨Zi,Zi,Zi,Zi,Zi,Zi,Zi,Zi,Zi,Zi,Zi,Zi,trivial⟩
 ·intro u w hR hd;exact rn_fld_49_1 (ev rfl) Zr
 ·intro u w hR hd;exact rn_ld_9 (ev (hd.1 rfl)) (d1.kept hR) Zr
 ·intro u w hR hd;exact rn_cat_9 rfl (ev (hd.1 rfl)) (by first | omega | (simp <;> omega)) Zr
 ·intro u w hR hd;exact rn_cat_9 (ev (hd.1 rfl)) rfl (by first | omega | (simp <;> omega)) Zr
 ·intro u w hR hd;exact rn_fld_49_3 (ev rfl) Zr
 ·intro u w hR hd;exact rn_ld_33 (ev (hd.1 rfl)) (d3.kept hR) Zr
 ·intro u w hR hd;exact rn_idx_33 (0) (ev (hd.1 rfl)) rfl (by omega) Zr
 ·intro u w hR hd;exact rn_ld_35 (ev (hd.1 rfl)) (e0.kept hR) (e1.kept hR) (e2.kept hR) (e3.kept hR) (e4.kept hR) (e5.kept hR) Zr
 ·intro u w hR hd;exact runs_c1 enters_tx (ev (hd.1 rfl)) (callp (fun _ e=>e) (HTa.out _ (HGV.out.trans ((Grew.refl _).drw.trans hR))))
 ·intro u w hR hd;exact rn_cat_9 (ev (hd.1 rfl)) (ev (hd.2.1 rfl)) (by first | omega | (simp <;> omega)) Zr
 ·intro u w hR hd;exact rn_cat_9 (ev (hd.1 rfl)) rfl (by first | omega | (simp <;> omega)) Zr
 ·intro u w hR hd;exact runs_mva (ev (hd.1 rfl)) Zr
 ·intro u w4 hR h
  have he:u 2=.string ⟨((((([111,117,116,112,117,116,32])++(s.data.toList))++([32]))++(Ta))++([59])).toArray⟩:=h 11 (by decide)
  have HG4:=Lib.hid (HGV.out.trans ((Grew.refl V).drw.trans hR))
  simp only [mixA,mixL,zz9,zz0,he]
  clear h he hR
  go_wp2
  go_ret
  exact⟨rfl,HG4.out⟩
set_option maxHeartbeats 8000000 in
theorem simple_8 (s:ByteArray) (n q:Int) (a:Xp) (B:Nat→Prop) (w:World) (p:Option Addr) (c:Nat) (bp ep:Option Addr) (bn bc en ec:Nat) (hs:s.data.toList.length≤32) (hx:XL B w p c [a]) (hoka:okX a=true) (hn:nXs [a]≤1048576) :
 Calls Tryz.prog 164 #[sv 8 s n p 1 c bp bn bc ep en ec q] w fun e w'=>e=.returned (.string ⟨(simT 8 s.data.toList (agT [a] 0) (agT [a] 1)).toArray⟩)∧Grew w w':=by
 have HX:=Lib.hid hx
 have hs2:s.size≤32:=hs
 have hs3:s.data.size≤32:=hs
 have hcap:=hx.cap.1
 have hmax:=hx.cap.2.1
 rw [nXs] at hn
 obtain ⟨b1a,o1a,pa,ca,hpa,hba,hxa,hca⟩:=HX.out.get 0 (by simp)
 obtain ⟨ka,sa,va,oa,ra,qa⟩:=a
 replace hxa:XL B w pa ca ra:=hxa
 replace hba:B b1a∧sa.size≤1048576∧va≤32767:=hba
 replace hca:∀i_ u_,(xdc ⟨ka,sa,va,oa,pa,ra.length,ca,qa⟩)[i_]?=some u_→w.cell? ⟨b1a,o1a+0 * 6+i_,none⟩=some u_:=hca
 obtain ⟨Ta,hTa⟩:∃t,txX ⟨ka,sa,va,oa,ra,qa⟩=t:=⟨_,rfl⟩
 have lTa:=txX_len ⟨ka,sa,va,oa,ra,qa⟩ hoka (XL.fitX (x:=⟨ka,sa,va,oa,ra,qa⟩) hba.2.2 hxa)
 rw [hTa] at lTa
 have HTa:=Lib.hid (fun W (hW:Grew w W)=>(show Calls Tryz.prog 51 #[xv ka sa va oa pa ra.length ca qa] W fun e w'=>e=.returned (.string ⟨(Ta).toArray⟩)∧Grew W w' from hTa ▸ text_any ⟨ka,sa,va,oa,ra,qa⟩ B W pa ca hba.2 (hxa.kept hW) hoka (by omega)))
 rw [show simT 8 s.data.toList (agT [⟨ka,sa,va,oa,ra,qa⟩] 0) (agT [⟨ka,sa,va,oa,ra,qa⟩] 1)=(([101,109,105,116,32])++(Ta))++([59]) from by rw [← hTa];rfl]
 subst hpa
 go_enter Tryz.func164,Tryz.ntmps164
 go_upto_region 13 with fail
 have hb0:Blk w.heap.size [.int .i64 8,.string s,.int .i64 n,.slice (some ⟨b1a,o1a,none⟩) 1 c,.slice bp bn bc,.slice ep en ec,.int .i64 q] 49 (w.alloc (Obj.cells #[.int .i64 8,.string s,.int .i64 n,.slice (some ⟨b1a,o1a,none⟩) 1 c,.slice bp bn bc,.slice ep en ec,.int .i64 q] 49)):=Blk.new w _ _
 have hgV:Grew w (w.alloc (Obj.cells #[.int .i64 8,.string s,.int .i64 n,.slice (some ⟨b1a,o1a,none⟩) 1 c,.slice bp bn bc,.slice ep en ec,.int .i64 q] 49)):=(Grew.refl w).alloc _
 generalize (w.alloc (Obj.cells #[.int .i64 8,.string s,.int .i64 n,.slice (some ⟨b1a,o1a,none⟩) 1 c,.slice bp bn bc,.slice ep en ec,.int .i64 q] 49))=V at hb0 hgV ⊢
 generalize w.heap.size=S at hb0 ⊢
 have HGV:=Lib.hid hgV
 have hbd:=hb0
 have d1:Atv ⟨S,1,none⟩ (.string s) V:=hbd.atv 1 rfl
 have d2:Atv ⟨S,2,none⟩ (.int .i64 n) V:=hbd.atv 2 rfl
 have d3:Atv ⟨S,3,none⟩ (.slice (some ⟨b1a,o1a,none⟩) 1 c) V:=hbd.atv 3 rfl
 have e0:Atv ⟨b1a,o1a+0 * 6,none⟩ (.int .i64 ka) V:=Atv.kept (hca 0 _ rfl) HGV.out
 have e1:Atv ⟨b1a,o1a+0 * 6+1,none⟩ (.string sa) V:=Atv.kept (hca 1 _ rfl) HGV.out
 have e2:Atv ⟨b1a,o1a+0 * 6+2,none⟩ (.int .i16 va) V:=Atv.kept (hca 2 _ rfl) HGV.out
 have e3:Atv ⟨b1a,o1a+0 * 6+3,none⟩ (.int .i64 oa) V:=Atv.kept (hca 3 _ rfl) HGV.out
 have e4:Atv ⟨b1a,o1a+0 * 6+4,none⟩ (.slice pa ra.length ca) V:=Atv.kept (hca 4 _ rfl) HGV.out
 have e5:Atv ⟨b1a,o1a+0 * 6+5,none⟩ (.int .i64 qa) V:=Atv.kept (hca 5 _ rfl) HGV.out
 clear hb0 hgV hbd hca
 refine wp_postsL [some 77,some 78,some 79,some 80,some 81,some 82,some 83,some 2] [Zf,Zf,Zt,Zf,Zf,Zf,Zf,Zf,Zf,Zf,Zf,Zf,Zf,Zf,Zf,Zf,Zf,Zf,Zf,Zf,Zf,Zf,Zf,Zf,Zf,Zf,Zf,Zf,Zf,Zf,Zf,Zf,Zf,Zf,Zf,Zf,Zf,Zf,Zf,Zf,Zf,Zf,Zf,Zf,Zf,Zf,Zf,Zf,Zf,Zf,Zf,Zf,Zf,Zf,Zf,Zf,Zf,Zf,Zf,Zf,Zf,Zf,Zf,Zf,Zf,Zf,Zf,Zf,Zf,Zf,Zf,Zf,Zf,Zf,Zf,Zf,Zf,Zt,Zt,Zt,Zt,Zt,Zt,Zt,Zf,Zf] [fun v _=>v=.pointer (some ⟨S,3,none⟩),fun v _=>v=.slice (some ⟨b1a,o1a,none⟩) (1) (c),fun v _=>v=.pointer (some ⟨b1a,o1a+0 * 6,none⟩),fun v _=>v=.agg #[.int .i64 (ka),.string sa,.int .i16 (va),.int .i64 (oa),.slice pa ra.length ca,.int .i64 (qa)],fun v _=>v=.string ⟨(Ta).toArray⟩,fun v _=>v=.string ⟨(([101,109,105,116,32])++(Ta)).toArray⟩,fun v _=>v=.string ⟨((([101,109,105,116,32])++(Ta))++([59])).toArray⟩,fun v _=>v=.string ⟨((([101,109,105,116,32])++(Ta))++([59])).toArray⟩] (by kernel_rfl) rfl ?_ ⟨?_,?_,?_,?_,?_,?_,?_,?_,trivial⟩ ?_
 ·exact⟨Zi,Zi,Zi,Zi,Zi,Zi,Zi,Zi,trivial⟩
 ·intro u w hR hd;exact rn_fld_49_3 (ev rfl) Zr
 ·intro u w hR hd;exact rn_ld_33 (ev (hd.1 rfl)) (d3.kept hR) Zr
 ·intro u w hR hd;exact rn_idx_33 (0) (ev (hd.1 rfl)) rfl (by omega) Zr
 ·intro u w hR hd;exact rn_ld_35 (ev (hd.1 rfl)) (e0.kept hR) (e1.kept hR) (e2.kept hR) (e3.kept hR) (e4.kept hR) (e5.kept hR) Zr
 ·intro u w hR hd;exact runs_c1 enters_tx (ev (hd.1 rfl)) (callp (fun _ e=>e) (HTa.out _ (HGV.out.trans hR)))
 ·intro u w hR hd;exact rn_cat_9 rfl (ev (hd.1 rfl)) (by first | omega | (simp <;> omega)) Zr
 ·intro u w hR hd;exact rn_cat_9 (ev (hd.1 rfl)) rfl (by first | omega | (simp <;> omega)) Zr
 ·intro u w hR hd;exact runs_mva (ev (hd.1 rfl)) Zr
 ·intro u w4 hR h
  have he:u 2=.string ⟨((([101,109,105,116,32])++(Ta))++([59])).toArray⟩:=h 7 (by decide)
  have HG4:=Lib.hid (HGV.out.trans hR)
  simp only [mixA,mixL,zz9,zz0,he]
  clear h he hR
  go_wp2
  go_ret
  exact⟨rfl,HG4.out⟩
end Go.Proofs.YtcknpcbkofgdoaaGreatDoor
namespace Go.Proofs.YtcknpcbkofgdoaaGreatDoor
open Go Go.RowKit Go.IntWalk
set_option linter.unusedSimpArgs false
set_option linter.unusedVariables false
set_option maxRecDepth 8000
def optT (w:List UInt8) (n:Int):List UInt8:=if n=0 then [] else (([32]++w)++[32])++numZ n
def tskO (s:ByteArray):List UInt8:=[116,97,115,107,32]++s.data.toList
def tskE (O:List UInt8) (i:Int):List UInt8:=(O++[32,101,118,101,114,121,32])++numZ i
def tskC (O:List UInt8) (h m:ByteArray) (n:Int):List UInt8:=((((((O)++([32,111,110,32]))++(h.data.toList))++([40]))++(m.data.toList))++([41]))++(optT [119,105,116,104,105,110] n)
def tskH (t:Ta):List UInt8:=if t.p=0 then tskC (tskO t.s) t.c t.m t.w else tskE (tskO t.s) t.p
def tskF (O Y:List UInt8) (d:Int):List UInt8:=((((O)++(optT [100,101,97,100,108,105,110,101] d))++([32,123,10]))++(Y))++([125,10])
def tskT (t:Ta):List UInt8:=tskF (tskH t) (linL t.b [32,32,32,32]) t.d
theorem optT_len (w:List UInt8) (n:Int) (h:0≤n∧n≤32767):(optT w n).length≤w.length+8:=by
 have:=numZ_len (z:=n) (by omega)
 rw [optT]
 split
 ·exact Nat.zero_le _
 ·simp only [List.length_append,List.length_cons,List.length_nil];omega
theorem okT_cases {t:Ta}(h:okT t=true):idn t.s=true∧(0≤t.d∧t.d≤32767)∧okSs t.b=true∧((t.p=0∧idn t.c=true∧idn t.m=true∧0≤t.w∧t.w≤32767)∨((1≤t.p∧t.p≤32767)∧t.c=⟨#[]⟩∧t.m=⟨#[]⟩∧t.w=0)):=by
 rw [okT,Bool.and_eq_true] at h
 obtain ⟨h1,h2⟩:=h
 rw [hdT,Bool.not_eq_true'] at h1
 simp only [Bool.or_eq_false_iff,Bool.not_eq_false'] at h1
 obtain ⟨⟨p1,p2⟩,p3⟩:=h1
 rw [num1,Bool.and_eq_true,decide_eq_true_eq,decide_eq_true_eq] at p2
 refine⟨p1,p2,p3,?_⟩
 rw [tlT] at h2
 split at h2
 ·rename_i h0
  simp only [Bool.and_eq_true,num1,decide_eq_true_eq] at h2
  exact .inl ⟨h0,h2.1.1,h2.1.2,h2.2⟩
 ·simp only [Bool.and_eq_true,num1,decide_eq_true_eq,beq_iff_eq] at h2
  exact .inr ⟨h2.1.1.1,h2.1.1.2,h2.1.2,h2.2⟩
end Go.Proofs.YtcknpcbkofgdoaaGreatDoor
namespace Go.Proofs.YtcknpcbkofgdoaaGreatDoor
open Go Go.RowKit Go.IntWalk
set_option linter.unusedSimpArgs false
set_option linter.unusedVariables false
set_option maxRecDepth 8000
def lnC (O:List UInt8) (s:ByteArray) (z:Int):List UInt8:=(((((O)++([99,111,110,115,116,32]))++(s.data.toList))++([32,61,32]))++(numZ z))++([59,10])
def lnH (O:List UInt8) (s:ByteArray) (z:Int):List UInt8:=(((((O)++([99,104,97,110,110,101,108,32]))++(s.data.toList))++([91]))++(numZ z))++([93,59,10])
def lnG1 (O:List UInt8) (s:ByteArray):List UInt8:=(O++[118,97,114,32])++s.data.toList
def lnG2 (O:List UInt8) (l i:Int):List UInt8:=if 0 < l then ((O++[91])++numZ l)++[93] else if i≠0 then (O++[32,61,32])++numZ i else O
def lnG (O:List UInt8) (s:ByteArray) (l i:Int):List UInt8:=lnG2 (lnG1 O s) l i++[59,10]
def lnS (O:List UInt8) (s:ByteArray):List UInt8:=((O++[115,101,110,115,111,114,32])++s.data.toList)++[59,10]
def lnO (O:List UInt8) (s:ByteArray):List UInt8:=((O++[111,117,116,112,117,116,32])++s.data.toList)++[59,10]
def fCs (O:List UInt8) (l:List Cn):List UInt8:=l.foldl (fun O c=>lnC O c.s c.v) O
def fGs (O:List UInt8) (l:List Gl):List UInt8:=l.foldl (fun O c=>lnG O c.s c.l c.i) O
def fSs (O:List UInt8) (l:List ByteArray):List UInt8:=l.foldl lnS O
def fOs (O:List UInt8) (l:List ByteArray):List UInt8:=l.foldl lnO O
def fHs (O:List UInt8) (l:List Cn):List UInt8:=l.foldl (fun O c=>lnH O c.s c.v) O
def fTs (O:List UInt8) (l:List Ta):List UInt8:=l.foldl (fun O t=>O++tskT t) O
def fmT (P:Pg):List UInt8:=fTs (fHs (fOs (fSs (fGs (fCs [] P.cs) P.gs) P.ss) P.os) P.hs) P.ts
theorem fold_snoc {α β:Type}{f:β→α→β}{l:List α}{j:Nat}{x:α}{O:β}(h:l.take (j+1)=l.take j++[x]):(l.take (j+1)).foldl f O=f ((l.take j).foldl f O) x:=by
 rw [h,List.foldl_append];rfl
theorem okC_of {s:ByteArray}{z:Int}(h:okC s z=true):idn s=true∧-32767≤z:=by
 rw [okC,Bool.not_eq_true'] at h
 simp only [Bool.or_eq_false_iff,Bool.not_eq_false',decide_eq_false_iff_not] at h
 exact⟨h.1,by omega⟩
theorem okH_of {s:ByteArray}{z:Int}(h:okH s z=true):idn s=true∧0≤z∧z≤32767:=by
 rw [okH,Bool.not_eq_true'] at h
 simp only [Bool.or_eq_false_iff,Bool.not_eq_false',num1,Bool.and_eq_true,decide_eq_true_eq] at h
 exact h
theorem okG_of {s:ByteArray}{l i:Int}(h:okG s l i=true):idn s=true∧(0≤l∧l≤32767)∧-32767≤i∧(0 < l→i=0):=by
 rw [okG,Bool.not_eq_true'] at h
 simp only [Bool.or_eq_false_iff,Bool.not_eq_false',num1,Bool.and_eq_true,decide_eq_true_eq,decide_eq_false_iff_not,Bool.and_eq_false_iff] at h
 obtain ⟨⟨⟨h1,h2⟩,h3⟩,h4⟩:=h
 refine⟨h1,h2,by omega,fun h5=>?_⟩
 rcases h4 with h4 | h4
 ·omega
 ·simpa using h4
end Go.Proofs.YtcknpcbkofgdoaaGreatDoor
