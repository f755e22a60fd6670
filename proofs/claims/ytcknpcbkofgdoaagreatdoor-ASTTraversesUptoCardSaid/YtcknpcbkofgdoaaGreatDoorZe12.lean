/-
  LAYER 16 (ast), THE LAWS: Traverses.
-/
import Derived.Test.YtcknpcbkofgdoaaGreatDoorZeShort
import Derived.Test.YtcknpcbkofgdoaaGreatDoorZe03
import Derived.Test.YtcknpcbkofgdoaaGreatDoorZe01
import Derived.Test.YtcknpcbkofgdoaaGreatDoorZe02
import Derived.Test.YtcknpcbkofgdoaaGreatDoorZe11
import Derived.Test.YtcknpcbkofgdoaaGreatDoorZe00
import Derived.Laws.Slices
import Derived.Deep.LoopGhost
import Derived.Deep.Cut
import Derived.Shelf.Abstract
namespace Go.Proofs.YtcknpcbkofgdoaaGreatDoor
open Go Go.RowKit Go.IntWalk
set_option linter.unusedSimpArgs false
set_option linter.unusedVariables false
set_option maxRecDepth 8000
section
variable {dst:Option Tmp}{ty:TypeId}{pos:String}{after:Array Edge}{g:Option (Nat × Bool)}{a:Act}{w:World}{T:Value→World→Prop}
theorem rn_fld_35_5 {x:Operand}{S o:Nat}(hx:a.eval x=.pointer (some ⟨S,o,none⟩)) (h:T (.pointer (some ⟨S,o+5,none⟩)) w):Runs Tryz.prog ⟨dst,.fieldAddr 35 x 5,ty,pos,after,g⟩ a w T:=by
 refine Runs.value (v:=.pointer (some ⟨S,o+5,none⟩)) (w':=w) ?_ h
 simp only [execOp,hx]
 go_simp
theorem rn_cut_40 {x y:Operand}{p:Option Addr}{n m c:Nat}(hx:a.eval x=.slice p n c) (hy:a.eval y=.int .i64 (m:Int)) (hm:m≤c) (h:T (.slice p m c) w):Runs Tryz.prog ⟨dst,.slice 40 x none (some y) none,ty,pos,after,g⟩ a w T:=by
 have hrun:(Instr.sliceAt 40 (.slice p n c) none (some (.int .i64 (m:Int))) none).run Tryz.prog w=.ok (.slice p m c) w:=by
  have ht:Tryz.prog.underlying 40=some (.slice (Tryz.prog.elem 40)):=by kernel_rfl
  have hs:(sizeOf (Tryz.prog.elem 40)).run Tryz.prog w=.ok 7 w:=by kernel_rfl
  rw [run_sliceAt_slice w 40 _ _ _ _ ht,run_slice_h w 40 p n c ht .i64 m (by omega) (by omega),hs]
  simp only [Result.andThen,Int.toNat_natCast]
  unfold sliced
  cases p with
  | none=>simp
  | some ad =>
    obtain ⟨b,o,s⟩:=ad
    simp [Addr.add]
 refine Runs.value (v:=.slice p m c) (w':=w) ?_ h
 simp only [execOp,hx,hy,Option.map_some,Option.map_none]
 go_simp
end
theorem en_eX2:Enters Tryz.prog 24:=fun args w=>by go_simp
theorem en_eS2:Enters Tryz.prog 30:=fun args w=>by go_simp
mutual
theorem eqX_rfl:∀x:Xp,eqX x x=true
 | ⟨k,s,v,o,ar,q⟩=>by
   rw [eqX,eqXs_rfl ar]
   simp [eqH]
theorem eqXs_rfl:∀l:List Xp,eqXs l l=true
 | []=>eqXs_nil []
 | x :: xs=>by rw [eqXs,eqX_rfl x,eqXs_rfl xs];rfl
end
mutual
theorem eqS_rfl:∀x:Sm,eqS x x=true
 | ⟨k,s,n,ar,b,e,q⟩=>by
   rw [eqS,eqXs_rfl ar,eqSz_rfl b,eqSz_rfl e]
   simp [eqHS]
theorem eqSz_rfl:∀l:List Sm,eqSz l l=true
 | []=>eqSz_nil []
 | x :: xs=>by rw [eqSz,eqS_rfl x,eqSz_rfl xs];rfl
end
theorem eqSs_rfl (l:List Sm):eqSs l l=true:=by rw [eqSs,eqSz_rfl];simp
theorem small_list (l:List Sm) (B:Nat→Prop) (W:World) (p:Option Addr) (c g:Nat) (hB:∀b,B b→b < W.heap.size) (hx:SL B W p c l) (hn:nSs l+mSs l≤1048576) (hb:Blk g [.string ⟨#[]⟩,.int .i64 0,.int .i64 0,.string ⟨#[]⟩,.string ⟨#[]⟩,.int .i64 0,.slice p l.length c,.int .i64 0] 42 W) :
 Calls Tryz.prog 12 #[.agg #[.slice none 0 0,.slice none 0 0,.slice none 0 0,.slice none 0 0,.slice none 0 0,.slice (some ⟨g,0,none⟩) 1 1]] W fun e w'=>e=.returned (.bool (smallP ⟨[],[],[],[],[],[⟨⟨#[]⟩,0,0,⟨#[]⟩,⟨#[]⟩,0,l,0⟩]⟩))∧Grew W w':=by
 refine small_any ⟨[],[],[],[],[],[⟨⟨#[]⟩,0,0,⟨#[]⟩,⟨#[]⟩,0,l,0⟩]⟩ (fun b=>B b∨b=g) W none none none none none (some ⟨g,0,none⟩) 0 0 0 0 0 1 (fun b hb'=>hb'.elim (hB b) (fun e=>e ▸ hb.lt)) ?_ (by rw [zT,zT];exact hn)
 have hn0:InB (fun b=>B b∨b=g) none 0:=fun h=>absurd h (by decide)
 refine⟨⟨hn0,rfl,[],Rw.nil _ _ _,rfl⟩,⟨hn0,rfl,[],Rw.nil _ _ _,rfl⟩,⟨hn0,rfl,[],Rw.nil _ _ _,rfl⟩,⟨hn0,rfl,[],Rw.nil _ _ _,rfl⟩,⟨hn0,rfl,[],Rw.nil _ _ _,rfl⟩,⟨fun _ ad had=>?_,[⟨⟨#[]⟩,0,0,⟨#[]⟩,⟨#[]⟩,0,p,l.length,c,0⟩],?_,?_⟩,?_⟩
 ·obtain rfl:=Option.some.inj had
  exact .inr rfl
 ·refine⟨⟨Nat.le_refl _,by decide,fun _=>⟨g,0,rfl,fun i x hi j v hv=>?_⟩⟩,fun h=>(by cases h)⟩
  match i,hi with
  | 0,hi =>
    obtain rfl:=Option.some.inj hi
    have h1:=hb.cell j
    rw [show (0+0 * 8+j:Nat)=j by omega,h1]
    exact hv
 ·rw [TsAt]
  exact⟨_,[],rfl,⟨p,c,rfl,⟨Nat.zero_le _,Nat.zero_le _,Nat.zero_le _⟩,hx.mono fun b hb'=>.inl hb'⟩,by rw [TsAt]⟩
 ·refine⟨fun c hc=>(by cases hc),fun c hc=>(by cases hc),fun c hc=>(by cases hc),fun c hc=>(by cases hc),fun c hc=>(by cases hc)⟩
theorem SsAt_take {B:Nat→Prop}{w:World}:∀{xs:List Sm}{L:List Sd}(m:Nat),SsAt B w xs L→SsAt B w (xs.take m) (L.take m)
 | _,_,0,_=>by rw [List.take_zero,List.take_zero,SsAt]
 | [],_,m+1,h=>by
   rw [SsAt] at h
   subst h
   rw [List.take_nil,List.take_nil,SsAt]
 | x :: xs,_,m+1,h=>by
   rw [SsAt] at h
   obtain ⟨d,L',rfl,h1,h2⟩:=h
   rw [List.take_succ_cons,List.take_succ_cons,SsAt]
   exact⟨d,L'.take m,rfl,h1,SsAt_take m h2⟩
theorem InN.sl {B:Nat→Prop}{w:World}{p:Option Addr}{n c:Nat}{l:List Sm}(h:InN SsAt 7 sdc B w p n c l) (m:Nat):SL (fun _=>True) w p c (l.take m):=by
 obtain ⟨h1,L,h2,h3⟩:=h
 refine⟨fun _ _ _=>trivial,L.take m,?_,SsAt.keep (fun _ _=>trivial) (fun _ _ _=>rfl) (SsAt_take m h3)⟩
 have hl:(L.take m).length≤L.length:=by rw [List.length_take];omega
 refine⟨⟨Nat.le_trans hl h2.cap,h2.max,fun h0=>?_⟩,h2.bare⟩
 obtain ⟨b,o,e,hc⟩:=h2.rd.cells (by omega)
 refine⟨b,o,e,fun i x hi j v hv=>hc i x ?_ j v hv⟩
 rw [List.getElem?_take] at hi
 split at hi
 ·exact hi
 ·cases hi
set_option maxHeartbeats 16000000 in
theorem traverses_walk (l:List Sm) (a:Int) (B:Nat→Prop) (w:World) (p:Option Addr) (c:Nat) (hB:∀b,B b→b < w.heap.size) (hx:SL B w p c l) (hE:Env w) (hn:nSs l+mSs l≤1048576) (ha:0≤a∧a≤255) :
 Calls Tryz.prog 7 #[.slice p l.length c,.int .u8 a] w fun e w'=>e=.returned (.bool true)∧Grew w w':=by
 obtain ⟨st,rfl⟩:∃st:Nat,a=st:=⟨a.toNat,by omega⟩
 have hst:st≤255:=by omega
 have hcap:=hx.cap.1
 have hmax:=hx.cap.2.1
 have HBB:=zh hB
 have HE:=zh hE
 have HX:=zh hx
 have HN:=zh hn
 have HAW:=zh (fun W (hW:Grew w W)=>awake_any W (HE.out.grew hW))
 obtain ⟨b,hb⟩:∃b,smallP ⟨[],[],[],[],[],[⟨⟨#[]⟩,0,0,⟨#[]⟩,⟨#[]⟩,0,l,0⟩]⟩=b:=⟨_,rfl⟩
 have HSM:=zh (fun W g (hW:Grew w W) hg=>small_list l B W p c g (fun b hb=>Nat.lt_of_lt_of_le (hB b hb) hW.sz) (hx.kept hW) hn hg)
 rw [hb] at HSM
 have HG1:=zh (Grew.refl w)
 clear hb hB hx hE hn
 cases b with
 | false =>
   go_enter Tryz.func7,Tryz.ntmps7
   go_wp2_with (first
    | (go_at_call 11;(with_reducible refine(HAW.out _ HG1.out).mono ?_);rintro e w1 ⟨rfl,g⟩;have HG2:=zh g;clear g)
    | (go_at_call 12;(with_reducible refine(HSM.out _ _ (HG2.out.alloc _) (Blk.new w1 [.string ⟨#[]⟩,.int .i64 0,.int .i64 0,.string ⟨#[]⟩,.string ⟨#[]⟩,.int .i64 0,.slice p l.length c,.int .i64 0] _)).mono ?_);rintro e w2 ⟨rfl,g⟩;have HG3:=zh ((HG2.out.alloc _).trans g);clear g))
   go_ret
   exact⟨rfl,HG3.out⟩
 | true =>
   go_enter Tryz.func7,Tryz.ntmps7
   go_upto_region 7 with (first
    | (go_at_call 11;(with_reducible refine(HAW.out _ HG1.out).mono ?_);rintro e w1 ⟨rfl,g⟩;have HG2:=zh g;clear g)
    | (go_at_call 12;(with_reducible refine(HSM.out _ _ (HG2.out.alloc _) (Blk.new w1 [.string ⟨#[]⟩,.int .i64 0,.int .i64 0,.string ⟨#[]⟩,.string ⟨#[]⟩,.int .i64 0,.slice p l.length c,.int .i64 0] _)).mono ?_);rintro e V ⟨rfl,g⟩;have HGV:=zh ((HG2.out.alloc _).trans g);clear g))
   obtain ⟨most,hmost⟩:∃most,most=st+1:=⟨_,rfl⟩
   have hmi:((st:Int)+1)=(most:Int):=by omega
   rw [hmi]
   have HMO:Hid (1≤most∧most≤256):=zh (by omega)
   have hM0:Blk V.heap.size [.int .i64 (most:Int)] 3 (V.alloc (.cells #[.int .i64 (most:Int)] 3)):=Blk.new V [.int .i64 (most:Int)] _
   have hgA:Grew V (V.alloc (.cells #[.int .i64 (most:Int)] 3)):=(Grew.refl _).alloc _
   have hzA:(V.alloc (.cells #[.int .i64 (most:Int)] 3)).heap.size=V.heap.size+1:=by simp
   generalize V.alloc (Obj.cells #[Value.int IntKind.i64 (most:Int)] 3)=WA at hM0 hgA hzA ⊢
   have hS0:Blk WA.heap.size [.slice none 0 0] 40 (WA.alloc (.cells #[.slice none 0 0] 40)):=Blk.new WA [.slice none 0 0] _
   have hgB:Grew WA (WA.alloc (.cells #[.slice none 0 0] 40)):=(Grew.refl _).alloc _
   rw [← hzA]
   generalize WA.alloc (Obj.cells #[Value.slice none 0 0] 40)=WB at hS0 hgB ⊢
   have HWB:=zh ((HGV.out.trans hgA).trans hgB)
   have HWA:=zh (HGV.out.trans hgA)
   have HAB:=zh hgB
   have HM1:=zh (hM0.grew hgB)
   have HS1:=zh hS0
   obtain ⟨M,hM⟩:∃M,M=V.heap.size:=⟨_,rfl⟩
   rw [← hM] at HM1 hzA ⊢
   obtain ⟨S,hS⟩:∃S,S=WA.heap.size:=⟨_,rfl⟩
   rw [← hS] at HS1 hzA ⊢
   have HSM2:Hid (WA.heap.size≤S∧S≠M):=zh (by omega)
   clear hM0 hgA hzA hS0 hgB hM hS hmost hmi
   have hn2:=HN.out
   have HST:=zh (fun W (hW:Grew w W)=>stmtsI_any l B W p c (HX.out.kept hW) (by omega) (by omega))
   have HEX:=zh (fun W (hW:Grew w W)=>exprsI_any l B W p c (HX.out.kept hW) (by omega) (by omega))
   have HRS:=zh (fun W (hW:Grew w W)=>stms_any _ l (Nat.lt_succ_self _) B W p c (fun b hb=>Nat.lt_of_lt_of_le (HBB.out b hb) hW.sz) (HX.out.kept hW) (by omega))
   have HRX:=zh (fun W (hW:Grew w W)=>exprs_any l B W p c (fun b hb=>Nat.lt_of_lt_of_le (HBB.out b hb) hW.sz) (HX.out.kept hW) (by omega) (by omega))
   clear hn2
   go_upto_region 8 with (first
    | (go_at_call 25;(with_reducible refine(HST.out _ HWB.out).mono ?_);rintro e w8 ⟨K,pk,ck,a1,b1,rfl,hK,hsl,hKs,hg⟩;have HCS:=zh (traS_any l most HMO.out.1 (by have:=HMO.out.2;omega) K S M pk ck _ WA w8 hK hsl (by have:=HN.out;omega) (by have:=HN.out;omega) (HAB.out.trans hg) HSM2.out (HS1.out.grew hg) (HM1.out.grew hg));clear hK hsl hKs hg)
    | (go_at_call 77;(with_reducible refine(HCS.out).mono ?_);rintro e w9 ⟨⟨v9,rfl⟩,P9,hT9⟩;obtain ⟨B9,p9,n9,c9,hS9,hI9,hB9,hM9,hg9⟩:=hT9.inN hangsS;have HS9:=zh hS9;have HI9:=zh hI9;have HB9:=zh hB9;have HM9:=zh hM9;have HG9:=zh (HWA.out.trans hg9);clear hS9 hI9 hB9 hM9 hg9 hT9))
   clear HCS
   go_upto_region 9 with fail
   have hX0:Blk w9.heap.size [.slice none 0 0] 33 (w9.alloc (.cells #[.slice none 0 0] 33)):=Blk.new w9 [.slice none 0 0] _
   have hgC:Grew w9 (w9.alloc (.cells #[.slice none 0 0] 33)):=(Grew.refl _).alloc _
   generalize w9.alloc (Obj.cells #[Value.slice none 0 0] 33)=WC at hX0 hgC ⊢
   obtain ⟨X,hX⟩:∃X,X=w9.heap.size:=⟨_,rfl⟩
   have hXM:w9.heap.size≤X∧X≠M:=by have:=HM9.out.lt;omega
   rw [← hX] at hX0 ⊢
   have HXM:=zh hXM
   have HX0:=zh hX0
   have HGC:=zh hgC
   have HWC:=zh (HG9.out.trans hgC)
   clear hX0 hgC hXM hX
   go_upto_region 10 with (first
    | (go_at_call 27;(with_reducible refine(HEX.out _ HWC.out).mono ?_);rintro e w11 ⟨E1,K1,pk1,ck1,a2,b2,rfl,hE1,hK1,hsl,hg⟩;have HCX:=zh (traX_any l most HMO.out.1 (by have:=HMO.out.2;omega) E1 K1 X M pk1 ck1 _ w9 w11 hE1 hK1 hsl (by have:=HN.out;omega) (by have:=HN.out;omega) (HGC.out.trans hg) HXM.out (HX0.out.grew hg) (HM9.out.grew (HGC.out.trans hg)));clear hE1 hK1 hsl hg)
    | (go_at_call 79;(with_reducible refine(HCX.out).mono ?_);rintro e w12 ⟨⟨v12,rfl⟩,P12,hT12⟩;obtain ⟨B12,p12,n12,c12,hX12,hI12,hB12,hM12,hg12⟩:=hT12.inN hangsX;have HX12:=zh hX12;have HI12:=zh hI12;have HB12:=zh hB12;have HM12:=zh hM12;have HG12:=zh hg12;have HW12:=zh (HG9.out.trans hg12);clear hX12 hI12 hB12 hM12 hg12 hT12))
   clear HCX HX0
   go_upto_region 11 with (first
    | (go_at_call 29;(with_reducible refine(HRS.out _ HW12.out).mono ?_);rintro e w13 ⟨p13,n13,c13,rfl,ho13,g13⟩;have HO13:=zh (ho13.inN hangsS);have HG13:=zh g13;clear ho13 g13)
    | (go_at_call 22;(with_reducible refine(HRX.out _ (HW12.out.trans HG13.out)).mono ?_);rintro e Y ⟨p14,n14,c14,rfl,ho14,g14⟩;have HO14:=zh (ho14.inN hangsX);have HG14:=zh g14;clear ho14 g14))
   have HYW:=zh ((HG12.out.trans HG13.out).trans HG14.out)
   have HYS:=zh (HS9.out.grew HYW.out)
   have HYI:=zh (HI9.out.kept hangsS HYW.out)
   have HYX:=zh (HX12.out.grew (HG13.out.trans HG14.out))
   have HYJ:=zh (HI12.out.kept hangsX (HG13.out.trans HG14.out))
   have HYM:=zh (HM12.out.grew (HG13.out.trans HG14.out))
   have HYQ:=zh (HO13.out.kept hangsS HG14.out)
   have HGY:=zh (HG9.out.trans HYW.out)
   clear HS9 HI9 HB9 HM9 HX12 HI12 HM12 HB12 HO13 HG13 HW12 HG12 HYW HRS HRX HST HEX HSM HAW HE HX HBB
   have hn9:=HYI.out.1
   have hn12:=HYJ.out.1
   have hn13:=HYQ.out.1
   have hn14:=HO14.out.1
   rw [List.length_take] at hn9 hn12
   rw [← hn13] at hn9
   rw [← hn14] at hn12
   have HCM:=zh (And.intro hn9 (And.intro hn12 (And.intro hn13 hn14)))
   clear hn13 hn14
   have cS:=HYS.out.cell 0
   have lS:=HYS.out.lt
   have cX:=HYX.out.cell 0
   have lX:=HYX.out.lt
   have cM:=HYM.out.cell 0
   have lM:=HYM.out.lt
   simp only [zz7] at cS cX cM
   go_upto_region 13 with fail
   have hc9:=(HYI.out.cap hangsS)
   have hc12:=(HYJ.out.cap hangsX)
   have hc13:=(HYQ.out.cap hangsS)
   have hc14:=(HO14.out.cap hangsX)
   have hi9:n9≤n13∧n9≤most∧n12≤n14∧n12≤most:=by omega
   clear hn9 hn12
   go_wp2
   go_loopg [10,11,53] n12 (fun gg v10_ v11_ iv wr=>∃(j:Nat),iv=.int .i64 (j:Int)∧j≤n12∧gg=n12 - j∧Hid (Grew Y wr))
   case atStart=>exact⟨0,rfl,Nat.zero_le _,rfl,zh (Grew.refl _)⟩
   case round =>
    obtain ⟨j,rfl,hj,rfl,HG⟩:=hrel
    by_cases hlt:j < n12
    ·have hl1:j < ((expL l).take most).length:=by have h1:=HCM.out;rw [List.length_take];omega
     have hl2:j < (expL l).length:=by have h1:=HCM.out;omega
     have HLT:=zh (Nat.succ_le_of_lt hlt)
     obtain ⟨b1,o1,pa1,ca1,rfl,hs1,hx1,hcc1⟩:=HYJ.out.getX j hl1
     obtain ⟨b2,o2,pa2,ca2,rfl,hs2,hx2,hcc2⟩:=HO14.out.getX j hl2
     have hge:((expL l).take most)[j]=(expL l)[j]:=List.getElem_take ..
     replace hx1:=hge ▸ hx1
     replace hcc1:=hge ▸ hcc1
     clear hge hs1 hs2
     generalize (expL l)[j]=xx at hx1 hcc1 hx2 hcc2
     obtain ⟨kx,sx,vx,ox,rx,qx⟩:=xx
     replace hcc1:∀i_ u_,(xdc ⟨kx,sx,vx,ox,pa1,rx.length,ca1,qx⟩)[i_]?=some u_→Y.cell? ⟨b1,o1+j * 6+i_,none⟩=some u_:=hcc1
     replace hcc2:∀i_ u_,(xdc ⟨kx,sx,vx,ox,pa2,rx.length,ca2,qx⟩)[i_]?=some u_→Y.cell? ⟨b2,o2+j * 6+i_,none⟩=some u_:=hcc2
     have q0:wr.cell? ⟨b1,o1+j * 6,none⟩=some (.int .i64 kx):=Atv.kept (hcc1 0 _ rfl) HG.out
     have q1:wr.cell? ⟨b1,o1+j * 6+1,none⟩=some (.string sx):=Atv.kept (hcc1 1 _ rfl) HG.out
     have q2:wr.cell? ⟨b1,o1+j * 6+2,none⟩=some (.int .i16 vx):=Atv.kept (hcc1 2 _ rfl) HG.out
     have q3:wr.cell? ⟨b1,o1+j * 6+3,none⟩=some (.int .i64 ox):=Atv.kept (hcc1 3 _ rfl) HG.out
     have q4:wr.cell? ⟨b1,o1+j * 6+4,none⟩=some (.slice pa1 rx.length ca1):=Atv.kept (hcc1 4 _ rfl) HG.out
     have q5:wr.cell? ⟨b1,o1+j * 6+5,none⟩=some (.int .i64 qx):=Atv.kept (hcc1 5 _ rfl) HG.out
     have hcx:rx.length≤ca1∧ca1≤9223372036854775807:=⟨hx1.cap.1,hx1.cap.2.1⟩
     clear hcc1
     go_upto_region 16 with fail
     have hb1:Blk wr.heap.size [.int .i64 kx,.string sx,.int .i16 vx,.int .i64 ox,.slice pa1 rx.length ca1,.int .i64 qx] 35 (wr.alloc (Obj.cells #[.int .i64 kx,.string sx,.int .i16 vx,.int .i64 ox,.slice pa1 rx.length ca1,.int .i64 qx] 35)):=Blk.new wr _ _
     have hg1:Grew Y (wr.alloc (Obj.cells #[.int .i64 kx,.string sx,.int .i16 vx,.int .i64 ox,.slice pa1 rx.length ca1,.int .i64 qx] 35)):=HG.out.alloc _
     generalize (wr.alloc (Obj.cells #[.int .i64 kx,.string sx,.int .i16 vx,.int .i64 ox,.slice pa1 rx.length ca1,.int .i64 qx] 35))=V1 at hb1 hg1 ⊢
     generalize wr.heap.size=T1 at hb1 ⊢
     have HGN:=zh hg1
     have f0:Atv ⟨T1,0,none⟩ (.int .i64 kx) V1.drew:=(hb1.grew (Grew.refl _).drw).atv 0 rfl
     have f1:Atv ⟨T1,1,none⟩ (.string sx) V1.drew:=(hb1.grew (Grew.refl _).drw).atv 1 rfl
     have f2:Atv ⟨T1,2,none⟩ (.int .i16 vx) V1.drew:=(hb1.grew (Grew.refl _).drw).atv 2 rfl
     have f3:Atv ⟨T1,3,none⟩ (.int .i64 ox) V1.drew:=(hb1.grew (Grew.refl _).drw).atv 3 rfl
     have f4:Atv ⟨T1,4,none⟩ (.slice pa1 rx.length ca1) V1.drew:=(hb1.grew (Grew.refl _).drw).atv 4 rfl
     have f5:Atv ⟨T1,5,none⟩ (.int .i64 qx) V1.drew:=(hb1.grew (Grew.refl _).drw).atv 5 rfl
     have g0:Atv ⟨b2,o2+j * 6,none⟩ (.int .i64 kx) V1.drew:=Atv.kept (hcc2 0 _ rfl) (hg1.trans (Grew.refl _).drw)
     have g1:Atv ⟨b2,o2+j * 6+1,none⟩ (.string sx) V1.drew:=Atv.kept (hcc2 1 _ rfl) (hg1.trans (Grew.refl _).drw)
     have g2:Atv ⟨b2,o2+j * 6+2,none⟩ (.int .i16 vx) V1.drew:=Atv.kept (hcc2 2 _ rfl) (hg1.trans (Grew.refl _).drw)
     have g3:Atv ⟨b2,o2+j * 6+3,none⟩ (.int .i64 ox) V1.drew:=Atv.kept (hcc2 3 _ rfl) (hg1.trans (Grew.refl _).drw)
     have g4:Atv ⟨b2,o2+j * 6+4,none⟩ (.slice pa2 rx.length ca2) V1.drew:=Atv.kept (hcc2 4 _ rfl) (hg1.trans (Grew.refl _).drw)
     have g5:Atv ⟨b2,o2+j * 6+5,none⟩ (.int .i64 qx) V1.drew:=Atv.kept (hcc2 5 _ rfl) (hg1.trans (Grew.refl _).drw)
     have HIR:Hid (∀W,Grew V1 W→Calls Tryz.prog 24 #[xv kx sx vx ox pa1 rx.length ca1 qx,xv kx sx vx ox pa2 rx.length ca2 qx] W fun e w'=>e=.returned (.bool true)∧Grew W w'):=zh (fun W hW=>by
      have h_:=eqx_any ⟨kx,sx,vx,ox,rx,qx⟩ ⟨kx,sx,vx,ox,rx,qx⟩ B12 B W pa1 pa2 ca1 ca2 (hx1.kept (hg1.trans hW)) (hx2.kept (hg1.trans hW))
      rw [eqX_rfl] at h_
      exact h_)
     clear hcc2 hx1 hx2 hb1 hg1 HG q0 q1 q2 q3 q4 q5
     refine wp_posts [some 58,some 59,some 60,some 61,some 62,some 63,some 64,some 65,some 66,some 67,some 68,some 69,some 70,some 71,some 72,some 73,some 74] (Zfg (Zfe (Zfd (Zfb (Zte (Zta (Zfc (Zfb (Zfa []))))))))) [fun v _=>v=.agg #[.int .i64 (kx),.string sx,.int .i16 (vx),.int .i64 (ox),.slice pa1 rx.length ca1,.int .i64 (qx)],fun v _=>v=.slice (some ⟨b2,o2,none⟩) (n14) (c14),fun v _=>v=.int .i64 (((j:Nat):Int)),fun v _=>v=.pointer (some ⟨b2,o2+j * 6,none⟩),fun v _=>v=.agg #[.int .i64 (kx),.string sx,.int .i16 (vx),.int .i64 (ox),.slice pa2 rx.length ca2,.int .i64 (qx)],fun v _=>v=.bool (true),fun v _=>v=.bool (false),fun v _=>v=.bool (false),fun v _=>v=.pointer (some ⟨T1,5,none⟩),fun v _=>v=.int .i64 (qx),fun v _=>v=.slice (some ⟨b2,o2,none⟩) (n14) (c14),fun v _=>v=.int .i64 (((j:Nat):Int)),fun v _=>v=.pointer (some ⟨b2,o2+j * 6,none⟩),fun v _=>v=.pointer (some ⟨b2,o2+j * 6+5,none⟩),fun v _=>v=.int .i64 (qx),fun v _=>v=.bool (false),fun v _=>v=.bool (false)] (by kernel_rfl) (by kernel_rfl) rfl ?_ ⟨?_,?_,?_,?_,?_,?_,?_,?_,?_,?_,?_,?_,?_,?_,?_,?_,?_,trivial⟩ ?_
     ·exact⟨Zi,Zi,Zi,Zi,Zi,Zi,Zi,Zi,Zi,Zi,Zi,Zi,Zi,Zi,Zi,Zi,Zi,trivial⟩
     ·intro u w hR hd;exact rn_ld_35 (ev rfl) (f0.kept hR) (f1.kept hR) (f2.kept hR) (f3.kept hR) (f4.kept hR) (f5.kept hR) Zr
     ·intro u w hR hd;exact runs_mv (ev rfl) Zr
     ·intro u w hR hd;exact runs_mv (ev rfl) Zr
     ·intro u w hR hd;exact rn_idx_33 (j) (ev (hd.1 rfl)) (ev (hd.2.1 rfl)) (by omega) Zr
     ·intro u w hR hd;exact rn_ld_35 (ev (hd.1 rfl)) (g0.kept hR) (g1.kept hR) (g2.kept hR) (g3.kept hR) (g4.kept hR) (g5.kept hR) Zr
     ·intro u w hR hd;exact runs_c2 en_eX2 (ev (hd.1 rfl)) (ev (hd.2.1 rfl)) (callp (fun _ e=>e) (HIR.out _ ((Grew.refl _).drw.trans hR)))
     ·intro u w hR hd;exact runs_nt (ev (hd.1 rfl)) Zr
     ·intro u w hR hd;exact runs_mv (ev (hd.1 rfl)) Zr
     ·intro u w hR hd;exact⟨fun _=>rn_fld_35_5 (ev rfl) Zr,fun hn=>absurd (hd.1 rfl) hn⟩
     ·intro u w hR hd;exact⟨fun _=>rn_ld_3 (ev (hd.1 rfl)) (f5.kept hR) Zr,fun hn=>absurd (hd.2.1 rfl) hn⟩
     ·intro u w hR hd;exact⟨fun _=>runs_mv (ev rfl) Zr,fun hn=>absurd (hd.1 rfl) hn⟩
     ·intro u w hR hd;exact⟨fun _=>runs_mv (ev rfl) Zr,fun hn=>absurd (hd.1 rfl) hn⟩
     ·intro u w hR hd;exact⟨fun _=>rn_idx_33 (j) (ev (hd.1 rfl)) (ev (hd.2.1 rfl)) (by omega) Zr,fun hn=>absurd (hd.2.2.1 rfl) hn⟩
     ·intro u w hR hd;exact⟨fun _=>rn_fld_35_5 (ev (hd.1 rfl)) Zr,fun hn=>absurd (hd.2.1 rfl) hn⟩
     ·intro u w hR hd;exact⟨fun _=>rn_ld_3 (ev (hd.1 rfl)) (g5.kept hR) Zr,fun hn=>absurd (hd.2.1 rfl) hn⟩
     ·intro u w hR hd;exact⟨fun _=>rn_neq_3 (ev (hd.1 rfl)) (ev (hd.2.1 rfl)) ⟨Grew.refl _,(congrArg Value.bool (by simp))⟩,fun hn=>absurd (hd.2.2.1 rfl) hn⟩
     ·intro u w hR hd;exact runs_or2 (ev (hd.1 rfl)) (fun hb=>ev ((hd.2.1 rfl))) Zr
     ·intro u w4 hR hh
      have he:u 74=.bool false:=hh 16 (by decide)
      have HGj:=zh (HGN.out.trans ((Grew.refl V1).drw.trans hR))
      simp only [mixA,mixL,zz9,zz0,he]
      clear hh he hR f0 f1 f2 f3 f4 f5 g0 g1 g2 g3 g4 g5 HIR HGN
      go_wp2
      go_roundg (n12 - (j+1))
      case measure=>have:=HLT.out;omega
      case rel=>exact⟨j+1,by go_num,HLT.out,rfl,HGj⟩
    ·obtain rfl:j=n12:=by omega
     have HIS:Hid (∀W,Grew wr W→Calls Tryz.prog 30 #[.slice p9 n9 c9,.slice p13 n9 c13] W fun e w'=>e=.returned (.bool true)∧Grew W w'):=zh (fun W hW=>by
      have h1:=(HYI.out.sl most).kept (HG.out.trans hW)
      rw [List.take_take,Nat.min_self] at h1
      have h2:=(HYQ.out.sl most).kept (HG.out.trans hW)
      have h_:=eqs_any _ _ _ (Nat.lt_succ_self _) _ _ W p9 p13 c9 c13 h1 h2
      rw [eqSs_rfl,← HYI.out.1] at h_
      exact h_)
     have dS:Atv ⟨S,0,none⟩ (.slice p9 n9 c9) wr.drew:=(HYS.out.grew (HG.out.trans (Grew.refl _).drw)).atv 0 rfl
     have HGE:=zh (HGY.out.trans HG.out)
     have hcm9:n9≤c13:=by omega
     clear HG HYS HYI HYQ HYX HYJ HYM HO14 HGY HCM HMO HN HXM HSM2
     go_upto_region 19 with fail
     refine wp_posts [some 76,some 77,some 78,some 79,some 80,some 81,some 4] (Zfc (Zta (Zfg (Zfg (Zfc (Zfb (Zfa (Ztc (Ztb []))))))))) [fun v _=>v=.slice p9 n9 c9,fun v _=>v=.slice p13 n13 c13,fun v _=>v=.slice p9 n9 c9,fun v _=>v=.int .i64 ((n9:Nat):Int),fun v _=>v=.slice p13 n9 c13,fun v _=>v=.bool (true),fun v _=>v=.bool (true)] (by kernel_rfl) (by kernel_rfl) rfl ?_ ⟨?_,?_,?_,?_,?_,?_,?_,trivial⟩ ?_
     ·exact⟨Zi,Zi,Zi,Zi,Zi,Zi,Zi,trivial⟩
     ·intro u w hR hd;exact rn_ld_40 (ev rfl) (dS.kept hR) Zr
     ·intro u w hR hd;exact runs_mv (ev rfl) Zr
     ·intro u w hR hd;exact rn_ld_40 (ev rfl) (dS.kept hR) Zr
     ·intro u w hR hd;exact rn_len_40 (ev (hd.1 rfl)) Zr
     ·intro u w hR hd;exact rn_cut_40 (ev (hd.1 rfl)) (ev (hd.2.1 rfl)) (by omega) Zr
     ·intro u w hR hd;exact runs_c2 en_eS2 (ev (hd.1 rfl)) (ev (hd.2.1 rfl)) (callp (fun _ e=>e) (HIS.out _ ((Grew.refl _).drw.trans hR)))
     ·intro u w hR hd;exact runs_mva (ev (hd.1 rfl)) Zr
     ·intro u w4 hR hh
      have he:u 4=.bool true:=hh 6 (by decide)
      have HGF:=zh (HGE.out.trans ((Grew.refl wr).drw.trans hR))
      simp only [mixA,mixL,zz9,zz0,he]
      clear hh he hR dS HIS HGE
      go_wp2
      go_ret
      exact⟨rfl,HGF.out⟩
end Go.Proofs.YtcknpcbkofgdoaaGreatDoor
