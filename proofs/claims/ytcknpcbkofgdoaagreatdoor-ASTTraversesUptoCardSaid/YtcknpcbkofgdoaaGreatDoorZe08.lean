/-
  LAYER 16 (ast), THE PROGRAM: trigger.
  LAYER 16 (ast), THE PROGRAM: global.
  LAYER 16 (ast), THE PROGRAM: body, compound.
  LAYER 16 (ast), THE PROGRAM: choice.
  LAYER 16 (ast), THE PROGRAM: statement, some of its kinds.
  LAYER 16 (ast), THE PROGRAM: statement, some of its kinds.
-/
import Derived.Test.YtcknpcbkofgdoaaGreatDoorZeShort
import Derived.Test.YtcknpcbkofgdoaaGreatDoorZe07
import Derived.Test.YtcknpcbkofgdoaaGreatDoorZe02
import Derived.Test.YtcknpcbkofgdoaaGreatDoorZe00
import Derived.Deep.LoopGhost
import Derived.Deep.Cut
import Derived.Shelf.Abstract
import Derived.Test.YtcknpcbkofgdoaaGreatDoorZe01
namespace Go.Proofs.YtcknpcbkofgdoaaGreatDoor
open Go Go.RowKit Go.IntWalk
set_option linter.unusedSimpArgs false
set_option linter.unusedVariables false
set_option maxRecDepth 8000
section
variable {dst:Option Tmp}{ty:TypeId}{pos:String}{after:Array Edge}{g:Option (Nat × Bool)}{a:Act}{w:World}{T:Value→World→Prop}
end
def trT (i:Int) (h m:List UInt8) (n:Int):List UInt8:=if i=0 then ((((([32,111,110,32])++h)++[40])++m)++[41])++optT [119,105,116,104,105,110] n else [32,101,118,101,114,121,32]++numZ i
set_option maxHeartbeats 4000000 in
theorem trigP_any (s:ByteArray) (i d:Int) (h m:ByteArray) (n:Int) (bp:Option Addr) (bn bc:Nat) (q:Int) (w:World) (hcap:bn≤bc) (hmax:bc≤9223372036854775807) (hh:h.size≤1048576) (hm:m.size≤1048576) (hi:0≤i∧i≤32767) (hn:0≤n∧n≤32767) (hE:Env w) :
 Calls Tryz.prog 42 #[tv s i d h m n bp bn bc q] w fun e w'=>e=.returned (.string ⟨(trT i h.data.toList m.data.toList n).toArray⟩)∧Grew w w':=by
 by_cases h0:i=0
 ·subst h0
  obtain ⟨hl,rfl⟩:=str_eta h
  obtain ⟨ml,rfl⟩:=str_eta m
  replace hh:hl.length≤1048576:=hh
  replace hm:ml.length≤1048576:=hm
  rw [trT,if_pos rfl]
  show Calls Tryz.prog 42 #[.agg #[.string s,.int .i64 0,.int .i64 d,.string ⟨hl.toArray⟩,.string ⟨ml.toArray⟩,.int .i64 n,.slice bp bn bc,.int .i64 q]] w fun e w'=>e=.returned (.string ⟨(((((([32,111,110,32])++hl)++[40])++ml)++[41])++optT [119,105,116,104,105,110] n).toArray⟩)∧Grew w w'
  have hol:=optT_len [119,105,116,104,105,110] n hn
  simp only [List.length_cons,List.length_nil] at hol
  have HOP:Hid (∀W,Grew w W→Calls Tryz.prog 43 #[.string ⟨#[119,105,116,104,105,110]⟩,.int .i64 n] W fun e w'=>e=.returned (.string ⟨(optT [119,105,116,104,105,110] n).toArray⟩)∧Grew W w') :=
   zh (fun W hW=>optP_any ⟨#[119,105,116,104,105,110]⟩ (by decide) n hn W (hE.grew hW))
  generalize optT [119,105,116,104,105,110] n=OT at HOP hol ⊢
  clear hE hi
  go_enter Tryz.func42,Tryz.ntmps42
  go_upto_region 3 with fail
  have hb1:Blk w.heap.size [.string s,.int .i64 0,.int .i64 d,.string ⟨hl.toArray⟩,.string ⟨ml.toArray⟩,.int .i64 n,.slice bp bn bc,.int .i64 q] 42 (w.alloc (Obj.cells #[.string s,.int .i64 0,.int .i64 d,.string ⟨hl.toArray⟩,.string ⟨ml.toArray⟩,.int .i64 n,.slice bp bn bc,.int .i64 q] 42)):=Blk.new w _ _
  have hgV:Grew w (w.alloc (Obj.cells #[.string s,.int .i64 0,.int .i64 d,.string ⟨hl.toArray⟩,.string ⟨ml.toArray⟩,.int .i64 n,.slice bp bn bc,.int .i64 q] 42)):=(Grew.refl w).alloc _
  generalize (w.alloc (Obj.cells #[.string s,.int .i64 0,.int .i64 d,.string ⟨hl.toArray⟩,.string ⟨ml.toArray⟩,.int .i64 n,.slice bp bn bc,.int .i64 q] 42))=V at hb1 hgV ⊢
  generalize w.heap.size=T at hb1 ⊢
  have HGV:=zh hgV
  have d0:Atv ⟨T,0,none⟩ (.string s) V.drew:=(hb1.grew (Grew.refl _).drw).atv 0 rfl
  have d1:Atv ⟨T,1,none⟩ (.int .i64 0) V.drew:=(hb1.grew (Grew.refl _).drw).atv 1 rfl
  have d2:Atv ⟨T,2,none⟩ (.int .i64 d) V.drew:=(hb1.grew (Grew.refl _).drw).atv 2 rfl
  have d3:Atv ⟨T,3,none⟩ (.string ⟨hl.toArray⟩) V.drew:=(hb1.grew (Grew.refl _).drw).atv 3 rfl
  have d4:Atv ⟨T,4,none⟩ (.string ⟨ml.toArray⟩) V.drew:=(hb1.grew (Grew.refl _).drw).atv 4 rfl
  have d5:Atv ⟨T,5,none⟩ (.int .i64 n) V.drew:=(hb1.grew (Grew.refl _).drw).atv 5 rfl
  have d6:Atv ⟨T,6,none⟩ (.slice bp bn bc) V.drew:=(hb1.grew (Grew.refl _).drw).atv 6 rfl
  have d7:Atv ⟨T,7,none⟩ (.int .i64 q) V.drew:=(hb1.grew (Grew.refl _).drw).atv 7 rfl
  clear hb1 hgV
  refine wp_posts [some 10,some 11,some 12,some 13,some 14,some 15,some 16,some 17,some 18,some 19,some 20,some 21,some 2] (Zfb (Zta (Zfc (Zfb (Zfa (Ztd (Ztc []))))))) [fun v _=>v=.pointer (some ⟨T,3,none⟩),fun v _=>v=.string ⟨(hl).toArray⟩,fun v _=>v=.string ⟨(([32,111,110,32])++(hl)).toArray⟩,fun v _=>v=.string ⟨((([32,111,110,32])++(hl))++([40])).toArray⟩,fun v _=>v=.pointer (some ⟨T,4,none⟩),fun v _=>v=.string ⟨(ml).toArray⟩,fun v _=>v=.string ⟨(((([32,111,110,32])++(hl))++([40]))++(ml)).toArray⟩,fun v _=>v=.string ⟨((((([32,111,110,32])++(hl))++([40]))++(ml))++([41])).toArray⟩,fun v _=>v=.pointer (some ⟨T,5,none⟩),fun v _=>v=.int .i64 (n),fun v _=>v=.string ⟨(OT).toArray⟩,fun v _=>v=.string ⟨(((((([32,111,110,32])++(hl))++([40]))++(ml))++([41]))++(OT)).toArray⟩,fun v _=>v=.string ⟨(((((([32,111,110,32])++(hl))++([40]))++(ml))++([41]))++(OT)).toArray⟩] (by kernel_rfl) (by kernel_rfl) rfl ?_ ⟨?_,?_,?_,?_,?_,?_,?_,?_,?_,?_,?_,?_,?_,trivial⟩ ?_
  ·exact⟨Zi,Zi,Zi,Zi,Zi,Zi,Zi,Zi,Zi,Zi,Zi,Zi,Zi,trivial⟩
  ·intro u w hR hd;exact rn_fld_42_3 (ev rfl) Zr
  ·intro u w hR hd;exact rn_ld_9 (ev (hd.1 rfl)) (d3.kept hR) Zr
  ·intro u w hR hd;exact rn_cat_9 rfl (ev (hd.1 rfl)) (by first | omega | (simp <;> omega)) Zr
  ·intro u w hR hd;exact rn_cat_9 (ev (hd.1 rfl)) rfl (by first | omega | (simp <;> omega)) Zr
  ·intro u w hR hd;exact rn_fld_42_4 (ev rfl) Zr
  ·intro u w hR hd;exact rn_ld_9 (ev (hd.1 rfl)) (d4.kept hR) Zr
  ·intro u w hR hd;exact rn_cat_9 (ev (hd.1 rfl)) (ev (hd.2.1 rfl)) (by first | omega | (simp <;> omega)) Zr
  ·intro u w hR hd;exact rn_cat_9 (ev (hd.1 rfl)) rfl (by first | omega | (simp <;> omega)) Zr
  ·intro u w hR hd;exact rn_fld_42_5 (ev rfl) Zr
  ·intro u w hR hd;exact rn_ld_3 (ev (hd.1 rfl)) (d5.kept hR) Zr
  ·intro u w hR hd;exact runs_c2 en_op rfl (ev (hd.1 rfl)) (callp (fun _ e=>e) (HOP.out _ (HGV.out.trans ((Grew.refl _).drw.trans hR))))
  ·intro u w hR hd;exact rn_cat_9 (ev (hd.1 rfl)) (ev (hd.2.1 rfl)) (by first | omega | (simp <;> omega)) Zr
  ·intro u w hR hd;exact runs_mva (ev (hd.1 rfl)) Zr
  ·intro u w4 hR hh_
   have he:u 2=.string ⟨(((((([32,111,110,32])++(hl))++([40]))++(ml))++([41]))++(OT)).toArray⟩:=hh_ 12 (by decide)
   simp only [mixA,mixL,zz9,zz0,he]
   have HG4:Hid (Grew w w4):=zh (HGV.out.trans ((Grew.refl V).drw.trans hR))
   clear hh_ he hR d0 d1 d2 d3 d4 d5 d6 d7 HGV
   go_wp2
   go_ret
   exact⟨rfl,HG4.out⟩
 ·have ho:(⟨(trT i h.data.toList m.data.toList n).toArray⟩:ByteArray)=(⟨#[32,101,118,101,114,121,32]⟩:ByteArray)++⟨(numZ i).toArray⟩:=by
   rw [trT,if_neg h0,str_append]
  have hl:=numZ_len (z:=i) (by omega)
  have hz:(⟨(numZ i).toArray⟩:ByteArray).size≤6:=by show (numZ i).toArray.size≤6;rw [List.size_toArray];exact hl
  have HI:=zh (fun W (hW:Grew w W)=>itoa_any i (by omega) W (hE.grew hW))
  have hgt:0 < i:=by omega
  rw [ho]
  generalize (⟨(numZ i).toArray⟩:ByteArray)=Z at hz HI ⊢
  clear hE ho hl h0 hh hm
  have HG1:=zh ((Grew.refl w).alloc (Obj.cells #[.string s,.int .i64 i,.int .i64 d,.string h,.string m,.int .i64 n,.slice bp bn bc,.int .i64 q] 42))
  go_enter Tryz.func42,Tryz.ntmps42
  go_wp2_with (go_at_call 40;(with_reducible refine(HI.out _ HG1.out).mono ?_);rintro e w1 ⟨rfl,g1⟩;have HG:=zh (HG1.out.trans g1);clear g1)
  go_ret
  exact⟨rfl,HG.out⟩
section
variable {dst:Option Tmp}{ty:TypeId}{pos:String}{after:Array Edge}{g:Option (Nat × Bool)}{a:Act}{w:World}{T:Value→World→Prop}
theorem rn_bs_118_97_114_32_15_91_18_93_59 {s0 s1:ByteArray}(hs0:a.eval (.tmp 15)=.string s0) (hs1:a.eval (.tmp 18)=.string s1) (h:T (.slice (some ⟨w.heap.size,0,none⟩) 5 5) (w.alloc (.cells #[.string ⟨#[118,97,114,32]⟩,.string s0,.string ⟨#[91]⟩,.string s1,.string ⟨#[93,59]⟩] 9))):Runs Tryz.prog ⟨dst,.buildSlice 24 5 #[(0,.const (.string ⟨#[118,97,114,32]⟩)),(1,.tmp 15),(2,.const (.string ⟨#[91]⟩)),(3,.tmp 18),(4,.const (.string ⟨#[93,59]⟩))],ty,pos,after,g⟩ a w T:=by
 refine Runs.value (v:=.slice (some ⟨w.heap.size,0,none⟩) 5 5) (w':=w.alloc (.cells #[.string ⟨#[118,97,114,32]⟩,.string s0,.string ⟨#[91]⟩,.string s1,.string ⟨#[93,59]⟩] 9)) ?_ h
 have e15:a.tmps[15]?.getD undef=.string s0:=by rw [slot_get,← slot_eval];exact hs0
 have e18:a.tmps[18]?.getD undef=.string s1:=by rw [slot_get,← slot_eval];exact hs1
 simp only [execOp]
 go_simp
theorem rn_bs_118_97_114_32_27_32_61_32_31_59 {s0 s1:ByteArray}(hs0:a.eval (.tmp 27)=.string s0) (hs1:a.eval (.tmp 31)=.string s1) (h:T (.slice (some ⟨w.heap.size,0,none⟩) 5 5) (w.alloc (.cells #[.string ⟨#[118,97,114,32]⟩,.string s0,.string ⟨#[32,61,32]⟩,.string s1,.string ⟨#[59]⟩] 9))):Runs Tryz.prog ⟨dst,.buildSlice 24 5 #[(0,.const (.string ⟨#[118,97,114,32]⟩)),(1,.tmp 27),(2,.const (.string ⟨#[32,61,32]⟩)),(3,.tmp 31),(4,.const (.string ⟨#[59]⟩))],ty,pos,after,g⟩ a w T:=by
 refine Runs.value (v:=.slice (some ⟨w.heap.size,0,none⟩) 5 5) (w':=w.alloc (.cells #[.string ⟨#[118,97,114,32]⟩,.string s0,.string ⟨#[32,61,32]⟩,.string s1,.string ⟨#[59]⟩] 9)) ?_ h
 have e27:a.tmps[27]?.getD undef=.string s0:=by rw [slot_get,← slot_eval];exact hs0
 have e31:a.tmps[31]?.getD undef=.string s1:=by rw [slot_get,← slot_eval];exact hs1
 simp only [execOp]
 go_simp
end
theorem lineN_any (N b d:Nat) (xs:List UInt8) (L:List ByteArray) (vs:List Value) (n g:Nat) (w:World) (h:BldT 72 [.int .i64 (d:Int)] N b xs w) (hN:N≤w.heap.size) (hd:d≤1000000) (hr:Blk g vs 9 w) (hv:vs=L.map Value.string) (hn:L.length=n) (hg:g≠b) (hl:xs.length+(sp d++(flat L++[10])).length≤140737488355328) (hL:n≤100) :
 Calls Tryz.prog 39 #[PtrTo b,.slice (some ⟨g,0,none⟩) n n] w fun e w'=>e=.returned (.tuple #[])∧BldT 72 [.int .i64 (d:Int)] N b (xs++(sp d++(flat L++[10]))) w'∧Wrote N b w w':=by
 subst hn hv
 exact line_any N b d xs L g w h hN hd hr hg hl hL
def glT (s:ByteArray) (l i:Int):List UInt8:=if 0 < l then [118,97,114,32]++(s.data.toList++([91]++(numZ l++[93,59]))) else if i≠0 then [118,97,114,32]++(s.data.toList++([32,61,32]++(numZ i++[59]))) else [118,97,114,32]++(s.data.toList++[59])
set_option maxHeartbeats 8000000 in
theorem globP_any (N b d:Nat) (xs:List UInt8) (s:ByteArray) (l i q:Int) (w:World) (h:BldT 72 [.int .i64 (d:Int)] N b xs w) (hN:N≤w.heap.size) (hd:d≤1000000) (hl0:0≤l∧l≤32767) (hi0:-32767≤i∧i≤32767) (hE:EnvB N w) (hl:xs.length+(sp d++(glT s l i++[10])).length≤140737488355328) :
 Calls Tryz.prog 41 #[PtrTo b,.agg #[.string s,.int .i64 l,.int .i16 i,.int .i64 q]] w fun e w'=>e=.returned (.tuple #[])∧BldT 72 [.int .i64 (d:Int)] N b (xs++(sp d++(glT s l i++[10]))) w'∧Wrote N b w w':=by
 have HB:=zh h
 have HNw:=zh hN
 have HD:=zh hd
 have HLN:=zh hl
 clear h hN hl hd
 by_cases hp:0 < l
 ·rw [glT,if_pos hp] at HLN ⊢
  have HI:Hid (∀W,Grew w W→Calls Tryz.prog 40 #[.int .i64 l] W fun e w'=>e=.returned (.string ⟨(numZ l).toArray⟩)∧Grew W w'):=zh (fun W hW=>itoa_any l (by omega) W (hE.env.grew hW))
  generalize numZ l=Z at HI HLN ⊢
  clear hE
  go_enter Tryz.func41,Tryz.ntmps41
  go_upto_region 3 with fail
  have hb1:Blk w.heap.size [.string s,.int .i64 l,.int .i16 i,.int .i64 q] 62 (w.alloc (Obj.cells #[.string s,.int .i64 l,.int .i16 i,.int .i64 q] 62)):=Blk.new w _ _
  have hgV:Grew w (w.alloc (Obj.cells #[.string s,.int .i64 l,.int .i16 i,.int .i64 q] 62)):=(Grew.refl w).alloc _
  generalize (w.alloc (Obj.cells #[.string s,.int .i64 l,.int .i16 i,.int .i64 q] 62))=V at hb1 hgV ⊢
  generalize w.heap.size=T at hb1 ⊢
  have HGV:=zh hgV
  have d0:Atv ⟨T,0,none⟩ (.string s) V.drew:=(hb1.grew (Grew.refl _).drw).atv 0 rfl
  have d1:Atv ⟨T,1,none⟩ (.int .i64 l) V.drew:=(hb1.grew (Grew.refl _).drw).atv 1 rfl
  have d2:Atv ⟨T,2,none⟩ (.int .i16 i) V.drew:=(hb1.grew (Grew.refl _).drw).atv 2 rfl
  have d3:Atv ⟨T,3,none⟩ (.int .i64 q) V.drew:=(hb1.grew (Grew.refl _).drw).atv 3 rfl
  clear hb1 hgV
  refine wp_grew_tail 7 [some 13,some 14,some 15,some 16,some 17,some 18,some 19] (Zfd (Zfc (Zfa (Ztc (Ztb (Zta (Zfd (Zfc (Zfb []))))))))) [fun v _=>v=.pointer (some ⟨b,0,none⟩),fun v _=>v=.pointer (some ⟨T,0,none⟩),fun v _=>v=.string s,fun v _=>v=.pointer (some ⟨T,1,none⟩),fun v _=>v=.int .i64 (l),fun v _=>v=.string ⟨(Z).toArray⟩,fun v w=>∃g_,v=.slice (some ⟨g_,0,none⟩) 5 5∧V.drew.heap.size≤g_∧Blk g_ [.string ⟨#[118,97,114,32]⟩,.string s,.string ⟨#[91]⟩,.string ⟨Z.toArray⟩,.string ⟨#[93,59]⟩] 9 w] (by kernel_rfl) (by kernel_rfl) (by kernel_rfl) rfl ?_ ⟨?_,?_,?_,?_,?_,?_,?_,trivial⟩ ?_
  ·exact⟨Zi,Zi,Zi,Zi,Zi,Zi,fun _ _ _ hg ⟨S,h1,h2,h3⟩=>⟨S,h1,h2,h3.grew hg⟩,trivial⟩
  ·intro u w hR hd;exact runs_mv (ev rfl) Zr
  ·intro u w hR hd;exact rn_fld_62_0 (ev rfl) Zr
  ·intro u w hR hd;exact rn_ld_9 (ev (hd.1 rfl)) (d0.kept hR) Zr
  ·intro u w hR hd;exact rn_fld_62_1 (ev rfl) Zr
  ·intro u w hR hd;exact rn_ld_3 (ev (hd.1 rfl)) (d1.kept hR) Zr
  ·intro u w hR hd;exact runs_c1 en_it (ev (hd.1 rfl)) (callp (fun _ e=>e) (HI.out _ (HGV.out.trans ((Grew.refl _).drw.trans hR))))
  ·intro u w hR hd;exact rn_bs_118_97_114_32_15_91_18_93_59 (ev (hd.1 rfl)) (ev (hd.2.1 rfl)) ⟨(Grew.refl _).alloc _,⟨_,rfl,hR.sz,heap_alloc_new _ _⟩⟩
  ·intro u w5 hR h
   have g5:Grew w w5:=HGV.out.trans ((Grew.refl V).drw.trans hR)
   have HB5:=zh (HB.out.grew g5)
   have HN5:=zh (Nat.le_trans HNw.out g5.sz)
   have HW5:=zh (Wrote.of_grew (N:=N) (b:=b) g5 HNw.out)
   obtain ⟨g_,hs_,hge,hbk⟩:∃g_,u 19=.slice (some ⟨g_,0,none⟩) 5 5∧V.drew.heap.size≤g_∧Blk g_ [.string ⟨#[118,97,114,32]⟩,.string s,.string ⟨#[91]⟩,.string ⟨Z.toArray⟩,.string ⟨#[93,59]⟩] 9 w5:=h 6 (by decide)
   have hgb:g_≠b:=by have h1:=(HB.out.grew HGV.out).lt;have h2:V.drew.heap.size=V.heap.size:=rfl;omega
   have e0:u 13=PtrTo b:=h 0 (by decide)
   refine wpAny_one (i:=7) (some 20) (by kernel_rfl) rfl rfl rfl (runs_c2 en_ln (ev e0) (ev hs_) ((lineN_any N b d xs [(⟨#[118,97,114,32]⟩:ByteArray),s,(⟨#[91]⟩:ByteArray),⟨Z.toArray⟩,(⟨#[93,59]⟩:ByteArray)] _ 5 g_ w5 HB5.out HN5.out HD.out hbk rfl rfl hgb (by have h_:=HLN.out;simpa [flat,app_list] using h_) (by decide)).mono ?_))
   rintro e_ w6 ⟨rfl,hb_,hw_⟩
   refine⟨_,rfl,?_⟩
   refine wpAny_done (by kernel_rfl) ?_ _
   simp only [zz1,zz2,zz3,Act.put,mixA,mixL,zz9,zz0,zz4,zz5,zz6]
   try simp only [Nat.zero_add,Nat.reduceAdd]
   generalize u 13=z13
   generalize u 14=z14
   generalize u 15=z15
   generalize u 16=z16
   generalize u 17=z17
   generalize u 18=z18
   generalize u 19=z19
   have HB6:=zh hb_
   have HW6:=zh (HW5.out.trans hw_)
   clear hs_ hbk hb_ hw_ h hR g5
   go_wp2
   go_end0
   exact⟨rfl,by have h_:=HB6.out;simpa [flat,app_list] using h_,HW6.out⟩
 by_cases hz:i=0
 ·rw [glT,if_neg hp,if_neg (by simpa using hz)] at HLN ⊢
  subst hz
  clear hE
  go_enter Tryz.func41,Tryz.ntmps41
  go_upto_region 1 with fail
  have hb1_:Blk w.heap.size [.string s,.int .i64 l,.int .i16 0,.int .i64 q] 62 (w.alloc (Obj.cells #[.string s,.int .i64 l,.int .i16 0,.int .i64 q] 62)):=Blk.new w _ _
  have hgV:Grew w (w.alloc (Obj.cells #[.string s,.int .i64 l,.int .i16 0,.int .i64 q] 62)):=(Grew.refl w).alloc _
  have hne_:w.heap.size≠b:=by have:=HB.out.lt;omega
  generalize (w.alloc (Obj.cells #[.string s,.int .i64 l,.int .i16 0,.int .i64 q] 62))=V0 at hb1_ hgV ⊢
  generalize w.heap.size=S at hb1_ hne_ ⊢
  have HW0:=zh (Wrote.of_grew (N:=N) (b:=b) hgV HNw.out)
  have HB0:=zh (HB.out.grew hgV)
  have HN0:=zh (Nat.le_trans HNw.out hgV.sz)
  have HX0:=zh hb1_
  have HNE:=zh hne_
  clear hb1_ hgV hne_
  have x0V0:V0.cell? ⟨S,0,none⟩=some (.string s):=HX0.out.cell 0
  go_wp2_with (go_at_call 39;(with_reducible refine(lineN_any N b d xs [⟨#[118,97,114,32]⟩,s,⟨#[59]⟩] [.string ⟨#[118,97,114,32]⟩,.string s,.string ⟨#[59]⟩] 3 V0.heap.size (V0.alloc (Obj.cells #[.string ⟨#[118,97,114,32]⟩,.string s,.string ⟨#[59]⟩] 9)) (HB0.out.grew ((Grew.refl _).alloc _)) (Nat.le_trans HN0.out ((Grew.refl V0).alloc _).sz) HD.out (Blk.new _ _ _) rfl rfl (by have h1:=HB0.out.lt;omega) (by have h_:=HLN.out;simpa [flat,app_list] using h_) (by decide)).mono ?_);rintro e w6 ⟨rfl,hb_,hw_⟩;have HB6:=zh hb_;have HW6:=zh ((HW0.out.grew ((Grew.refl V0).alloc _) HNw.out).trans hw_);clear hb_ hw_)
  go_end0
  exact⟨rfl,by have h_:=HB6.out;simpa [flat] using h_,HW6.out⟩
 ·rw [glT,if_neg hp,if_pos (by simpa using hz)] at HLN ⊢
  have hz0:(i != 0)=true:=by simpa using hz
  have HI:Hid (∀W,Grew w W→Calls Tryz.prog 40 #[.int .i64 i] W fun e w'=>e=.returned (.string ⟨(numZ i).toArray⟩)∧Grew W w'):=zh (fun W hW=>itoa_any i (by omega) W (hE.env.grew hW))
  generalize numZ i=Z at HI HLN ⊢
  clear hE
  go_enter Tryz.func41,Tryz.ntmps41
  go_upto_region 5 with fail
  have hb1:Blk w.heap.size [.string s,.int .i64 l,.int .i16 i,.int .i64 q] 62 (w.alloc (Obj.cells #[.string s,.int .i64 l,.int .i16 i,.int .i64 q] 62)):=Blk.new w _ _
  have hgV:Grew w (w.alloc (Obj.cells #[.string s,.int .i64 l,.int .i16 i,.int .i64 q] 62)):=(Grew.refl w).alloc _
  generalize (w.alloc (Obj.cells #[.string s,.int .i64 l,.int .i16 i,.int .i64 q] 62))=V at hb1 hgV ⊢
  generalize w.heap.size=T at hb1 ⊢
  have HGV:=zh hgV
  have d0:Atv ⟨T,0,none⟩ (.string s) V.drew:=(hb1.grew (Grew.refl _).drw).atv 0 rfl
  have d1:Atv ⟨T,1,none⟩ (.int .i64 l) V.drew:=(hb1.grew (Grew.refl _).drw).atv 1 rfl
  have d2:Atv ⟨T,2,none⟩ (.int .i16 i) V.drew:=(hb1.grew (Grew.refl _).drw).atv 2 rfl
  have d3:Atv ⟨T,3,none⟩ (.int .i64 q) V.drew:=(hb1.grew (Grew.refl _).drw).atv 3 rfl
  clear hb1 hgV
  refine wp_grew_tail 8 [some 25,some 26,some 27,some 28,some 29,some 30,some 31,some 32] (Zfe (Zfd (Zfa (Ztd (Zfa []))))) [fun v _=>v=.pointer (some ⟨b,0,none⟩),fun v _=>v=.pointer (some ⟨T,0,none⟩),fun v _=>v=.string s,fun v _=>v=.pointer (some ⟨T,2,none⟩),fun v _=>v=.int .i16 (i),fun v _=>v=.int .i64 (i),fun v _=>v=.string ⟨(Z).toArray⟩,fun v w=>∃g_,v=.slice (some ⟨g_,0,none⟩) 5 5∧V.drew.heap.size≤g_∧Blk g_ [.string ⟨#[118,97,114,32]⟩,.string s,.string ⟨#[32,61,32]⟩,.string ⟨Z.toArray⟩,.string ⟨#[59]⟩] 9 w] (by kernel_rfl) (by kernel_rfl) (by kernel_rfl) rfl ?_ ⟨?_,?_,?_,?_,?_,?_,?_,?_,trivial⟩ ?_
  ·exact⟨Zi,Zi,Zi,Zi,Zi,Zi,Zi,fun _ _ _ hg ⟨S,h1,h2,h3⟩=>⟨S,h1,h2,h3.grew hg⟩,trivial⟩
  ·intro u w hR hd;exact runs_mv (ev rfl) Zr
  ·intro u w hR hd;exact rn_fld_62_0 (ev rfl) Zr
  ·intro u w hR hd;exact rn_ld_9 (ev (hd.1 rfl)) (d0.kept hR) Zr
  ·intro u w hR hd;exact rn_fld_62_2 (ev rfl) Zr
  ·intro u w hR hd;exact rn_ld_32 (ev (hd.1 rfl)) (d2.kept hR) Zr
  ·intro u w hR hd;exact rn_cv_32_3 (ev (hd.1 rfl)) (by omega) Zr
  ·intro u w hR hd;exact runs_c1 en_it (ev (hd.1 rfl)) (callp (fun _ e=>e) (HI.out _ (HGV.out.trans ((Grew.refl _).drw.trans hR))))
  ·intro u w hR hd;exact rn_bs_118_97_114_32_27_32_61_32_31_59 (ev (hd.1 rfl)) (ev (hd.2.1 rfl)) ⟨(Grew.refl _).alloc _,⟨_,rfl,hR.sz,heap_alloc_new _ _⟩⟩
  ·intro u w5 hR h
   have g5:Grew w w5:=HGV.out.trans ((Grew.refl V).drw.trans hR)
   have HB5:=zh (HB.out.grew g5)
   have HN5:=zh (Nat.le_trans HNw.out g5.sz)
   have HW5:=zh (Wrote.of_grew (N:=N) (b:=b) g5 HNw.out)
   obtain ⟨g_,hs_,hge,hbk⟩:∃g_,u 32=.slice (some ⟨g_,0,none⟩) 5 5∧V.drew.heap.size≤g_∧Blk g_ [.string ⟨#[118,97,114,32]⟩,.string s,.string ⟨#[32,61,32]⟩,.string ⟨Z.toArray⟩,.string ⟨#[59]⟩] 9 w5:=h 7 (by decide)
   have hgb:g_≠b:=by have h1:=(HB.out.grew HGV.out).lt;have h2:V.drew.heap.size=V.heap.size:=rfl;omega
   have e0:u 25=PtrTo b:=h 0 (by decide)
   refine wpAny_one (i:=8) (some 33) (by kernel_rfl) rfl rfl rfl (runs_c2 en_ln (ev e0) (ev hs_) ((lineN_any N b d xs [(⟨#[118,97,114,32]⟩:ByteArray),s,(⟨#[32,61,32]⟩:ByteArray),⟨Z.toArray⟩,(⟨#[59]⟩:ByteArray)] _ 5 g_ w5 HB5.out HN5.out HD.out hbk rfl rfl hgb (by have h_:=HLN.out;simpa [flat,app_list] using h_) (by decide)).mono ?_))
   rintro e_ w6 ⟨rfl,hb_,hw_⟩
   refine⟨_,rfl,?_⟩
   refine wpAny_done (by kernel_rfl) ?_ _
   simp only [zz1,zz2,zz3,Act.put,mixA,mixL,zz9,zz0,zz4,zz5,zz6]
   try simp only [Nat.zero_add,Nat.reduceAdd]
   generalize u 25=z25
   generalize u 26=z26
   generalize u 27=z27
   generalize u 28=z28
   generalize u 29=z29
   generalize u 30=z30
   generalize u 31=z31
   generalize u 32=z32
   have HB6:=zh hb_
   have HW6:=zh (HW5.out.trans hw_)
   clear hs_ hbk hb_ hw_ h hR g5
   go_wp2
   go_end0
   exact⟨rfl,by have h_:=HB6.out;simpa [flat,app_list] using h_,HW6.out⟩
theorem runs_c4 {P:Program}{dst:Option Tmp}{ty:TypeId}{pos:String}{after:Array Edge}{g:Option (Nat × Bool)}{a:Act}{w:World}{T:Value→World→Prop}{f:FuncId}{x y z t:Operand}{ts:Array TypeId}{v1 v2 v3 v4:Value}(hf:Enters P f) (hx:a.eval x=v1) (hy:a.eval y=v2) (hz:a.eval z=v3) (ht:a.eval t=v4) (h:Calls P f #[v1,v2,v3,v4] w fun e w''=>∃v,e=.returned v∧T v w''):Runs P ⟨dst,.call { callee:=.value (.func f),args:=#[x,y,z,t],argTypes:=ts },ty,pos,after,g⟩ a w T :=
 runs_call hf (by simp [hx,hy,hz,ht]) h
theorem en_cm:Enters Tryz.prog 140:=fun args w=>by go_simp
theorem en_txt:Enters Tryz.prog 49:=fun args w=>by go_simp
abbrev BdC (l:List Sm):Prop:=∀(N b d:Nat) (xs:List UInt8) (B:Nat→Prop) (w:World) (p:Option Addr) (c:Nat),BldT 72 [.int .i64 (d:Int)] N b xs w→N≤w.heap.size→(∀i,B i→i < N)→SL B w p c l→EnvB N w→okSs l=true→d+1+dSs l≤1000→xs.length+(linL l (sp (d+1))).length≤140737488355328 →
 Calls Tryz.prog 44 #[PtrTo b,.slice p l.length c] w fun e w'=>e=.returned (.tuple #[])∧BldT 72 [.int .i64 (d:Int)] N b (xs++linL l (sp (d+1))) w'∧Wrote N b w w'
abbrev StF (f:FuncId) (k:Int) (s:ByteArray) (n:Int) (ar:List Xp) (y e:List Sm) (q:Int):Prop:=∀(N b d:Nat) (xs:List UInt8) (B:Nat→Prop) (w:World) (pa:Option Addr) (ca:Nat) (pb:Option Addr) (cb:Nat) (pe:Option Addr) (ce:Nat),BldT 72 [.int .i64 (d:Int)] N b xs w→N≤w.heap.size→(∀i,B i→i < N)→XL B w pa ca ar→SL B w pb cb y→SL B w pe ce e→s.size≤1048576→EnvB N w→okS ⟨k,s,n,ar,y,e,q⟩=true→d+dS ⟨k,s,n,ar,y,e,q⟩≤1000→xs.length+(sp d++linS ⟨k,s,n,ar,y,e,q⟩ (sp d)).length≤140737488355328 →
 Calls Tryz.prog f #[PtrTo b,sv k s n pa ar.length ca pb y.length cb pe e.length ce q] w fun e' w'=>e'=.returned (.tuple #[])∧BldT 72 [.int .i64 (d:Int)] N b (xs++(sp d++linS ⟨k,s,n,ar,y,e,q⟩ (sp d))) w'∧Wrote N b w w'
theorem wrote_set {N b j:Nat}{w w':World}{u:Value}(h:Wrote N b w w') (hN:N≤b):Wrote N b w (w'.setCell ⟨b,j,none⟩ u):=⟨h.1.setCell (p:=⟨b,j,none⟩) hN u,h.2.setCell ⟨b,j,none⟩ rfl u⟩
theorem maxF_mem {α:Type}{F:α→Nat}{x:α}:∀{l:List α},x ∈ l→F x≤maxF F l
 | y :: l,h=>by
   rw [maxF_cons]
   rcases List.mem_cons.1 h with rfl | h
   ·exact Nat.le_max_left _ _
   ·exact Nat.le_trans (maxF_mem h) (Nat.le_max_right _ _)
set_option maxHeartbeats 8000000 in
theorem body_of (l:List Sm) (hst:∀x ∈ l,StF 96 x.k x.s x.n x.ar x.b x.e x.q):BdC l:=by
 intro N b d xs B w p c hb hN hB hx hE hok hd hlen
 have HST:=zh hst
 have HX:=zh hx
 have HE:=zh hE
 have HBN:=zh hB
 have HOK:=zh hok
 have HD:=zh hd
 have HLN:=zh hlen
 have hcap:l.length≤c:=hx.cap.1
 have hmax:=hx.cap.2.1
 have c2:w.cell? ⟨b,2,none⟩=some (.int .i64 (d:Int)):=hb.rest (j:=0) rfl
 have f2:=hb.free 2
 have hd1:(d:Int)≤1000:=by omega
 have hb2:=hb.put btP.ne 0 (.int .i64 ((d+1:Nat):Int))
 have hw2:Wrote N b w (w.setCell ⟨b,2,none⟩ (.int .i64 ((d+1:Nat):Int))):=wrote_set (Wrote.refl N b w) hb.ge
 have HGE:=zh hb.ge
 have HB0:=zh hb2
 have HW0:=zh hw2
 have HN0:Hid (N≤(w.setCell ⟨b,2,none⟩ (.int .i64 ((d+1:Nat):Int))).heap.size):=zh (Nat.le_trans hN hw2.1.size)
 have hcast:((d+1:Nat):Int)=(d:Int)+1:=by omega
 rw [hcast] at HB0 HW0 HN0
 have HCA:=zh hcast
 clear hcast
 clear hst hb hN hB hx hE hok hd hlen hb2 hw2
 go_enter Tryz.func44,Tryz.ntmps44
 go_upto_region 1 with fail
 generalize (w.setCell ⟨b,2,none⟩ (.int .i64 ((d:Int)+1)))=V at HB0 HW0 HN0 ⊢
 go_wp2
 go_loopg [5,15] l.length (fun gg sv_ iv wr=>∃(j:Nat),iv=.int .i64 (j:Int)∧j≤l.length∧gg=l.length - j∧Hid (BldT 72 [.int .i64 ((d:Int)+1)] N b (xs++linL (l.take j) (sp (d+1))) wr)∧Hid (Wrote N b w wr)∧Hid (N≤wr.heap.size))
 case atStart=>exact⟨0,rfl,Nat.zero_le _,rfl,zh (by rw [List.take_zero,linL,List.append_nil];exact HB0.out),HW0,HN0⟩
 case round =>
  obtain ⟨j,rfl,hj,rfl,HBj,HWj,HNj⟩:=hrel
  by_cases hlt:j < l.length
  ·
   obtain ⟨bz,oz,paz,caz,pbz,cbz,pez,cez,rfl,hbz,haz,hboz,helz,hcz⟩:=HX.out.get j hlt
   have hmz:=List.getElem_mem hlt
   have hnz:=nSs_mem hmz
   have htz:=List.take_succ_eq_append_getElem hlt
   have HLz:=zh (Nat.succ_le_of_lt hlt)
   generalize l[j]=xz at *
   obtain ⟨kz,sz,nz,rz,yz,ez,qz⟩:=xz
   have hb0z:=hbz.1
   replace hbz:sz.size≤1048576:=hbz.2
   have HTz:=zh htz
   have HAz:Hid (XL B w paz caz rz):=zh haz
   have HYz:Hid (SL B w pbz cbz yz):=zh hboz
   have HEz:Hid (SL B w pez cez ez):=zh helz
   have hcapz:rz.length≤caz∧yz.length≤cbz∧ez.length≤cez:=⟨haz.cap.1,hboz.cap.1,helz.cap.1⟩
   have hmaxz:=And.intro haz.cap.2.1 (And.intro hboz.cap.2.1 helz.cap.2.1)
   replace hcz:∀i_ u_,(sdc ⟨kz,sz,nz,paz,rz.length,caz,pbz,yz.length,cbz,pez,ez.length,cez,qz⟩)[i_]?=some u_→wr.cell? ⟨bz,oz+j * 7+i_,none⟩=some u_:=fun i_ u_ h_=>below_cell HWj.out.bel (HBN.out _ hb0z) (hcz i_ u_ h_)
   have cz0:wr.cell? ⟨bz,oz+j * 7,none⟩=some (.int .i64 kz):=by simpa using hcz 0 _ rfl
   have cz1:wr.cell? ⟨bz,oz+j * 7+1,none⟩=some (.string sz):=hcz 1 _ rfl
   have cz2:wr.cell? ⟨bz,oz+j * 7+2,none⟩=some (.int .i64 nz):=hcz 2 _ rfl
   have cz3:wr.cell? ⟨bz,oz+j * 7+3,none⟩=some (.slice paz rz.length caz):=hcz 3 _ rfl
   have cz4:wr.cell? ⟨bz,oz+j * 7+4,none⟩=some (.slice pbz yz.length cbz):=hcz 4 _ rfl
   have cz5:wr.cell? ⟨bz,oz+j * 7+5,none⟩=some (.slice pez ez.length cez):=hcz 5 _ rfl
   have cz6:wr.cell? ⟨bz,oz+j * 7+6,none⟩=some (.int .i64 qz):=hcz 6 _ rfl
   clear hcz haz hboz helz htz
   have hst:=HST.out _ hmz
   have hokz:=okSs_all.1 HOK.out _ hmz
   have hdz:dS ⟨kz,sz,nz,rz,yz,ez,qz⟩≤dSs l:=by rw [dSs_max];exact maxF_mem hmz
   have hlz:(linL (l.take j) (sp (d+1))).length+(sp (d+1)++linS ⟨kz,sz,nz,rz,yz,ez,qz⟩ (sp (d+1))).length≤(linL l (sp (d+1))).length:=by
    have h1:linL l (sp (d+1))=linL (l.take (j+1)) (sp (d+1))++linL (l.drop (j+1)) (sp (d+1)):=by rw [← linL_append,List.take_append_drop]
    rw [h1,linL_snoc _ HTz.out]
    simp only [List.length_append]
    omega
   have HC:Hid (StF 96 kz sz nz rz yz ez qz):=zh hst
   have HOZ:=zh hokz
   have HDZ:=zh hdz
   have HLZ:=zh hlz
   have HSZ:=zh hbz
   have HG1:=zh ((Grew.refl wr).alloc (Obj.cells #[.int .i64 kz,.string sz,.int .i64 nz,.slice paz rz.length caz,.slice pbz yz.length cbz,.slice pez ez.length cez,.int .i64 qz] 49))
   have HBJ:Hid (BldT 72 [.int .i64 ((d+1:Nat):Int)] N b (xs++linL (l.take j) (sp (d+1))) wr):=zh (by rw [HCA.out];exact HBj.out)
   clear hst hokz hdz hlz hmz hnz
   go_wp2_with (go_at_call 96;(with_reducible refine(HC.out N b (d+1) _ B _ paz caz pbz cbz pez cez (HBJ.out.grew HG1.out) (Nat.le_trans HNj.out HG1.out.sz) HBN.out ((HAz.out.below HBN.out HWj.out.bel).kept HG1.out) ((HYz.out.below HBN.out HWj.out.bel).kept HG1.out) ((HEz.out.below HBN.out HWj.out.bel).kept HG1.out) HSZ.out ((HE.out.wrote HWj.out).grew HG1.out) HOZ.out (by have h1:=HD.out;have h2:=HDZ.out;omega) (by have h1:=HLN.out;have h2:=HLZ.out;rw [List.length_append];omega)).mono ?_);rintro e w7 ⟨rfl,hb_,hw_⟩;rw [HCA.out] at hb_;have HB7:=zh hb_;have HW7:=zh ((HWj.out.trans (Wrote.of_grew HG1.out HNj.out)).trans hw_);have HN7:=zh (Nat.le_trans HNj.out (Nat.le_trans HG1.out.sz hw_.bel.size));clear hb_ hw_)
   go_roundg (l.length - (j+1))
   case measure=>have:=HLz.out;omega
   case rel=>exact⟨j+1,by go_num,HLz.out,rfl,zh (by rw [linL_snoc _ HTz.out];have h_:=HB7.out;simpa [List.append_assoc] using h_),HW7,HN7⟩
  ·obtain rfl:j=l.length:=by omega
   rw [List.take_length] at HBj
   have c3:wr.cell? ⟨b,2,none⟩=some (.int .i64 ((d:Int)+1)):=HBj.out.rest (j:=0) rfl
   have f3:=HBj.out.free 2
   have hb3:=HBj.out.put btP.ne 0 (.int .i64 (d:Int))
   have HB8:=zh hb3
   have HW8:Hid (Wrote N b w (wr.setCell ⟨b,2,none⟩ (.int .i64 (d:Int)))):=zh (wrote_set HWj.out HGE.out)
   have hsub:(d:Int)+1 - 1=(d:Int):=by omega
   clear hb3
   go_wp2
   go_end0
   exact⟨rfl,HB8.out,HW8.out⟩
set_option maxHeartbeats 8000000 in
theorem comp_of (y:List Sm) (hbd:BdC y) (kw t:ByteArray) (N b d:Nat) (xs:List UInt8) (B:Nat→Prop) (w:World) (p:Option Addr) (c:Nat) (hb:BldT 72 [.int .i64 (d:Int)] N b xs w) (hN:N≤w.heap.size) (hB:∀i,B i→i < N) (hy:SL B w p c y) (hE:EnvB N w) (hok:okSs y=true) (hd:d+1+dSs y≤1000) (hlen:xs.length+(sp d++((kw.data.toList++t.data.toList++[32,123,10])++(linL y (sp (d+1))++(sp d++[125,10])))).length≤140737488355328) :
 Calls Tryz.prog 140 #[PtrTo b,.string kw,.string t,.slice p y.length c] w fun e w'=>e=.returned (.tuple #[])∧BldT 72 [.int .i64 (d:Int)] N b (xs++(sp d++((kw.data.toList++t.data.toList++[32,123,10])++(linL y (sp (d+1))++(sp d++[125,10]))))) w'∧Wrote N b w w':=by
 have HBD:=zh hbd
 have HB0:=zh hb
 have HN0:=zh hN
 have HNw:=zh hN
 have HW0:=zh (Wrote.refl N b w)
 have HY:=zh hy
 have HBN:=zh hB
 have HE:=zh hE
 have HOK:=zh hok
 have HDD:=zh hd
 have HD:Hid (d≤1000000):=zh (by omega)
 have HLN:=zh hlen
 clear hbd hb hN hy hB hE hok hd hlen
 go_enter Tryz.func140,Tryz.ntmps140
 go_wp2_with (first
  | (go_at_call 39;(with_reducible refine(lineN_any N b d xs [kw,t,⟨#[32,123]⟩] [.string kw,.string t,.string ⟨#[32,123]⟩] 3 w.heap.size (w.alloc (Obj.cells #[.string kw,.string t,.string ⟨#[32,123]⟩] 9)) (HB0.out.grew ((Grew.refl _).alloc _)) (Nat.le_trans HN0.out ((Grew.refl w).alloc _).sz) HD.out (Blk.new _ _ _) rfl rfl (by have h1:=HB0.out.lt;omega) (by have h_:=HLN.out;simp [flat] at h_ ⊢;omega) (by decide)).mono ?_);rintro e w6 ⟨rfl,hb_,hw_⟩;have HB6:=zh hb_;have HW6:=zh ((HW0.out.grew ((Grew.refl w).alloc _) HNw.out).trans hw_);have HN6:=zh (Nat.le_trans HN0.out (Nat.le_trans ((Grew.refl w).alloc _).sz hw_.bel.size));clear hb_ hw_)
  | (go_at_call 44;(with_reducible refine(HBD.out N b d _ B w6 p c HB6.out HN6.out HBN.out (HY.out.below HBN.out HW6.out.bel) (HE.out.wrote HW6.out) HOK.out HDD.out (by have h_:=HLN.out;simp [flat] at h_ ⊢;omega)).mono ?_);rintro e w7 ⟨rfl,hb_,hw_⟩;have HB7:=zh hb_;have HW7:=zh (HW6.out.trans hw_);have HN7:=zh (Nat.le_trans HN6.out hw_.bel.size);clear hb_ hw_)
  | (go_at_call 39;(with_reducible refine(lineN_any N b d _ [⟨#[125]⟩] [.string ⟨#[125]⟩] 1 w7.heap.size (w7.alloc (Obj.cells #[.string ⟨#[125]⟩] 9)) (HB7.out.grew ((Grew.refl _).alloc _)) (Nat.le_trans HN7.out ((Grew.refl w7).alloc _).sz) HD.out (Blk.new _ _ _) rfl rfl (by have h1:=HB7.out.lt;omega) (by have h_:=HLN.out;simp [flat] at h_ ⊢;omega) (by decide)).mono ?_);rintro e w8 ⟨rfl,hb_,hw_⟩;have HB8:=zh hb_;have HW8:=zh ((HW7.out.grew ((Grew.refl w7).alloc _) HNw.out).trans hw_);clear hb_ hw_))
 go_end0
 exact⟨rfl,by have h_:=HB8.out;simpa [flat] using h_,HW8.out⟩
theorem textF_any (k:Int) (s:ByteArray) (v o:Int) (ar:List Xp) (q:Int) (B:Nat→Prop) (w:World) (p:Option Addr) (c:Nat) (hB:∀i,B i→i < w.heap.size) (hX:XL B w p c ar) (hz:s.size≤1048576∧v≤32767) (hE:Env w) (hok:okX ⟨k,s,v,o,ar,q⟩=true) (hlen:(txX ⟨k,s,v,o,ar,q⟩).length≤140737488355328) :
 Calls Tryz.prog 49 #[xv k s v o p ar.length c q] w fun e w'=>e=.returned (.string ⟨(txX ⟨k,s,v,o,ar,q⟩).toArray⟩)∧Grew w w':=textP_any ⟨k,s,v,o,ar,q⟩ B w p c hB hX hz hE hok hlen
theorem wrote_top {N b S j:Nat}{w w':World}{u:Value}(h:Wrote N b w w') (hS:w.heap.size≤S) (hN:N≤S):Wrote N b w (w'.setCell ⟨S,j,none⟩ u):=⟨h.1.setCell (p:=⟨S,j,none⟩) hN u,fun k o hk hne hno=>(heap_setCell_other w' ⟨S,j,none⟩ k u (by have:=lt_of_heap hk;show k≠S;omega)).trans (h.2 k o hk hne hno)⟩
structure Kp (N b d S:Nat) (vs:List Value) (xs:List UInt8) (w0 w:World):Prop where
 kx:Blk S vs 49 w
 kb:BldT 72 [.int .i64 (d:Int)] N b xs w
 kw:Wrote N b w0 w
 kn:N≤w.heap.size
theorem Kp.set {N b d S:Nat}{vs:List Value}{xs:List UInt8}{w0 w:World}(h:Kp N b d S vs xs w0 w) (hne:S≠b) (hS:w0.heap.size≤S) (hN:N≤S) (j:Nat) (u:Value):Kp N b d S (vs.set j u) xs w0 (w.setCell ⟨S,j,none⟩ u):=by
 obtain ⟨hx,⟨h1,p,v,h2,h3,h4⟩,hw,hn⟩:=h
 refine⟨hx.set j u,⟨h1,p,v,h2,?_,h4.set_other (by decide) hx u⟩,wrote_top hw hS hN,by simpa using hn⟩
 have h5:w.heap[b]?=_:=h3
 exact(heap_setCell_other w ⟨S,j,none⟩ b u (by show b≠S;omega)).trans h5
set_option maxHeartbeats 16000000 in
theorem choice_of (n:Nat) (hbd:∀l,nSs l≤n→BdC l):∀(s:ByteArray) (nn:Int) (ar:List Xp) (y e:List Sm) (q:Int),nSs y+nSs e≤n→StF 139 4 s nn ar y e q:=by
 intro s nn ar y e q hn N b d xs B w pA cA pB cB pE cE hb hN hB hX hY hEl hs hE hok hd hlen
 obtain ⟨hox,hoy,hoe,hcs⟩:=okS_cases hok
 obtain ⟨⟨a,rfl⟩,rfl,rfl⟩:(∃a,ar=[a])∧s=⟨#[]⟩∧nn=0:=by
  rcases hcs with ⟨hk,_⟩ | ⟨hk,_⟩ | ⟨_,h1,h2,h3⟩ | ⟨hk,_⟩ | ⟨hk,_⟩ | ⟨hk,_⟩ | ⟨hk,_⟩
  ·omega
  ·omega
  ·exact⟨h1,h2,h3⟩
  ·omega
  ·omega
  ·omega
  ·omega
 have hoa:=ok1 hox
 have hdS:dS ⟨4,⟨#[]⟩,0,[a],y,e,q⟩=max (max (dSs y) (dSs e)) (dXs [a])+1:=by rw [dS]
 rw [hdS] at hd
 have hlin:linS ⟨4,⟨#[]⟩,0,[a],y,e,q⟩ (sp d)=(([105,102,32]++txX a)++[32,123,10])++(linL y (sp (d+1))++(sp d++elsT e (sp d))):=by
  rw [linS,if_neg (by rw [hedT,if_pos rfl];simp),(ag0 a []).1,sp_in4]
  show (((((([105,102,32]++txX a)++[32,123])++[10])++linL y (sp (d+1)))++sp d)++elsT e (sp d))=_
  simp
 rw [hlin] at hlen ⊢
 have hcap:=And.intro hX.cap.1 (And.intro hY.cap.1 hEl.cap.1)
 have hmax:=And.intro hX.cap.2.1 (And.intro hY.cap.2.1 hEl.cap.2.1)
 have HBD:=zh hbd
 have HNN:=zh hn
 have HB:=zh hb
 have HNw:=zh hN
 have HBN:=zh hB
 have HE:=zh hE
 have HY:=zh hY
 have HEL:=zh hEl
 have HOY:=zh hoy
 have HOE:=zh hoe
 have HDY:Hid (d+1+dSs y≤1000):=zh (by omega)
 have HDE:Hid (d+1+dSs e≤1000∧nSs e≤n):=zh (by omega)
 have HD:Hid (d≤1000000):=zh (by omega)
 obtain ⟨bz,oz_,pa,ca,rfl,hba,haa,hca⟩:=hX.get 0 (by simp)
 obtain ⟨ka,sa,va,oa,ra,qa⟩:=a
 replace haa:XL B w pa ca ra:=haa
 replace hba:B bz∧sa.size≤1048576∧va≤32767:=hba
 have HAa:=zh haa
 have HZa:=zh hba.2
 have HLTa:=zh (HBN.out bz hba.1)
 have hcapa:ra.length≤ca:=haa.cap.1
 have hmaxa:=haa.cap.2.1
 have HCa:Hid (∀i_ u_,(xdc ⟨ka,sa,va,oa,pa,ra.length,ca,qa⟩)[i_]?=some u_→w.cell? ⟨bz,oz_+0 * 6+i_,none⟩=some u_):=zh hca
 clear haa hba hca
 have HOAa:=zh hoa
 have HLa:Hid ((txX ⟨ka,sa,va,oa,ra,qa⟩).length≤140737488355328):=zh (by simp only [List.length_append] at hlen;omega)
 have HTA:Hid (∀W,N≤W.heap.size→Wrote N b w W→Calls Tryz.prog 49 #[xv ka sa va oa pa ra.length ca qa] W fun e w'=>e=.returned (.string ⟨(txX ⟨ka,sa,va,oa,ra,qa⟩).toArray⟩)∧Grew W w') :=
  zh (fun W hNW hW=>textF_any ka sa va oa ra qa B W pa ca (fun i hi=>Nat.lt_of_lt_of_le (HBN.out i hi) hNW) (HAa.out.below HBN.out hW.bel) HZa.out (HE.out.wrote hW).env HOAa.out HLa.out)
 obtain ⟨TT,hTT⟩:∃TT,xs++(sp d++((([105,102,32]++(txX ⟨ka,sa,va,oa,ra,qa⟩))++[32,123,10])++(linL y (sp (d+1))++(sp d++elsT e (sp d)))))=TT:=⟨_,rfl⟩
 have HLT_:Hid (TT.length≤140737488355328):=zh (by rw [← hTT,List.length_append];exact hlen)
 rw [hTT]
 have HTT:=zh hTT
 generalize (txX ⟨ka,sa,va,oa,ra,qa⟩)=TA at HTA HTT
 clear hbd hn hb hN hB hX hY hEl hs hE hok hd hlen hox hoy hoe hcs hoa hdS hlin hTT HLa
 show Calls Tryz.prog 139 #[PtrTo b,sv 4 ⟨#[]⟩ 0 (some ⟨bz,oz_,none⟩) 1 cA pB y.length cB pE e.length cE q] w fun e' w'=>e'=.returned (.tuple #[])∧BldT 72 [.int .i64 (d:Int)] N b TT w'∧Wrote N b w w'
 go_enter Tryz.func139,Tryz.ntmps139
 go_upto_region 1 with fail
 have hSge:w.heap.size≤w.heap.size:=Nat.le_refl _
 have hb1_:Blk w.heap.size [.int .i64 4,.string ⟨#[]⟩,.int .i64 0,.slice (some ⟨bz,oz_,none⟩) 1 cA,.slice pB y.length cB,.slice pE e.length cE,.int .i64 q] 49 (w.alloc (Obj.cells #[.int .i64 4,.string ⟨#[]⟩,.int .i64 0,.slice (some ⟨bz,oz_,none⟩) 1 cA,.slice pB y.length cB,.slice pE e.length cE,.int .i64 q] 49)):=Blk.new w _ _
 have hgV:Grew w (w.alloc (Obj.cells #[.int .i64 4,.string ⟨#[]⟩,.int .i64 0,.slice (some ⟨bz,oz_,none⟩) 1 cA,.slice pB y.length cB,.slice pE e.length cE,.int .i64 q] 49)):=(Grew.refl w).alloc _
 have hne_:w.heap.size≠b:=by have:=HB.out.lt;omega
 generalize (w.alloc (Obj.cells #[.int .i64 4,.string ⟨#[]⟩,.int .i64 0,.slice (some ⟨bz,oz_,none⟩) 1 cA,.slice pB y.length cB,.slice pE e.length cE,.int .i64 q] 49))=V0 at hb1_ hgV ⊢
 obtain ⟨S,hSS⟩:∃S,w.heap.size=S:=⟨_,rfl⟩
 have HSS:=zh hSS
 rw [hSS] at hb1_ hne_ ⊢
 clear hSS hSge
 have HW0:=zh (Wrote.of_grew (N:=N) (b:=b) hgV HNw.out)
 have HB0:=zh (HB.out.grew hgV)
 have HN0:=zh (Nat.le_trans HNw.out hgV.sz)
 have HX0:=zh hb1_
 have HNE:=zh hne_
 clear hb1_ hgV hne_
 have x0V0:V0.cell? ⟨S,0,none⟩=some (.int .i64 4):=HX0.out.cell 0
 have x1V0:V0.cell? ⟨S,1,none⟩=some (.string ⟨#[]⟩):=HX0.out.cell 1
 have x2V0:V0.cell? ⟨S,2,none⟩=some (.int .i64 0):=HX0.out.cell 2
 have x3V0:V0.cell? ⟨S,3,none⟩=some (.slice (some ⟨bz,oz_,none⟩) 1 cA):=HX0.out.cell 3
 have x4V0:V0.cell? ⟨S,4,none⟩=some (.slice pB y.length cB):=HX0.out.cell 4
 have x5V0:V0.cell? ⟨S,5,none⟩=some (.slice pE e.length cE):=HX0.out.cell 5
 have x6V0:V0.cell? ⟨S,6,none⟩=some (.int .i64 q):=HX0.out.cell 6
 have a0V0:V0.cell? ⟨bz,oz_,none⟩=some (.int .i64 ka):=(by simpa [Nat.add_assoc] using below_cell HW0.out.bel HLTa.out (HCa.out 0 _ rfl))
 have a1V0:V0.cell? ⟨bz,oz_+1,none⟩=some (.string sa):=(by simpa [Nat.add_assoc] using below_cell HW0.out.bel HLTa.out (HCa.out 1 _ rfl))
 have a2V0:V0.cell? ⟨bz,oz_+2,none⟩=some (.int .i16 va):=(by simpa [Nat.add_assoc] using below_cell HW0.out.bel HLTa.out (HCa.out 2 _ rfl))
 have a3V0:V0.cell? ⟨bz,oz_+3,none⟩=some (.int .i64 oa):=(by simpa [Nat.add_assoc] using below_cell HW0.out.bel HLTa.out (HCa.out 3 _ rfl))
 have a4V0:V0.cell? ⟨bz,oz_+4,none⟩=some (.slice pa ra.length ca):=(by simpa [Nat.add_assoc] using below_cell HW0.out.bel HLTa.out (HCa.out 4 _ rfl))
 have a5V0:V0.cell? ⟨bz,oz_+5,none⟩=some (.int .i64 qa):=(by simpa [Nat.add_assoc] using below_cell HW0.out.bel HLTa.out (HCa.out 5 _ rfl))
 go_wp2_with (first
  | (go_at_call 49;(with_reducible refine(HTA.out V0 HN0.out HW0.out).mono ?_);rintro e V1 ⟨rfl,g_⟩;have HW1:=zh (HW0.out.grew g_ HNw.out);have HB1:=zh (HB0.out.grew g_);have HN1:=zh (Nat.le_trans HN0.out g_.sz);have HX1:=zh (HX0.out.grew g_);clear g_;have x0V1:V1.cell? ⟨S,0,none⟩=some (.int .i64 4):=HX1.out.cell 0;have x1V1:V1.cell? ⟨S,1,none⟩=some (.string ⟨#[]⟩):=HX1.out.cell 1;have x2V1:V1.cell? ⟨S,2,none⟩=some (.int .i64 0):=HX1.out.cell 2;have x3V1:V1.cell? ⟨S,3,none⟩=some (.slice (some ⟨bz,oz_,none⟩) 1 cA):=HX1.out.cell 3;have x4V1:V1.cell? ⟨S,4,none⟩=some (.slice pB y.length cB):=HX1.out.cell 4;have x5V1:V1.cell? ⟨S,5,none⟩=some (.slice pE e.length cE):=HX1.out.cell 5;have x6V1:V1.cell? ⟨S,6,none⟩=some (.int .i64 q):=HX1.out.cell 6)
  | (go_at_call 39;(with_reducible refine(lineN_any N b d xs [⟨#[105,102,32]⟩,⟨TA.toArray⟩,⟨#[32,123]⟩] [.string ⟨#[105,102,32]⟩,.string ⟨TA.toArray⟩,.string ⟨#[32,123]⟩] 3 V1.heap.size (V1.alloc (Obj.cells #[.string ⟨#[105,102,32]⟩,.string ⟨TA.toArray⟩,.string ⟨#[32,123]⟩] 9)) (HB1.out.grew ((Grew.refl _).alloc _)) (Nat.le_trans HN1.out ((Grew.refl V1).alloc _).sz) HD.out (Blk.new _ _ _) rfl rfl (by have h1:=HB1.out.lt;omega) (by have h_:=HLT_.out;rw [← HTT.out] at h_;simp [flat] at h_ ⊢;omega) (by decide)).mono ?_);rintro e V2 ⟨rfl,hb_,hw_⟩;have HW2:=zh ((HW1.out.grew ((Grew.refl V1).alloc _) HNw.out).trans hw_);have HB2:=zh hb_;have HN2:=zh (Nat.le_trans (Nat.le_trans HN1.out ((Grew.refl V1).alloc _).sz) hw_.bel.size);have HX2:=zh ((HX1.out.grew ((Grew.refl V1).alloc _)).wrote hw_ HNE.out (by decide));clear hb_ hw_;have x0V2:V2.cell? ⟨S,0,none⟩=some (.int .i64 4):=HX2.out.cell 0;have x1V2:V2.cell? ⟨S,1,none⟩=some (.string ⟨#[]⟩):=HX2.out.cell 1;have x2V2:V2.cell? ⟨S,2,none⟩=some (.int .i64 0):=HX2.out.cell 2;have x3V2:V2.cell? ⟨S,3,none⟩=some (.slice (some ⟨bz,oz_,none⟩) 1 cA):=HX2.out.cell 3;have x4V2:V2.cell? ⟨S,4,none⟩=some (.slice pB y.length cB):=HX2.out.cell 4;have x5V2:V2.cell? ⟨S,5,none⟩=some (.slice pE e.length cE):=HX2.out.cell 5;have x6V2:V2.cell? ⟨S,6,none⟩=some (.int .i64 q):=HX2.out.cell 6)
  | (go_at_call 44;(with_reducible refine(HBD.out y (by have:=HNN.out;omega) N b d _ B V2 pB cB HB2.out HN2.out HBN.out (HY.out.below HBN.out HW2.out.bel) (HE.out.wrote HW2.out) HOY.out HDY.out (by have h_:=HLT_.out;rw [← HTT.out] at h_;simp [flat] at h_ ⊢;omega)).mono ?_);rintro e V3 ⟨rfl,hb_,hw_⟩;have HW3:=zh (HW2.out.trans hw_);have HB3:=zh hb_;have HN3:=zh (Nat.le_trans HN2.out hw_.bel.size);have HX3:=zh (HX2.out.wrote hw_ HNE.out (by decide));clear hb_ hw_;have x0V3:V3.cell? ⟨S,0,none⟩=some (.int .i64 4):=HX3.out.cell 0;have x1V3:V3.cell? ⟨S,1,none⟩=some (.string ⟨#[]⟩):=HX3.out.cell 1;have x2V3:V3.cell? ⟨S,2,none⟩=some (.int .i64 0):=HX3.out.cell 2;have x3V3:V3.cell? ⟨S,3,none⟩=some (.slice (some ⟨bz,oz_,none⟩) 1 cA):=HX3.out.cell 3;have x4V3:V3.cell? ⟨S,4,none⟩=some (.slice pB y.length cB):=HX3.out.cell 4;have x5V3:V3.cell? ⟨S,5,none⟩=some (.slice pE e.length cE):=HX3.out.cell 5;have x6V3:V3.cell? ⟨S,6,none⟩=some (.int .i64 q):=HX3.out.cell 6))
 clear x0V0 x1V0 x2V0 x3V0 x4V0 x5V0 x6V0 x0V1 x1V1 x2V1 x3V1 x4V1 x5V1 x6V1 x0V2 x1V2 x2V2 x3V2 x4V2 x5V2 x6V2 x0V3 x1V3 x2V3 x3V3 x4V3 x5V3 x6V3 a0V0 a1V0 a2V0 a3V0 a4V0 a5V0
 go_loopg [] (nSs e) (fun gg wr=>∃(v0 v1 v2 v3 v4 v6:Value) (peu:Option Addr) (ceu:Nat) (eu:List Sm) (xu:List UInt8),gg=nSs eu∧Hid (Blk S [v0,v1,v2,v3,v4,.slice peu eu.length ceu,v6] 49 wr)∧Hid (SL B w peu ceu eu)∧Hid (okSs eu=true)∧Hid (d+1+dSs eu≤1000∧nSs eu≤n)∧Hid (BldT 72 [.int .i64 (d:Int)] N b xu wr)∧Hid (xu++(sp d++elsT eu (sp d))=TT)∧Hid (Wrote N b w wr)∧Hid (N≤wr.heap.size))
 case atStart=>exact⟨_,_,_,_,_,_,pE,cE,e,_,rfl,HX3,HEL,HOE,HDE,HB3,zh (by have h_:=HTT.out;simpa [flat] using h_),HW3,HN3⟩
 case round =>
  obtain ⟨v0,v1,v2,v3,v4,v6,peu,ceu,eu,xu,rfl,HXr,HSU,HOU,HDN,HBr,HTU,HWr,HNr⟩:=hrel
  rcases eu with _ | ⟨x,_ | ⟨x2,r⟩⟩
  ·-- no else
   have x0wr:wr.cell? ⟨S,0,none⟩=some (v0):=HXr.out.cell 0
   have x1wr:wr.cell? ⟨S,1,none⟩=some (v1):=HXr.out.cell 1
   have x2wr:wr.cell? ⟨S,2,none⟩=some (v2):=HXr.out.cell 2
   have x3wr:wr.cell? ⟨S,3,none⟩=some (v3):=HXr.out.cell 3
   have x4wr:wr.cell? ⟨S,4,none⟩=some (v4):=HXr.out.cell 4
   have x5wr:wr.cell? ⟨S,5,none⟩=some (.slice peu 0 ceu):=HXr.out.cell 5
   have x6wr:wr.cell? ⟨S,6,none⟩=some (v6):=HXr.out.cell 6
   go_wp2_with (first
    | (go_at_call 39;(with_reducible refine(lineN_any N b d _ [⟨#[125]⟩] [.string ⟨#[125]⟩] 1 wr.heap.size (wr.alloc (Obj.cells #[.string ⟨#[125]⟩] 9)) (HBr.out.grew ((Grew.refl _).alloc _)) (Nat.le_trans HNr.out ((Grew.refl wr).alloc _).sz) HD.out (Blk.new _ _ _) rfl rfl (by have h1:=HBr.out.lt;omega) (by have h_:=HLT_.out;rw [← HTU.out,elsT] at h_;simp [flat] at h_ ⊢;omega) (by decide)).mono ?_);rintro e V21 ⟨rfl,hb_,hw_⟩;have HW21:=zh ((HWr.out.grew ((Grew.refl wr).alloc _) HNw.out).trans hw_);have HB21:=zh hb_;have HN21:=zh (Nat.le_trans (Nat.le_trans HNr.out ((Grew.refl wr).alloc _).sz) hw_.bel.size);have HX21:=zh ((HXr.out.grew ((Grew.refl wr).alloc _)).wrote hw_ HNE.out (by decide));clear hb_ hw_;have x0V21:V21.cell? ⟨S,0,none⟩=some (v0):=HX21.out.cell 0;have x1V21:V21.cell? ⟨S,1,none⟩=some (v1):=HX21.out.cell 1;have x2V21:V21.cell? ⟨S,2,none⟩=some (v2):=HX21.out.cell 2;have x3V21:V21.cell? ⟨S,3,none⟩=some (v3):=HX21.out.cell 3;have x4V21:V21.cell? ⟨S,4,none⟩=some (v4):=HX21.out.cell 4;have x5V21:V21.cell? ⟨S,5,none⟩=some (.slice peu 0 ceu):=HX21.out.cell 5;have x6V21:V21.cell? ⟨S,6,none⟩=some (v6):=HX21.out.cell 6))
   go_end0
   exact⟨rfl,by have h_:=HB21.out;rw [← HTU.out,elsT];simpa [flat] using h_,HW21.out⟩
  ·obtain ⟨bs,os_,pau,cau,pbu,cbu,peu2,ceu2,rfl,hbs,has,hys,hes,hcs⟩:=HSU.out.get 0 (by simp)
   replace hbs:B bs∧x.s.size≤1048576:=hbs
   have HLTS:=zh (HBN.out bs hbs.1)
   by_cases hk:x.k=4
   ·have hokx:okS x=true:=by have h_:=HOU.out;rw [okSs,Bool.and_eq_true] at h_;exact h_.1
    have hels:=elsT_if x (sp d) hk
    have hHTU:=HTU.out
    rw [hels] at hHTU
    have hdd:=HDN.out
    obtain ⟨kx,su,nu,ru,yu,eu2,qu⟩:=x
    replace hk:kx=4:=hk
    subst hk
    obtain ⟨hoxu,hoyu,hoeu,hcsu⟩:=okS_cases hokx
    obtain ⟨⟨g,rfl⟩,rfl,rfl⟩:(∃g,ru=[g])∧su=⟨#[]⟩∧nu=0:=by
     rcases hcsu with ⟨hk,_⟩ | ⟨hk,_⟩ | ⟨_,h1,h2,h3⟩ | ⟨hk,_⟩ | ⟨hk,_⟩ | ⟨hk,_⟩ | ⟨hk,_⟩
     ·omega
     ·omega
     ·exact⟨h1,h2,h3⟩
     ·omega
     ·omega
     ·omega
     ·omega
    have hou:=ok1 hoxu
    have hdx:dSs [⟨4,⟨#[]⟩,0,[g],yu,eu2,qu⟩]=max (max (max (dSs yu) (dSs eu2)) (dXs [g])+1) 0:=by rw [dSs,dSs,dS]
    have hnx:nSs [⟨4,⟨#[]⟩,0,[g],yu,eu2,qu⟩]=nSs yu+nSs eu2+1+0:=by rw [nSs,nSs,nS]
    rw [hdx,hnx] at hdd
    have hlu:linS ⟨4,⟨#[]⟩,0,[g],yu,eu2,qu⟩ (sp d)=(([105,102,32]++txX g)++[32,123,10])++(linL yu (sp (d+1))++(sp d++elsT eu2 (sp d))):=by
     rw [linS,if_neg (by rw [hedT,if_pos rfl];simp),(ag0 g []).1,sp_in4]
     show (((((([105,102,32]++txX g)++[32,123])++[10])++linL yu (sp (d+1)))++sp d)++elsT eu2 (sp d))=_
     simp
    rw [hlu] at hHTU
    replace has:XL B w pau cau [g]:=has
    replace hys:SL B w pbu cbu yu:=hys
    replace hes:SL B w peu2 ceu2 eu2:=hes
    have HYU:=zh hys
    have HEU:=zh hes
    have HOYU:=zh hoyu
    have HOEU:=zh hoeu
    have HDYU:Hid (d+1+dSs yu≤1000):=zh (by omega)
    have HDEU:Hid (d+1+dSs eu2≤1000∧nSs eu2≤n):=zh (by omega)
    have HNYU:Hid (nSs yu≤n):=zh (by omega)
    have HMES:Hid (nSs eu2 < nSs [⟨4,⟨#[]⟩,0,[g],yu,eu2,qu⟩]):=zh (by rw [hnx];omega)
    have hcap2:=And.intro has.cap.1 (And.intro hys.cap.1 hes.cap.1)
    have hmax2:=And.intro has.cap.2.1 (And.intro hys.cap.2.1 hes.cap.2.1)
    obtain ⟨bt,ot_,pg,cg,rfl,hbg,hag,hcg⟩:=has.get 0 (by simp)
    obtain ⟨kg,sg,vg,og,rg,qg⟩:=g
    replace hag:XL B w pg cg rg:=hag
    replace hbg:B bt∧sg.size≤1048576∧vg≤32767:=hbg
    have HAg:=zh hag
    have HZg:=zh hbg.2
    have HLTg:=zh (HBN.out bt hbg.1)
    have hcapg:rg.length≤cg:=hag.cap.1
    have hmaxg:=hag.cap.2.1
    have HCg:Hid (∀i_ u_,(xdc ⟨kg,sg,vg,og,pg,rg.length,cg,qg⟩)[i_]?=some u_→w.cell? ⟨bt,ot_+0 * 6+i_,none⟩=some u_):=zh hcg
    clear hag hbg hcg
    have HCS:Hid (∀i_ u_,(sdc ⟨4,⟨#[]⟩,0,some ⟨bt,ot_,none⟩,1,cau,pbu,yu.length,cbu,peu2,eu2.length,ceu2,qu⟩)[i_]?=some u_→w.cell? ⟨bs,os_+0 * 7+i_,none⟩=some u_):=zh hcs
    have HOAg:=zh hou
    have HLg:Hid ((txX ⟨kg,sg,vg,og,rg,qg⟩).length≤140737488355328):=zh (by have h_:=HLT_.out;rw [← hHTU] at h_;simp only [List.length_append] at h_;omega)
    have HTUx:Hid (∀W,N≤W.heap.size→Wrote N b w W→Calls Tryz.prog 49 #[xv kg sg vg og pg rg.length cg qg] W fun e w'=>e=.returned (.string ⟨(txX ⟨kg,sg,vg,og,rg,qg⟩).toArray⟩)∧Grew W w') :=
     zh (fun W hNW hW=>textF_any kg sg vg og rg qg B W pg cg (fun i hi=>Nat.lt_of_lt_of_le (HBN.out i hi) hNW) (HAg.out.below HBN.out hW.bel) HZg.out (HE.out.wrote hW).env HOAg.out HLg.out)
    have HTX:=zh hHTU
    generalize (txX ⟨kg,sg,vg,og,rg,qg⟩)=TU at HTUx HTX
    clear hbs has hys hes hcs hokx hels hHTU hdd hoxu hoyu hoeu hcsu hou hdx hnx hlu HLg HSU HOU HTU
    have x0wr:wr.cell? ⟨S,0,none⟩=some (v0):=HXr.out.cell 0
    have x1wr:wr.cell? ⟨S,1,none⟩=some (v1):=HXr.out.cell 1
    have x2wr:wr.cell? ⟨S,2,none⟩=some (v2):=HXr.out.cell 2
    have x3wr:wr.cell? ⟨S,3,none⟩=some (v3):=HXr.out.cell 3
    have x4wr:wr.cell? ⟨S,4,none⟩=some (v4):=HXr.out.cell 4
    have x5wr:wr.cell? ⟨S,5,none⟩=some (.slice (some ⟨bs,os_,none⟩) 1 ceu):=HXr.out.cell 5
    have x6wr:wr.cell? ⟨S,6,none⟩=some (v6):=HXr.out.cell 6
    have s0wr:wr.cell? ⟨bs,os_,none⟩=some (.int .i64 4):=(by simpa [Nat.add_assoc] using below_cell HWr.out.bel HLTS.out (HCS.out 0 _ rfl))
    have s1wr:wr.cell? ⟨bs,os_+1,none⟩=some (.string ⟨#[]⟩):=(by simpa [Nat.add_assoc] using below_cell HWr.out.bel HLTS.out (HCS.out 1 _ rfl))
    have s2wr:wr.cell? ⟨bs,os_+2,none⟩=some (.int .i64 0):=(by simpa [Nat.add_assoc] using below_cell HWr.out.bel HLTS.out (HCS.out 2 _ rfl))
    have s3wr:wr.cell? ⟨bs,os_+3,none⟩=some (.slice (some ⟨bt,ot_,none⟩) 1 cau):=(by simpa [Nat.add_assoc] using below_cell HWr.out.bel HLTS.out (HCS.out 3 _ rfl))
    have s4wr:wr.cell? ⟨bs,os_+4,none⟩=some (.slice pbu yu.length cbu):=(by simpa [Nat.add_assoc] using below_cell HWr.out.bel HLTS.out (HCS.out 4 _ rfl))
    have s5wr:wr.cell? ⟨bs,os_+5,none⟩=some (.slice peu2 eu2.length ceu2):=(by simpa [Nat.add_assoc] using below_cell HWr.out.bel HLTS.out (HCS.out 5 _ rfl))
    have s6wr:wr.cell? ⟨bs,os_+6,none⟩=some (.int .i64 qu):=(by simpa [Nat.add_assoc] using below_cell HWr.out.bel HLTS.out (HCS.out 6 _ rfl))
    have fS:∀i,wr.frozen? ⟨S,i,none⟩=false:=fun i=>HXr.out.free i
    go_upto_region 5 with fail
    generalize hV:World.setCell _ _ _=V11
    have hSN:N≤S:=by have h1:=HNw.out;have h2:=HSS.out;omega
    have hSw:w.heap.size≤S:=Nat.le_of_eq HSS.out
    have hkp:Kp N b d S [.int .i64 4,.string ⟨#[]⟩,.int .i64 0,.slice (some ⟨bt,ot_,none⟩) 1 cau,.slice pbu yu.length cbu,.slice peu2 eu2.length ceu2,.int .i64 qu] xu w V11:=by
     subst hV
     exact(((((((Kp.mk HXr.out HBr.out HWr.out HNr.out).set HNE.out hSw hSN 0 _).set HNE.out hSw hSN 1 _).set HNE.out hSw hSN 2 _).set HNE.out hSw hSN 3 _).set HNE.out hSw hSN 4 _).set HNE.out hSw hSN 5 _).set HNE.out hSw hSN 6 _
    have HX11:Hid (Blk S [.int .i64 4,.string ⟨#[]⟩,.int .i64 0,.slice (some ⟨bt,ot_,none⟩) 1 cau,.slice pbu yu.length cbu,.slice peu2 eu2.length ceu2,.int .i64 qu] 49 V11):=zh hkp.kx
    have HB11:=zh hkp.kb
    have HW11:=zh hkp.kw
    have HN11:=zh hkp.kn
    clear hV hkp hSN hSw fS x0wr s0wr x1wr s1wr x2wr s2wr x3wr s3wr x4wr s4wr x5wr s5wr x6wr s6wr
    have x0V11:V11.cell? ⟨S,0,none⟩=some (.int .i64 4):=HX11.out.cell 0
    have x1V11:V11.cell? ⟨S,1,none⟩=some (.string ⟨#[]⟩):=HX11.out.cell 1
    have x2V11:V11.cell? ⟨S,2,none⟩=some (.int .i64 0):=HX11.out.cell 2
    have x3V11:V11.cell? ⟨S,3,none⟩=some (.slice (some ⟨bt,ot_,none⟩) 1 cau):=HX11.out.cell 3
    have x4V11:V11.cell? ⟨S,4,none⟩=some (.slice pbu yu.length cbu):=HX11.out.cell 4
    have x5V11:V11.cell? ⟨S,5,none⟩=some (.slice peu2 eu2.length ceu2):=HX11.out.cell 5
    have x6V11:V11.cell? ⟨S,6,none⟩=some (.int .i64 qu):=HX11.out.cell 6
    have g0V11:V11.cell? ⟨bt,ot_,none⟩=some (.int .i64 kg):=(by simpa [Nat.add_assoc] using below_cell HW11.out.bel HLTg.out (HCg.out 0 _ rfl))
    have g1V11:V11.cell? ⟨bt,ot_+1,none⟩=some (.string sg):=(by simpa [Nat.add_assoc] using below_cell HW11.out.bel HLTg.out (HCg.out 1 _ rfl))
    have g2V11:V11.cell? ⟨bt,ot_+2,none⟩=some (.int .i16 vg):=(by simpa [Nat.add_assoc] using below_cell HW11.out.bel HLTg.out (HCg.out 2 _ rfl))
    have g3V11:V11.cell? ⟨bt,ot_+3,none⟩=some (.int .i64 og):=(by simpa [Nat.add_assoc] using below_cell HW11.out.bel HLTg.out (HCg.out 3 _ rfl))
    have g4V11:V11.cell? ⟨bt,ot_+4,none⟩=some (.slice pg rg.length cg):=(by simpa [Nat.add_assoc] using below_cell HW11.out.bel HLTg.out (HCg.out 4 _ rfl))
    have g5V11:V11.cell? ⟨bt,ot_+5,none⟩=some (.int .i64 qg):=(by simpa [Nat.add_assoc] using below_cell HW11.out.bel HLTg.out (HCg.out 5 _ rfl))
    go_wp2_with (first
     | (go_at_call 49;(with_reducible refine(HTUx.out V11 HN11.out HW11.out).mono ?_);rintro e V12 ⟨rfl,g_⟩;have HW12:=zh (HW11.out.grew g_ HNw.out);have HB12:=zh (HB11.out.grew g_);have HN12:=zh (Nat.le_trans HN11.out g_.sz);have HX12:=zh (HX11.out.grew g_);clear g_;have x0V12:V12.cell? ⟨S,0,none⟩=some (.int .i64 4):=HX12.out.cell 0;have x1V12:V12.cell? ⟨S,1,none⟩=some (.string ⟨#[]⟩):=HX12.out.cell 1;have x2V12:V12.cell? ⟨S,2,none⟩=some (.int .i64 0):=HX12.out.cell 2;have x3V12:V12.cell? ⟨S,3,none⟩=some (.slice (some ⟨bt,ot_,none⟩) 1 cau):=HX12.out.cell 3;have x4V12:V12.cell? ⟨S,4,none⟩=some (.slice pbu yu.length cbu):=HX12.out.cell 4;have x5V12:V12.cell? ⟨S,5,none⟩=some (.slice peu2 eu2.length ceu2):=HX12.out.cell 5;have x6V12:V12.cell? ⟨S,6,none⟩=some (.int .i64 qu):=HX12.out.cell 6)
     | (go_at_call 39;(with_reducible refine(lineN_any N b d xu [⟨#[125,32,101,108,115,101,32,105,102,32]⟩,⟨TU.toArray⟩,⟨#[32,123]⟩] [.string ⟨#[125,32,101,108,115,101,32,105,102,32]⟩,.string ⟨TU.toArray⟩,.string ⟨#[32,123]⟩] 3 V12.heap.size (V12.alloc (Obj.cells #[.string ⟨#[125,32,101,108,115,101,32,105,102,32]⟩,.string ⟨TU.toArray⟩,.string ⟨#[32,123]⟩] 9)) (HB12.out.grew ((Grew.refl _).alloc _)) (Nat.le_trans HN12.out ((Grew.refl V12).alloc _).sz) HD.out (Blk.new _ _ _) rfl rfl (by have h1:=HB12.out.lt;omega) (by have h_:=HLT_.out;rw [← HTX.out] at h_;simp [flat] at h_ ⊢;omega) (by decide)).mono ?_);rintro e V13 ⟨rfl,hb_,hw_⟩;have HW13:=zh ((HW12.out.grew ((Grew.refl V12).alloc _) HNw.out).trans hw_);have HB13:=zh hb_;have HN13:=zh (Nat.le_trans (Nat.le_trans HN12.out ((Grew.refl V12).alloc _).sz) hw_.bel.size);have HX13:=zh ((HX12.out.grew ((Grew.refl V12).alloc _)).wrote hw_ HNE.out (by decide));clear hb_ hw_;have x0V13:V13.cell? ⟨S,0,none⟩=some (.int .i64 4):=HX13.out.cell 0;have x1V13:V13.cell? ⟨S,1,none⟩=some (.string ⟨#[]⟩):=HX13.out.cell 1;have x2V13:V13.cell? ⟨S,2,none⟩=some (.int .i64 0):=HX13.out.cell 2;have x3V13:V13.cell? ⟨S,3,none⟩=some (.slice (some ⟨bt,ot_,none⟩) 1 cau):=HX13.out.cell 3;have x4V13:V13.cell? ⟨S,4,none⟩=some (.slice pbu yu.length cbu):=HX13.out.cell 4;have x5V13:V13.cell? ⟨S,5,none⟩=some (.slice peu2 eu2.length ceu2):=HX13.out.cell 5;have x6V13:V13.cell? ⟨S,6,none⟩=some (.int .i64 qu):=HX13.out.cell 6)
     | (go_at_call 44;(with_reducible refine(HBD.out yu HNYU.out N b d _ B V13 pbu cbu HB13.out HN13.out HBN.out (HYU.out.below HBN.out HW13.out.bel) (HE.out.wrote HW13.out) HOYU.out HDYU.out (by have h_:=HLT_.out;rw [← HTX.out] at h_;simp [flat] at h_ ⊢;omega)).mono ?_);rintro e V14 ⟨rfl,hb_,hw_⟩;have HW14:=zh (HW13.out.trans hw_);have HB14:=zh hb_;have HN14:=zh (Nat.le_trans HN13.out hw_.bel.size);have HX14:=zh (HX13.out.wrote hw_ HNE.out (by decide));clear hb_ hw_;have x0V14:V14.cell? ⟨S,0,none⟩=some (.int .i64 4):=HX14.out.cell 0;have x1V14:V14.cell? ⟨S,1,none⟩=some (.string ⟨#[]⟩):=HX14.out.cell 1;have x2V14:V14.cell? ⟨S,2,none⟩=some (.int .i64 0):=HX14.out.cell 2;have x3V14:V14.cell? ⟨S,3,none⟩=some (.slice (some ⟨bt,ot_,none⟩) 1 cau):=HX14.out.cell 3;have x4V14:V14.cell? ⟨S,4,none⟩=some (.slice pbu yu.length cbu):=HX14.out.cell 4;have x5V14:V14.cell? ⟨S,5,none⟩=some (.slice peu2 eu2.length ceu2):=HX14.out.cell 5;have x6V14:V14.cell? ⟨S,6,none⟩=some (.int .i64 qu):=HX14.out.cell 6))
    go_roundg (nSs eu2)
    case measure=>exact HMES.out
    case rel=>exact⟨_,_,_,_,_,_,peu2,ceu2,eu2,_,rfl,HX14,HEU,HOEU,HDEU,HB14,zh (by have h_:=HTX.out;simpa [flat] using h_),HW14,HN14⟩
   ·have HTE:Hid (xu++(sp d++((([125,32,101,108,115,101,32,123,10]++linL [x] (sp (d+1)))++sp d)++[125,10]))=TT):=zh (by
     rw [← HTU.out,elsT_else (sp d) (by simp) (fun z hz=>by rw [List.cons.injEq] at hz;rw [← hz.1];exact hk),sp_in4])
    have h4:w.cell? ⟨bs,os_,none⟩=some (.int .i64 x.k):=by simpa using hcs 0 _ rfl
    have h4r:wr.cell? ⟨bs,os_,none⟩=some (.int .i64 x.k):=below_cell HWr.out.bel HLTS.out h4
    have hk4:(x.k==4)=false:=beq_eq_false_iff_ne.2 hk
    have hc1:1≤ceu:=by have h_:=HSU.out.cap.1;simpa using h_
    have hbm:=HBD.out [x] HDN.out.2
    unfold BdC at hbm
    rw [show ([x]:List Sm).length=1 from rfl] at hbm
    have HBDm:=zh hbm
    clear hbs has hys hes hcs hk h4 HTU hbm
    have x0wr:wr.cell? ⟨S,0,none⟩=some (v0):=HXr.out.cell 0
    have x1wr:wr.cell? ⟨S,1,none⟩=some (v1):=HXr.out.cell 1
    have x2wr:wr.cell? ⟨S,2,none⟩=some (v2):=HXr.out.cell 2
    have x3wr:wr.cell? ⟨S,3,none⟩=some (v3):=HXr.out.cell 3
    have x4wr:wr.cell? ⟨S,4,none⟩=some (v4):=HXr.out.cell 4
    have x5wr:wr.cell? ⟨S,5,none⟩=some (.slice (some ⟨bs,os_,none⟩) 1 ceu):=HXr.out.cell 5
    have x6wr:wr.cell? ⟨S,6,none⟩=some (v6):=HXr.out.cell 6
    generalize x.k=kx at h4r hk4
    go_wp2_with (first
     | (go_at_call 39;(with_reducible refine(lineN_any N b d _ [⟨#[125,32,101,108,115,101,32,123]⟩] [.string ⟨#[125,32,101,108,115,101,32,123]⟩] 1 wr.heap.size (wr.alloc (Obj.cells #[.string ⟨#[125,32,101,108,115,101,32,123]⟩] 9)) (HBr.out.grew ((Grew.refl _).alloc _)) (Nat.le_trans HNr.out ((Grew.refl wr).alloc _).sz) HD.out (Blk.new _ _ _) rfl rfl (by have h1:=HBr.out.lt;omega) (by have h_:=HLT_.out;rw [← HTE.out] at h_;simp [flat] at h_ ⊢;omega) (by decide)).mono ?_);rintro e V21 ⟨rfl,hb_,hw_⟩;have HW21:=zh ((HWr.out.grew ((Grew.refl wr).alloc _) HNw.out).trans hw_);have HB21:=zh hb_;have HN21:=zh (Nat.le_trans (Nat.le_trans HNr.out ((Grew.refl wr).alloc _).sz) hw_.bel.size);have HX21:=zh ((HXr.out.grew ((Grew.refl wr).alloc _)).wrote hw_ HNE.out (by decide));clear hb_ hw_;have x0V21:V21.cell? ⟨S,0,none⟩=some (v0):=HX21.out.cell 0;have x1V21:V21.cell? ⟨S,1,none⟩=some (v1):=HX21.out.cell 1;have x2V21:V21.cell? ⟨S,2,none⟩=some (v2):=HX21.out.cell 2;have x3V21:V21.cell? ⟨S,3,none⟩=some (v3):=HX21.out.cell 3;have x4V21:V21.cell? ⟨S,4,none⟩=some (v4):=HX21.out.cell 4;have x5V21:V21.cell? ⟨S,5,none⟩=some (.slice (some ⟨bs,os_,none⟩) 1 ceu):=HX21.out.cell 5;have x6V21:V21.cell? ⟨S,6,none⟩=some (v6):=HX21.out.cell 6)
     | (go_at_call 44;(with_reducible refine(HBDm.out N b d _ B V21 (some ⟨bs,os_,none⟩) ceu HB21.out HN21.out HBN.out (HSU.out.below HBN.out HW21.out.bel) (HE.out.wrote HW21.out) HOU.out HDN.out.1 (by have h_:=HLT_.out;rw [← HTE.out] at h_;simp [flat] at h_ ⊢;omega)).mono ?_);rintro e V22 ⟨rfl,hb_,hw_⟩;have HW22:=zh (HW21.out.trans hw_);have HB22:=zh hb_;have HN22:=zh (Nat.le_trans HN21.out hw_.bel.size);have HX22:=zh (HX21.out.wrote hw_ HNE.out (by decide));clear hb_ hw_;have x0V22:V22.cell? ⟨S,0,none⟩=some (v0):=HX22.out.cell 0;have x1V22:V22.cell? ⟨S,1,none⟩=some (v1):=HX22.out.cell 1;have x2V22:V22.cell? ⟨S,2,none⟩=some (v2):=HX22.out.cell 2;have x3V22:V22.cell? ⟨S,3,none⟩=some (v3):=HX22.out.cell 3;have x4V22:V22.cell? ⟨S,4,none⟩=some (v4):=HX22.out.cell 4;have x5V22:V22.cell? ⟨S,5,none⟩=some (.slice (some ⟨bs,os_,none⟩) 1 ceu):=HX22.out.cell 5;have x6V22:V22.cell? ⟨S,6,none⟩=some (v6):=HX22.out.cell 6)
     | (go_at_call 39;(with_reducible refine(lineN_any N b d _ [⟨#[125]⟩] [.string ⟨#[125]⟩] 1 V22.heap.size (V22.alloc (Obj.cells #[.string ⟨#[125]⟩] 9)) (HB22.out.grew ((Grew.refl _).alloc _)) (Nat.le_trans HN22.out ((Grew.refl V22).alloc _).sz) HD.out (Blk.new _ _ _) rfl rfl (by have h1:=HB22.out.lt;omega) (by have h_:=HLT_.out;rw [← HTE.out] at h_;simp [flat] at h_ ⊢;omega) (by decide)).mono ?_);rintro e V23 ⟨rfl,hb_,hw_⟩;have HW23:=zh ((HW22.out.grew ((Grew.refl V22).alloc _) HNw.out).trans hw_);have HB23:=zh hb_;have HN23:=zh (Nat.le_trans (Nat.le_trans HN22.out ((Grew.refl V22).alloc _).sz) hw_.bel.size);have HX23:=zh ((HX22.out.grew ((Grew.refl V22).alloc _)).wrote hw_ HNE.out (by decide));clear hb_ hw_;have x0V23:V23.cell? ⟨S,0,none⟩=some (v0):=HX23.out.cell 0;have x1V23:V23.cell? ⟨S,1,none⟩=some (v1):=HX23.out.cell 1;have x2V23:V23.cell? ⟨S,2,none⟩=some (v2):=HX23.out.cell 2;have x3V23:V23.cell? ⟨S,3,none⟩=some (v3):=HX23.out.cell 3;have x4V23:V23.cell? ⟨S,4,none⟩=some (v4):=HX23.out.cell 4;have x5V23:V23.cell? ⟨S,5,none⟩=some (.slice (some ⟨bs,os_,none⟩) 1 ceu):=HX23.out.cell 5;have x6V23:V23.cell? ⟨S,6,none⟩=some (v6):=HX23.out.cell 6))
    go_end0
    exact⟨rfl,by have h_:=HB23.out;rw [← HTE.out];simpa [flat] using h_,HW23.out⟩
  ·have HTE:Hid (xu++(sp d++((([125,32,101,108,115,101,32,123,10]++linL (x :: x2 :: r) (sp (d+1)))++sp d)++[125,10]))=TT):=zh (by
    rw [← HTU.out,elsT_else (sp d) (by simp) (fun z hz=>by simp at hz),sp_in4])
   have hm:=HSU.out.cap
   obtain ⟨m,hm1⟩:∃m,(x :: x2 :: r).length=m:=⟨_,rfl⟩
   have hm2:2≤m:=by rw [← hm1];simp
   have hm3:((m:Int)==1)=false:=beq_eq_false_iff_ne.2 (by omega)
   have hm4:0 < (m:Int):=by omega
   have hm5:m≤ceu:=hm1 ▸ hm.1
   have hm6:=hm.2.1
   have hbm:=HBD.out (x :: x2 :: r) HDN.out.2
   unfold BdC at hbm
   rw [hm1] at hbm HXr
   have HBDm:=zh hbm
   clear HTU hm hbm
   have x0wr:wr.cell? ⟨S,0,none⟩=some (v0):=HXr.out.cell 0
   have x1wr:wr.cell? ⟨S,1,none⟩=some (v1):=HXr.out.cell 1
   have x2wr:wr.cell? ⟨S,2,none⟩=some (v2):=HXr.out.cell 2
   have x3wr:wr.cell? ⟨S,3,none⟩=some (v3):=HXr.out.cell 3
   have x4wr:wr.cell? ⟨S,4,none⟩=some (v4):=HXr.out.cell 4
   have x5wr:wr.cell? ⟨S,5,none⟩=some (.slice peu m ceu):=HXr.out.cell 5
   have x6wr:wr.cell? ⟨S,6,none⟩=some (v6):=HXr.out.cell 6
   have HM1:=zh hm1
   clear hm1
   go_wp2_with (first
    | (go_at_call 39;(with_reducible refine(lineN_any N b d _ [⟨#[125,32,101,108,115,101,32,123]⟩] [.string ⟨#[125,32,101,108,115,101,32,123]⟩] 1 wr.heap.size (wr.alloc (Obj.cells #[.string ⟨#[125,32,101,108,115,101,32,123]⟩] 9)) (HBr.out.grew ((Grew.refl _).alloc _)) (Nat.le_trans HNr.out ((Grew.refl wr).alloc _).sz) HD.out (Blk.new _ _ _) rfl rfl (by have h1:=HBr.out.lt;omega) (by have h_:=HLT_.out;rw [← HTE.out] at h_;simp [flat] at h_ ⊢;omega) (by decide)).mono ?_);rintro e V21 ⟨rfl,hb_,hw_⟩;have HW21:=zh ((HWr.out.grew ((Grew.refl wr).alloc _) HNw.out).trans hw_);have HB21:=zh hb_;have HN21:=zh (Nat.le_trans (Nat.le_trans HNr.out ((Grew.refl wr).alloc _).sz) hw_.bel.size);have HX21:=zh ((HXr.out.grew ((Grew.refl wr).alloc _)).wrote hw_ HNE.out (by decide));clear hb_ hw_;have x0V21:V21.cell? ⟨S,0,none⟩=some (v0):=HX21.out.cell 0;have x1V21:V21.cell? ⟨S,1,none⟩=some (v1):=HX21.out.cell 1;have x2V21:V21.cell? ⟨S,2,none⟩=some (v2):=HX21.out.cell 2;have x3V21:V21.cell? ⟨S,3,none⟩=some (v3):=HX21.out.cell 3;have x4V21:V21.cell? ⟨S,4,none⟩=some (v4):=HX21.out.cell 4;have x5V21:V21.cell? ⟨S,5,none⟩=some (.slice peu m ceu):=HX21.out.cell 5;have x6V21:V21.cell? ⟨S,6,none⟩=some (v6):=HX21.out.cell 6)
    | (go_at_call 44;(with_reducible refine(HBDm.out N b d _ B V21 peu ceu HB21.out HN21.out HBN.out (HSU.out.below HBN.out HW21.out.bel) (HE.out.wrote HW21.out) HOU.out HDN.out.1 (by have h_:=HLT_.out;rw [← HTE.out] at h_;simp [flat] at h_ ⊢;omega)).mono ?_);rintro e V22 ⟨rfl,hb_,hw_⟩;have HW22:=zh (HW21.out.trans hw_);have HB22:=zh hb_;have HN22:=zh (Nat.le_trans HN21.out hw_.bel.size);have HX22:=zh (HX21.out.wrote hw_ HNE.out (by decide));clear hb_ hw_;have x0V22:V22.cell? ⟨S,0,none⟩=some (v0):=HX22.out.cell 0;have x1V22:V22.cell? ⟨S,1,none⟩=some (v1):=HX22.out.cell 1;have x2V22:V22.cell? ⟨S,2,none⟩=some (v2):=HX22.out.cell 2;have x3V22:V22.cell? ⟨S,3,none⟩=some (v3):=HX22.out.cell 3;have x4V22:V22.cell? ⟨S,4,none⟩=some (v4):=HX22.out.cell 4;have x5V22:V22.cell? ⟨S,5,none⟩=some (.slice peu m ceu):=HX22.out.cell 5;have x6V22:V22.cell? ⟨S,6,none⟩=some (v6):=HX22.out.cell 6)
    | (go_at_call 39;(with_reducible refine(lineN_any N b d _ [⟨#[125]⟩] [.string ⟨#[125]⟩] 1 V22.heap.size (V22.alloc (Obj.cells #[.string ⟨#[125]⟩] 9)) (HB22.out.grew ((Grew.refl _).alloc _)) (Nat.le_trans HN22.out ((Grew.refl V22).alloc _).sz) HD.out (Blk.new _ _ _) rfl rfl (by have h1:=HB22.out.lt;omega) (by have h_:=HLT_.out;rw [← HTE.out] at h_;simp [flat] at h_ ⊢;omega) (by decide)).mono ?_);rintro e V23 ⟨rfl,hb_,hw_⟩;have HW23:=zh ((HW22.out.grew ((Grew.refl V22).alloc _) HNw.out).trans hw_);have HB23:=zh hb_;have HN23:=zh (Nat.le_trans (Nat.le_trans HN22.out ((Grew.refl V22).alloc _).sz) hw_.bel.size);have HX23:=zh ((HX22.out.grew ((Grew.refl V22).alloc _)).wrote hw_ HNE.out (by decide));clear hb_ hw_;have x0V23:V23.cell? ⟨S,0,none⟩=some (v0):=HX23.out.cell 0;have x1V23:V23.cell? ⟨S,1,none⟩=some (v1):=HX23.out.cell 1;have x2V23:V23.cell? ⟨S,2,none⟩=some (v2):=HX23.out.cell 2;have x3V23:V23.cell? ⟨S,3,none⟩=some (v3):=HX23.out.cell 3;have x4V23:V23.cell? ⟨S,4,none⟩=some (v4):=HX23.out.cell 4;have x5V23:V23.cell? ⟨S,5,none⟩=some (.slice peu m ceu):=HX23.out.cell 5;have x6V23:V23.cell? ⟨S,6,none⟩=some (v6):=HX23.out.cell 6))
   go_end0
   exact⟨rfl,by have h_:=HB23.out;rw [← HTE.out];simpa [flat] using h_,HW23.out⟩
section
variable {dst:Option Tmp}{ty:TypeId}{pos:String}{after:Array Edge}{g:Option (Nat × Bool)}{a:Act}{w:World}{T:Value→World→Prop}
theorem rn_bs_108_101_116_32_10_32_61_32_15_59 {s0 s1:ByteArray}(hs0:a.eval (.tmp 10)=.string s0) (hs1:a.eval (.tmp 15)=.string s1) (h:T (.slice (some ⟨w.heap.size,0,none⟩) 5 5) (w.alloc (.cells #[.string ⟨#[108,101,116,32]⟩,.string s0,.string ⟨#[32,61,32]⟩,.string s1,.string ⟨#[59]⟩] 9))):Runs Tryz.prog ⟨dst,.buildSlice 24 5 #[(0,.const (.string ⟨#[108,101,116,32]⟩)),(1,.tmp 10),(2,.const (.string ⟨#[32,61,32]⟩)),(3,.tmp 15),(4,.const (.string ⟨#[59]⟩))],ty,pos,after,g⟩ a w T:=by
 refine Runs.value (v:=.slice (some ⟨w.heap.size,0,none⟩) 5 5) (w':=w.alloc (.cells #[.string ⟨#[108,101,116,32]⟩,.string s0,.string ⟨#[32,61,32]⟩,.string s1,.string ⟨#[59]⟩] 9)) ?_ h
 have e10:a.tmps[10]?.getD undef=.string s0:=by rw [slot_get,← slot_eval];exact hs0
 have e15:a.tmps[15]?.getD undef=.string s1:=by rw [slot_get,← slot_eval];exact hs1
 simp only [execOp]
 go_simp
theorem rn_bs_22_32_61_32_27_59 {s0 s1:ByteArray}(hs0:a.eval (.tmp 22)=.string s0) (hs1:a.eval (.tmp 27)=.string s1) (h:T (.slice (some ⟨w.heap.size,0,none⟩) 4 4) (w.alloc (.cells #[.string s0,.string ⟨#[32,61,32]⟩,.string s1,.string ⟨#[59]⟩] 9))):Runs Tryz.prog ⟨dst,.buildSlice 24 4 #[(0,.tmp 22),(1,.const (.string ⟨#[32,61,32]⟩)),(2,.tmp 27),(3,.const (.string ⟨#[59]⟩))],ty,pos,after,g⟩ a w T:=by
 refine Runs.value (v:=.slice (some ⟨w.heap.size,0,none⟩) 4 4) (w':=w.alloc (.cells #[.string s0,.string ⟨#[32,61,32]⟩,.string s1,.string ⟨#[59]⟩] 9)) ?_ h
 have e22:a.tmps[22]?.getD undef=.string s0:=by rw [slot_get,← slot_eval];exact hs0
 have e27:a.tmps[27]?.getD undef=.string s1:=by rw [slot_get,← slot_eval];exact hs1
 simp only [execOp]
 go_simp
theorem rn_bs_34_91_39_93_32_61_32_44_59 {s0 s1 s2:ByteArray}(hs0:a.eval (.tmp 34)=.string s0) (hs1:a.eval (.tmp 39)=.string s1) (hs2:a.eval (.tmp 44)=.string s2) (h:T (.slice (some ⟨w.heap.size,0,none⟩) 6 6) (w.alloc (.cells #[.string s0,.string ⟨#[91]⟩,.string s1,.string ⟨#[93,32,61,32]⟩,.string s2,.string ⟨#[59]⟩] 9))):Runs Tryz.prog ⟨dst,.buildSlice 24 6 #[(0,.tmp 34),(1,.const (.string ⟨#[91]⟩)),(2,.tmp 39),(3,.const (.string ⟨#[93,32,61,32]⟩)),(4,.tmp 44),(5,.const (.string ⟨#[59]⟩))],ty,pos,after,g⟩ a w T:=by
 refine Runs.value (v:=.slice (some ⟨w.heap.size,0,none⟩) 6 6) (w':=w.alloc (.cells #[.string s0,.string ⟨#[91]⟩,.string s1,.string ⟨#[93,32,61,32]⟩,.string s2,.string ⟨#[59]⟩] 9)) ?_ h
 have e34:a.tmps[34]?.getD undef=.string s0:=by rw [slot_get,← slot_eval];exact hs0
 have e39:a.tmps[39]?.getD undef=.string s1:=by rw [slot_get,← slot_eval];exact hs1
 have e44:a.tmps[44]?.getD undef=.string s2:=by rw [slot_get,← slot_eval];exact hs2
 simp only [execOp]
 go_simp
theorem rn_bs_115_101_110_100_32_76_32_81_59 {s0 s1:ByteArray}(hs0:a.eval (.tmp 76)=.string s0) (hs1:a.eval (.tmp 81)=.string s1) (h:T (.slice (some ⟨w.heap.size,0,none⟩) 5 5) (w.alloc (.cells #[.string ⟨#[115,101,110,100,32]⟩,.string s0,.string ⟨#[32]⟩,.string s1,.string ⟨#[59]⟩] 9))):Runs Tryz.prog ⟨dst,.buildSlice 24 5 #[(0,.const (.string ⟨#[115,101,110,100,32]⟩)),(1,.tmp 76),(2,.const (.string ⟨#[32]⟩)),(3,.tmp 81),(4,.const (.string ⟨#[59]⟩))],ty,pos,after,g⟩ a w T:=by
 refine Runs.value (v:=.slice (some ⟨w.heap.size,0,none⟩) 5 5) (w':=w.alloc (.cells #[.string ⟨#[115,101,110,100,32]⟩,.string s0,.string ⟨#[32]⟩,.string s1,.string ⟨#[59]⟩] 9)) ?_ h
 have e76:a.tmps[76]?.getD undef=.string s0:=by rw [slot_get,← slot_eval];exact hs0
 have e81:a.tmps[81]?.getD undef=.string s1:=by rw [slot_get,← slot_eval];exact hs1
 simp only [execOp]
 go_simp
theorem rn_bs_111_117_116_112_117_116_32_98_32_103_59 {s0 s1:ByteArray}(hs0:a.eval (.tmp 98)=.string s0) (hs1:a.eval (.tmp 103)=.string s1) (h:T (.slice (some ⟨w.heap.size,0,none⟩) 5 5) (w.alloc (.cells #[.string ⟨#[111,117,116,112,117,116,32]⟩,.string s0,.string ⟨#[32]⟩,.string s1,.string ⟨#[59]⟩] 9))):Runs Tryz.prog ⟨dst,.buildSlice 24 5 #[(0,.const (.string ⟨#[111,117,116,112,117,116,32]⟩)),(1,.tmp 98),(2,.const (.string ⟨#[32]⟩)),(3,.tmp 103),(4,.const (.string ⟨#[59]⟩))],ty,pos,after,g⟩ a w T:=by
 refine Runs.value (v:=.slice (some ⟨w.heap.size,0,none⟩) 5 5) (w':=w.alloc (.cells #[.string ⟨#[111,117,116,112,117,116,32]⟩,.string s0,.string ⟨#[32]⟩,.string s1,.string ⟨#[59]⟩] 9)) ?_ h
 have e98:a.tmps[98]?.getD undef=.string s0:=by rw [slot_get,← slot_eval];exact hs0
 have e103:a.tmps[103]?.getD undef=.string s1:=by rw [slot_get,← slot_eval];exact hs1
 simp only [execOp]
 go_simp
end
set_option maxHeartbeats 16000000 in
theorem smA_of (n:Nat) (hbd:∀l,nSs l≤n→BdC l):∀(k:Int) (s:ByteArray) (nn:Int) (ar:List Xp) (y e:List Sm) (q:Int),nSs y+nSs e≤n→(k=1∨k=2)→StF 96 k s nn ar y e q:=by
 intro k s nn ar y e q hn hkk N b d xs B w pA cA pB cB pE cE hb hN hB hX hY hEl hs hE hok hd hlen
 obtain ⟨hox,hoy,hoe,hcs⟩:=okS_cases hok
 have hdS:dS ⟨k,s,nn,ar,y,e,q⟩=max (max (dSs y) (dSs e)) (dXs ar)+1:=by rw [dS]
 have hcap:=And.intro hX.cap.1 (And.intro hY.cap.1 hEl.cap.1)
 have hmax:=And.intro hX.cap.2.1 (And.intro hY.cap.2.1 hEl.cap.2.1)
 have HB:=zh hb
 have HNw:=zh hN
 have HBN:=zh hB
 have HE:=zh hE
 have HY:=zh hY
 have HOY:=zh hoy
 have HDY:Hid (d+1+dSs y≤1000):=zh (by rw [hdS] at hd;omega)
 have HD:Hid (d≤1000000):=zh (by omega)
 clear hdS
 rcases hkk with rfl | rfl
 ·skip
  rcases hcs with ⟨_,⟨a,rfl⟩,hid_,rfl,rfl,rfl⟩ | ⟨hk_,_⟩ | ⟨hk_,_⟩ | ⟨hk_,_⟩ | ⟨hk_,_⟩ | ⟨hk_,_⟩ | ⟨hk_,_⟩
  ·skip
   have hoa:=ok1 hox
   have hlin:linS ⟨1,s,0,[a],[],[],q⟩ (sp d)=(((([108,101,116,32]++s.data.toList)++[32,61,32])++txX a)++[59])++[10]:=by rw [linS,if_pos (by simp [hedT]),(ag0 a []).1];rfl
   rw [hlin] at hlen ⊢
   obtain ⟨bz,oz_,pa,ca,rfl,hba,haa,hca⟩:=hX.get 0 (by simp)
   obtain ⟨ka,sa,va,oa,ra,qa⟩:=a
   replace haa:XL B w pa ca ra:=haa
   replace hba:B bz∧sa.size≤1048576∧va≤32767:=hba
   have HAa:=zh haa
   have HZa:=zh hba.2
   have HLTa:=zh (HBN.out bz hba.1)
   have hcapa:ra.length≤ca:=haa.cap.1
   have hmaxa:=haa.cap.2.1
   have HCa:Hid (∀i_ u_,(xdc ⟨ka,sa,va,oa,pa,ra.length,ca,qa⟩)[i_]?=some u_→w.cell? ⟨bz,oz_+0 * 6+i_,none⟩=some u_):=zh hca
   clear haa hba hca
   have HOAa:=zh hoa
   have HLa:Hid ((txX ⟨ka,sa,va,oa,ra,qa⟩).length≤140737488355328):=zh (by simp only [List.length_append] at hlen;omega)
   have HTA:Hid (∀W,N≤W.heap.size→Wrote N b w W→Calls Tryz.prog 49 #[xv ka sa va oa pa ra.length ca qa] W fun e w'=>e=.returned (.string ⟨(txX ⟨ka,sa,va,oa,ra,qa⟩).toArray⟩)∧Grew W w') :=
    zh (fun W hNW hW=>textF_any ka sa va oa ra qa B W pa ca (fun i hi=>Nat.lt_of_lt_of_le (HBN.out i hi) hNW) (HAa.out.below HBN.out hW.bel) HZa.out (HE.out.wrote hW).env HOAa.out HLa.out)
   obtain ⟨TT,hTT⟩:∃TT,xs++(sp d++((((([108,101,116,32]++s.data.toList)++[32,61,32])++(txX ⟨ka,sa,va,oa,ra,qa⟩))++[59])++[10]))=TT:=⟨_,rfl⟩
   have HLT_:Hid (TT.length≤140737488355328):=zh (by rw [← hTT,List.length_append];exact hlen)
   rw [hTT]
   have HTT:=zh hTT
   generalize (txX ⟨ka,sa,va,oa,ra,qa⟩)=TA at HTA HTT
   clear hb hN hB hX hY hEl hE hok hd hlen hox hoy hoe hlin hTT hs hn hbd HLa
   show Calls Tryz.prog 96 #[PtrTo b,sv 1 s 0 (some ⟨bz,oz_,none⟩) 1 cA pB 0 cB pE 0 cE q] w fun e' w'=>e'=.returned (.tuple #[])∧BldT 72 [.int .i64 (d:Int)] N b TT w'∧Wrote N b w w'
   go_enter Tryz.func96,Tryz.ntmps96
   go_upto_region 1 with fail
   have hb1_:Blk w.heap.size [.int .i64 1,.string s,.int .i64 0,.slice (some ⟨bz,oz_,none⟩) 1 cA,.slice pB 0 cB,.slice pE 0 cE,.int .i64 q] 49 (w.alloc (Obj.cells #[.int .i64 1,.string s,.int .i64 0,.slice (some ⟨bz,oz_,none⟩) 1 cA,.slice pB 0 cB,.slice pE 0 cE,.int .i64 q] 49)):=Blk.new w _ _
   have hgV:Grew w (w.alloc (Obj.cells #[.int .i64 1,.string s,.int .i64 0,.slice (some ⟨bz,oz_,none⟩) 1 cA,.slice pB 0 cB,.slice pE 0 cE,.int .i64 q] 49)):=(Grew.refl w).alloc _
   have hne_:w.heap.size≠b:=by have:=HB.out.lt;omega
   generalize (w.alloc (Obj.cells #[.int .i64 1,.string s,.int .i64 0,.slice (some ⟨bz,oz_,none⟩) 1 cA,.slice pB 0 cB,.slice pE 0 cE,.int .i64 q] 49))=V0 at hb1_ hgV ⊢
   generalize w.heap.size=S at hb1_ hne_ ⊢
   have HW0:=zh (Wrote.of_grew (N:=N) (b:=b) hgV HNw.out)
   have HB0:=zh (HB.out.grew hgV)
   have HN0:=zh (Nat.le_trans HNw.out hgV.sz)
   have HX0:=zh hb1_
   have HNE:=zh hne_
   clear hb1_ hgV hne_
   have x0V0:V0.cell? ⟨S,0,none⟩=some (.int .i64 1):=HX0.out.cell 0
   have x1V0:V0.cell? ⟨S,1,none⟩=some (.string s):=HX0.out.cell 1
   have x2V0:V0.cell? ⟨S,2,none⟩=some (.int .i64 0):=HX0.out.cell 2
   have x3V0:V0.cell? ⟨S,3,none⟩=some (.slice (some ⟨bz,oz_,none⟩) 1 cA):=HX0.out.cell 3
   have x4V0:V0.cell? ⟨S,4,none⟩=some (.slice pB 0 cB):=HX0.out.cell 4
   have x5V0:V0.cell? ⟨S,5,none⟩=some (.slice pE 0 cE):=HX0.out.cell 5
   have x6V0:V0.cell? ⟨S,6,none⟩=some (.int .i64 q):=HX0.out.cell 6
   go_upto_region 3 with fail
   have d0:Atv ⟨S,0,none⟩ (.int .i64 1) V0.drew:=(HX0.out.grew (Grew.refl _).drw).atv 0 rfl
   have d1:Atv ⟨S,1,none⟩ (.string s) V0.drew:=(HX0.out.grew (Grew.refl _).drw).atv 1 rfl
   have d2:Atv ⟨S,2,none⟩ (.int .i64 0) V0.drew:=(HX0.out.grew (Grew.refl _).drw).atv 2 rfl
   have d3:Atv ⟨S,3,none⟩ (.slice (some ⟨bz,oz_,none⟩) 1 cA) V0.drew:=(HX0.out.grew (Grew.refl _).drw).atv 3 rfl
   have d4:Atv ⟨S,4,none⟩ (.slice pB 0 cB) V0.drew:=(HX0.out.grew (Grew.refl _).drw).atv 4 rfl
   have bw_:Below N w V0.drew:=Below.drew HW0.out.bel
   have a0:Atv ⟨bz,oz_+0 * 6,none⟩ (.int .i64 ka) V0.drew:=below_cell bw_ HLTa.out (HCa.out 0 _ rfl)
   have a1:Atv ⟨bz,oz_+0 * 6+1,none⟩ (.string sa) V0.drew:=below_cell bw_ HLTa.out (HCa.out 1 _ rfl)
   have a2:Atv ⟨bz,oz_+0 * 6+2,none⟩ (.int .i16 va) V0.drew:=below_cell bw_ HLTa.out (HCa.out 2 _ rfl)
   have a3:Atv ⟨bz,oz_+0 * 6+3,none⟩ (.int .i64 oa) V0.drew:=below_cell bw_ HLTa.out (HCa.out 3 _ rfl)
   have a4:Atv ⟨bz,oz_+0 * 6+4,none⟩ (.slice pa ra.length ca) V0.drew:=below_cell bw_ HLTa.out (HCa.out 4 _ rfl)
   have a5:Atv ⟨bz,oz_+0 * 6+5,none⟩ (.int .i64 qa) V0.drew:=below_cell bw_ HLTa.out (HCa.out 5 _ rfl)
   refine wp_grew_tail 9 [some 8,some 9,some 10,some 11,some 12,some 13,some 14,some 15,some 16] (Zfd (Ztd (Zta (Zfg (Zfg (Zfg (Zfe (Zfc (Zfa []))))))))) [fun v _=>v=.pointer (some ⟨b,0,none⟩),fun v _=>v=.pointer (some ⟨S,1,none⟩),fun v _=>v=.string s,fun v _=>v=.pointer (some ⟨S,3,none⟩),fun v _=>v=.slice (some ⟨bz,oz_,none⟩) (1) (cA),fun v _=>v=.pointer (some ⟨bz,oz_+0 * 6,none⟩),fun v _=>v=.agg #[.int .i64 (ka),.string sa,.int .i16 (va),.int .i64 (oa),.slice pa ra.length ca,.int .i64 (qa)],fun v _=>v=.string ⟨(TA).toArray⟩,fun v w=>∃g_,v=.slice (some ⟨g_,0,none⟩) 5 5∧V0.drew.heap.size≤g_∧Blk g_ [.string ⟨#[108,101,116,32]⟩,.string s,.string ⟨#[32,61,32]⟩,.string ⟨TA.toArray⟩,.string ⟨#[59]⟩] 9 w] (by kernel_rfl) (by kernel_rfl) (by kernel_rfl) rfl ?_ ⟨?_,?_,?_,?_,?_,?_,?_,?_,?_,trivial⟩ ?_
   ·exact⟨Zi,Zi,Zi,Zi,Zi,Zi,Zi,Zi,fun _ _ _ hg ⟨S,h1,h2,h3⟩=>⟨S,h1,h2,h3.grew hg⟩,trivial⟩
   ·intro u w hR hd;exact runs_mv (ev rfl) Zr
   ·intro u w hR hd;exact rn_fld_49_1 (ev rfl) Zr
   ·intro u w hR hd;exact rn_ld_9 (ev (hd.1 rfl)) (d1.kept hR) Zr
   ·intro u w hR hd;exact rn_fld_49_3 (ev rfl) Zr
   ·intro u w hR hd;exact rn_ld_33 (ev (hd.1 rfl)) (d3.kept hR) Zr
   ·intro u w hR hd;exact rn_idx_33 (0) (ev (hd.1 rfl)) rfl (by omega) Zr
   ·intro u w hR hd;exact rn_ld_35 (ev (hd.1 rfl)) (a0.kept hR) (a1.kept hR) (a2.kept hR) (a3.kept hR) (a4.kept hR) (a5.kept hR) Zr
   ·intro u w hR hd;exact runs_c1 en_txt (ev (hd.1 rfl)) (callp (fun _ e=>e) (HTA.out _ (Nat.le_trans HN0.out ((Grew.refl _).drw.trans hR).sz) (HW0.out.grew ((Grew.refl _).drw.trans hR) HNw.out)))
   ·intro u w hR hd;exact rn_bs_108_101_116_32_10_32_61_32_15_59 (ev (hd.1 rfl)) (ev (hd.2.1 rfl)) ⟨(Grew.refl _).alloc _,⟨_,rfl,hR.sz,heap_alloc_new _ _⟩⟩
   ·intro u w5 hR h
    have g5:Grew V0 w5:=(Grew.refl V0).drw.trans hR
    have HB5:=zh (HB0.out.grew g5)
    have HN5:=zh (Nat.le_trans HN0.out g5.sz)
    have HW5:=zh (HW0.out.grew g5 HNw.out)
    obtain ⟨g_,hs_,hge,hbk⟩:∃g_,u 16=.slice (some ⟨g_,0,none⟩) 5 5∧V0.drew.heap.size≤g_∧Blk g_ [.string ⟨#[108,101,116,32]⟩,.string s,.string ⟨#[32,61,32]⟩,.string ⟨TA.toArray⟩,.string ⟨#[59]⟩] 9 w5:=h 8 (by decide)
    have hgb:g_≠b:=by have h1:=HB0.out.lt;have h2:V0.drew.heap.size=V0.heap.size:=rfl;omega
    have e0:u 8=PtrTo b:=h 0 (by decide)
    refine wpAny_one (i:=9) (some 17) (by kernel_rfl) rfl rfl rfl (runs_c2 en_ln (ev e0) (ev hs_) ((lineN_any N b d xs [(⟨#[108,101,116,32]⟩:ByteArray),s,(⟨#[32,61,32]⟩:ByteArray),⟨TA.toArray⟩,(⟨#[59]⟩:ByteArray)] _ 5 g_ w5 HB5.out HN5.out HD.out hbk rfl rfl hgb (by have h_:=HLT_.out;rw [← HTT.out] at h_;simp [flat] at h_ ⊢;omega) (by decide)).mono ?_))
    rintro e_ w6 ⟨rfl,hb_,hw_⟩
    refine⟨_,rfl,?_⟩
    refine wpAny_done (by kernel_rfl) ?_ _
    simp only [zz1,zz2,zz3,Act.put,mixA,mixL,zz9,zz0,zz4,zz5,zz6]
    try simp only [Nat.zero_add,Nat.reduceAdd]
    generalize u 8=z8
    generalize u 9=z9
    generalize u 10=z10
    generalize u 11=z11
    generalize u 12=z12
    generalize u 13=z13
    generalize u 14=z14
    generalize u 15=z15
    generalize u 16=z16
    have HB6:=zh hb_
    have HW6:=zh (HW5.out.trans hw_)
    clear hs_ hbk hb_ hw_ h hR g5
    go_wp2
    go_end0
    exact⟨rfl,by have h_:=HB6.out;rw [← HTT.out];simpa [flat] using h_,HW6.out⟩
  ·exfalso;omega
  ·exfalso;omega
  ·exfalso;omega
  ·exfalso;omega
  ·exfalso;omega
  ·exfalso;omega
 ·skip
  rcases hcs with ⟨_,⟨a,rfl⟩,hid_,rfl,rfl,rfl⟩ | ⟨hk_,_⟩ | ⟨hk_,_⟩ | ⟨hk_,_⟩ | ⟨hk_,_⟩ | ⟨hk_,_⟩ | ⟨hk_,_⟩
  ·skip
   have hoa:=ok1 hox
   have hlin:linS ⟨2,s,0,[a],[],[],q⟩ (sp d)=(((s.data.toList++[32,61,32])++txX a)++[59])++[10]:=by rw [linS,if_pos (by simp [hedT]),(ag0 a []).1];rfl
   rw [hlin] at hlen ⊢
   obtain ⟨bz,oz_,pa,ca,rfl,hba,haa,hca⟩:=hX.get 0 (by simp)
   obtain ⟨ka,sa,va,oa,ra,qa⟩:=a
   replace haa:XL B w pa ca ra:=haa
   replace hba:B bz∧sa.size≤1048576∧va≤32767:=hba
   have HAa:=zh haa
   have HZa:=zh hba.2
   have HLTa:=zh (HBN.out bz hba.1)
   have hcapa:ra.length≤ca:=haa.cap.1
   have hmaxa:=haa.cap.2.1
   have HCa:Hid (∀i_ u_,(xdc ⟨ka,sa,va,oa,pa,ra.length,ca,qa⟩)[i_]?=some u_→w.cell? ⟨bz,oz_+0 * 6+i_,none⟩=some u_):=zh hca
   clear haa hba hca
   have HOAa:=zh hoa
   have HLa:Hid ((txX ⟨ka,sa,va,oa,ra,qa⟩).length≤140737488355328):=zh (by simp only [List.length_append] at hlen;omega)
   have HTA:Hid (∀W,N≤W.heap.size→Wrote N b w W→Calls Tryz.prog 49 #[xv ka sa va oa pa ra.length ca qa] W fun e w'=>e=.returned (.string ⟨(txX ⟨ka,sa,va,oa,ra,qa⟩).toArray⟩)∧Grew W w') :=
    zh (fun W hNW hW=>textF_any ka sa va oa ra qa B W pa ca (fun i hi=>Nat.lt_of_lt_of_le (HBN.out i hi) hNW) (HAa.out.below HBN.out hW.bel) HZa.out (HE.out.wrote hW).env HOAa.out HLa.out)
   obtain ⟨TT,hTT⟩:∃TT,xs++(sp d++((((s.data.toList++[32,61,32])++(txX ⟨ka,sa,va,oa,ra,qa⟩))++[59])++[10]))=TT:=⟨_,rfl⟩
   have HLT_:Hid (TT.length≤140737488355328):=zh (by rw [← hTT,List.length_append];exact hlen)
   rw [hTT]
   have HTT:=zh hTT
   generalize (txX ⟨ka,sa,va,oa,ra,qa⟩)=TA at HTA HTT
   clear hb hN hB hX hY hEl hE hok hd hlen hox hoy hoe hlin hTT hs hn hbd HLa
   show Calls Tryz.prog 96 #[PtrTo b,sv 2 s 0 (some ⟨bz,oz_,none⟩) 1 cA pB 0 cB pE 0 cE q] w fun e' w'=>e'=.returned (.tuple #[])∧BldT 72 [.int .i64 (d:Int)] N b TT w'∧Wrote N b w w'
   go_enter Tryz.func96,Tryz.ntmps96
   go_upto_region 1 with fail
   have hb1_:Blk w.heap.size [.int .i64 2,.string s,.int .i64 0,.slice (some ⟨bz,oz_,none⟩) 1 cA,.slice pB 0 cB,.slice pE 0 cE,.int .i64 q] 49 (w.alloc (Obj.cells #[.int .i64 2,.string s,.int .i64 0,.slice (some ⟨bz,oz_,none⟩) 1 cA,.slice pB 0 cB,.slice pE 0 cE,.int .i64 q] 49)):=Blk.new w _ _
   have hgV:Grew w (w.alloc (Obj.cells #[.int .i64 2,.string s,.int .i64 0,.slice (some ⟨bz,oz_,none⟩) 1 cA,.slice pB 0 cB,.slice pE 0 cE,.int .i64 q] 49)):=(Grew.refl w).alloc _
   have hne_:w.heap.size≠b:=by have:=HB.out.lt;omega
   generalize (w.alloc (Obj.cells #[.int .i64 2,.string s,.int .i64 0,.slice (some ⟨bz,oz_,none⟩) 1 cA,.slice pB 0 cB,.slice pE 0 cE,.int .i64 q] 49))=V0 at hb1_ hgV ⊢
   generalize w.heap.size=S at hb1_ hne_ ⊢
   have HW0:=zh (Wrote.of_grew (N:=N) (b:=b) hgV HNw.out)
   have HB0:=zh (HB.out.grew hgV)
   have HN0:=zh (Nat.le_trans HNw.out hgV.sz)
   have HX0:=zh hb1_
   have HNE:=zh hne_
   clear hb1_ hgV hne_
   have x0V0:V0.cell? ⟨S,0,none⟩=some (.int .i64 2):=HX0.out.cell 0
   have x1V0:V0.cell? ⟨S,1,none⟩=some (.string s):=HX0.out.cell 1
   have x2V0:V0.cell? ⟨S,2,none⟩=some (.int .i64 0):=HX0.out.cell 2
   have x3V0:V0.cell? ⟨S,3,none⟩=some (.slice (some ⟨bz,oz_,none⟩) 1 cA):=HX0.out.cell 3
   have x4V0:V0.cell? ⟨S,4,none⟩=some (.slice pB 0 cB):=HX0.out.cell 4
   have x5V0:V0.cell? ⟨S,5,none⟩=some (.slice pE 0 cE):=HX0.out.cell 5
   have x6V0:V0.cell? ⟨S,6,none⟩=some (.int .i64 q):=HX0.out.cell 6
   go_upto_region 5 with fail
   have d0:Atv ⟨S,0,none⟩ (.int .i64 2) V0.drew:=(HX0.out.grew (Grew.refl _).drw).atv 0 rfl
   have d1:Atv ⟨S,1,none⟩ (.string s) V0.drew:=(HX0.out.grew (Grew.refl _).drw).atv 1 rfl
   have d2:Atv ⟨S,2,none⟩ (.int .i64 0) V0.drew:=(HX0.out.grew (Grew.refl _).drw).atv 2 rfl
   have d3:Atv ⟨S,3,none⟩ (.slice (some ⟨bz,oz_,none⟩) 1 cA) V0.drew:=(HX0.out.grew (Grew.refl _).drw).atv 3 rfl
   have d4:Atv ⟨S,4,none⟩ (.slice pB 0 cB) V0.drew:=(HX0.out.grew (Grew.refl _).drw).atv 4 rfl
   have bw_:Below N w V0.drew:=Below.drew HW0.out.bel
   have a0:Atv ⟨bz,oz_+0 * 6,none⟩ (.int .i64 ka) V0.drew:=below_cell bw_ HLTa.out (HCa.out 0 _ rfl)
   have a1:Atv ⟨bz,oz_+0 * 6+1,none⟩ (.string sa) V0.drew:=below_cell bw_ HLTa.out (HCa.out 1 _ rfl)
   have a2:Atv ⟨bz,oz_+0 * 6+2,none⟩ (.int .i16 va) V0.drew:=below_cell bw_ HLTa.out (HCa.out 2 _ rfl)
   have a3:Atv ⟨bz,oz_+0 * 6+3,none⟩ (.int .i64 oa) V0.drew:=below_cell bw_ HLTa.out (HCa.out 3 _ rfl)
   have a4:Atv ⟨bz,oz_+0 * 6+4,none⟩ (.slice pa ra.length ca) V0.drew:=below_cell bw_ HLTa.out (HCa.out 4 _ rfl)
   have a5:Atv ⟨bz,oz_+0 * 6+5,none⟩ (.int .i64 qa) V0.drew:=below_cell bw_ HLTa.out (HCa.out 5 _ rfl)
   refine wp_grew_tail 9 [some 20,some 21,some 22,some 23,some 24,some 25,some 26,some 27,some 28] (Zfe (Zfc (Ztd (Zta (Zfg (Zfg (Zfg (Zfd (Zfa []))))))))) [fun v _=>v=.pointer (some ⟨b,0,none⟩),fun v _=>v=.pointer (some ⟨S,1,none⟩),fun v _=>v=.string s,fun v _=>v=.pointer (some ⟨S,3,none⟩),fun v _=>v=.slice (some ⟨bz,oz_,none⟩) (1) (cA),fun v _=>v=.pointer (some ⟨bz,oz_+0 * 6,none⟩),fun v _=>v=.agg #[.int .i64 (ka),.string sa,.int .i16 (va),.int .i64 (oa),.slice pa ra.length ca,.int .i64 (qa)],fun v _=>v=.string ⟨(TA).toArray⟩,fun v w=>∃g_,v=.slice (some ⟨g_,0,none⟩) 4 4∧V0.drew.heap.size≤g_∧Blk g_ [.string s,.string ⟨#[32,61,32]⟩,.string ⟨TA.toArray⟩,.string ⟨#[59]⟩] 9 w] (by kernel_rfl) (by kernel_rfl) (by kernel_rfl) rfl ?_ ⟨?_,?_,?_,?_,?_,?_,?_,?_,?_,trivial⟩ ?_
   ·exact⟨Zi,Zi,Zi,Zi,Zi,Zi,Zi,Zi,fun _ _ _ hg ⟨S,h1,h2,h3⟩=>⟨S,h1,h2,h3.grew hg⟩,trivial⟩
   ·intro u w hR hd;exact runs_mv (ev rfl) Zr
   ·intro u w hR hd;exact rn_fld_49_1 (ev rfl) Zr
   ·intro u w hR hd;exact rn_ld_9 (ev (hd.1 rfl)) (d1.kept hR) Zr
   ·intro u w hR hd;exact rn_fld_49_3 (ev rfl) Zr
   ·intro u w hR hd;exact rn_ld_33 (ev (hd.1 rfl)) (d3.kept hR) Zr
   ·intro u w hR hd;exact rn_idx_33 (0) (ev (hd.1 rfl)) rfl (by omega) Zr
   ·intro u w hR hd;exact rn_ld_35 (ev (hd.1 rfl)) (a0.kept hR) (a1.kept hR) (a2.kept hR) (a3.kept hR) (a4.kept hR) (a5.kept hR) Zr
   ·intro u w hR hd;exact runs_c1 en_txt (ev (hd.1 rfl)) (callp (fun _ e=>e) (HTA.out _ (Nat.le_trans HN0.out ((Grew.refl _).drw.trans hR).sz) (HW0.out.grew ((Grew.refl _).drw.trans hR) HNw.out)))
   ·intro u w hR hd;exact rn_bs_22_32_61_32_27_59 (ev (hd.1 rfl)) (ev (hd.2.1 rfl)) ⟨(Grew.refl _).alloc _,⟨_,rfl,hR.sz,heap_alloc_new _ _⟩⟩
   ·intro u w5 hR h
    have g5:Grew V0 w5:=(Grew.refl V0).drw.trans hR
    have HB5:=zh (HB0.out.grew g5)
    have HN5:=zh (Nat.le_trans HN0.out g5.sz)
    have HW5:=zh (HW0.out.grew g5 HNw.out)
    obtain ⟨g_,hs_,hge,hbk⟩:∃g_,u 28=.slice (some ⟨g_,0,none⟩) 4 4∧V0.drew.heap.size≤g_∧Blk g_ [.string s,.string ⟨#[32,61,32]⟩,.string ⟨TA.toArray⟩,.string ⟨#[59]⟩] 9 w5:=h 8 (by decide)
    have hgb:g_≠b:=by have h1:=HB0.out.lt;have h2:V0.drew.heap.size=V0.heap.size:=rfl;omega
    have e0:u 20=PtrTo b:=h 0 (by decide)
    refine wpAny_one (i:=9) (some 29) (by kernel_rfl) rfl rfl rfl (runs_c2 en_ln (ev e0) (ev hs_) ((lineN_any N b d xs [s,(⟨#[32,61,32]⟩:ByteArray),⟨TA.toArray⟩,(⟨#[59]⟩:ByteArray)] _ 4 g_ w5 HB5.out HN5.out HD.out hbk rfl rfl hgb (by have h_:=HLT_.out;rw [← HTT.out] at h_;simp [flat] at h_ ⊢;omega) (by decide)).mono ?_))
    rintro e_ w6 ⟨rfl,hb_,hw_⟩
    refine⟨_,rfl,?_⟩
    refine wpAny_done (by kernel_rfl) ?_ _
    simp only [zz1,zz2,zz3,Act.put,mixA,mixL,zz9,zz0,zz4,zz5,zz6]
    try simp only [Nat.zero_add,Nat.reduceAdd]
    generalize u 20=z20
    generalize u 21=z21
    generalize u 22=z22
    generalize u 23=z23
    generalize u 24=z24
    generalize u 25=z25
    generalize u 26=z26
    generalize u 27=z27
    generalize u 28=z28
    have HB6:=zh hb_
    have HW6:=zh (HW5.out.trans hw_)
    clear hs_ hbk hb_ hw_ h hR g5
    go_wp2
    go_end0
    exact⟨rfl,by have h_:=HB6.out;rw [← HTT.out];simpa [flat] using h_,HW6.out⟩
  ·exfalso;omega
  ·exfalso;omega
  ·exfalso;omega
  ·exfalso;omega
  ·exfalso;omega
  ·exfalso;omega
set_option maxHeartbeats 16000000 in
theorem smB_of (n:Nat) (hbd:∀l,nSs l≤n→BdC l):∀(k:Int) (s:ByteArray) (nn:Int) (ar:List Xp) (y e:List Sm) (q:Int),nSs y+nSs e≤n→(k=3∨k=7)→StF 96 k s nn ar y e q:=by
 intro k s nn ar y e q hn hkk N b d xs B w pA cA pB cB pE cE hb hN hB hX hY hEl hs hE hok hd hlen
 obtain ⟨hox,hoy,hoe,hcs⟩:=okS_cases hok
 have hdS:dS ⟨k,s,nn,ar,y,e,q⟩=max (max (dSs y) (dSs e)) (dXs ar)+1:=by rw [dS]
 have hcap:=And.intro hX.cap.1 (And.intro hY.cap.1 hEl.cap.1)
 have hmax:=And.intro hX.cap.2.1 (And.intro hY.cap.2.1 hEl.cap.2.1)
 have HB:=zh hb
 have HNw:=zh hN
 have HBN:=zh hB
 have HE:=zh hE
 have HY:=zh hY
 have HOY:=zh hoy
 have HDY:Hid (d+1+dSs y≤1000):=zh (by rw [hdS] at hd;omega)
 have HD:Hid (d≤1000000):=zh (by omega)
 clear hdS
 rcases hkk with rfl | rfl
 ·skip
  rcases hcs with ⟨hk_,_⟩ | ⟨_,⟨a,c,rfl⟩,hid_,rfl,rfl,rfl⟩ | ⟨hk_,_⟩ | ⟨hk_,_⟩ | ⟨hk_,_⟩ | ⟨hk_,_⟩ | ⟨hk_,_⟩
  ·exfalso;omega
  ·skip
   have hoa:=ok1 hox
   have hoc:=ok2 hox
   have hlin:linS ⟨3,s,0,[a,c],[],[],q⟩ (sp d)=(((((s.data.toList++[91])++txX a)++[93,32,61,32])++txX c)++[59])++[10]:=by rw [linS,if_pos (by simp [hedT]),(ag0 a [c]).1,(ag1 a c []).1];rfl
   rw [hlin] at hlen ⊢
   obtain ⟨bz,oz_,pa,ca,rfl,hba,haa,hca⟩:=hX.get 0 (by simp)
   obtain ⟨ka,sa,va,oa,ra,qa⟩:=a
   replace haa:XL B w pa ca ra:=haa
   replace hba:B bz∧sa.size≤1048576∧va≤32767:=hba
   have HAa:=zh haa
   have HZa:=zh hba.2
   have HLTa:=zh (HBN.out bz hba.1)
   have hcapa:ra.length≤ca:=haa.cap.1
   have hmaxa:=haa.cap.2.1
   have HCa:Hid (∀i_ u_,(xdc ⟨ka,sa,va,oa,pa,ra.length,ca,qa⟩)[i_]?=some u_→w.cell? ⟨bz,oz_+0 * 6+i_,none⟩=some u_):=zh hca
   clear haa hba hca
   obtain ⟨bz1,oz1,pc,cc,he1,hbc,hac,hcc⟩:=hX.get 1 (by simp)
   obtain ⟨rfl,rfl⟩:bz=bz1∧oz_=oz1:=by simpa using he1
   obtain ⟨kc,sc,vc,oc,rc,qc⟩:=c
   replace hac:XL B w pc cc rc:=hac
   replace hbc:B bz∧sc.size≤1048576∧vc≤32767:=hbc
   have HAc:=zh hac
   have HZc:=zh hbc.2
   have HLTc:=zh (HBN.out bz hbc.1)
   have hcapc:rc.length≤cc:=hac.cap.1
   have hmaxc:=hac.cap.2.1
   have HCc:Hid (∀i_ u_,(xdc ⟨kc,sc,vc,oc,pc,rc.length,cc,qc⟩)[i_]?=some u_→w.cell? ⟨bz,oz_+1 * 6+i_,none⟩=some u_):=zh hcc
   clear hac hbc hcc
   have HOAa:=zh hoa
   have HLa:Hid ((txX ⟨ka,sa,va,oa,ra,qa⟩).length≤140737488355328):=zh (by simp only [List.length_append] at hlen;omega)
   have HTA:Hid (∀W,N≤W.heap.size→Wrote N b w W→Calls Tryz.prog 49 #[xv ka sa va oa pa ra.length ca qa] W fun e w'=>e=.returned (.string ⟨(txX ⟨ka,sa,va,oa,ra,qa⟩).toArray⟩)∧Grew W w') :=
    zh (fun W hNW hW=>textF_any ka sa va oa ra qa B W pa ca (fun i hi=>Nat.lt_of_lt_of_le (HBN.out i hi) hNW) (HAa.out.below HBN.out hW.bel) HZa.out (HE.out.wrote hW).env HOAa.out HLa.out)
   have HOAc:=zh hoc
   have HLc:Hid ((txX ⟨kc,sc,vc,oc,rc,qc⟩).length≤140737488355328):=zh (by simp only [List.length_append] at hlen;omega)
   have HTC:Hid (∀W,N≤W.heap.size→Wrote N b w W→Calls Tryz.prog 49 #[xv kc sc vc oc pc rc.length cc qc] W fun e w'=>e=.returned (.string ⟨(txX ⟨kc,sc,vc,oc,rc,qc⟩).toArray⟩)∧Grew W w') :=
    zh (fun W hNW hW=>textF_any kc sc vc oc rc qc B W pc cc (fun i hi=>Nat.lt_of_lt_of_le (HBN.out i hi) hNW) (HAc.out.below HBN.out hW.bel) HZc.out (HE.out.wrote hW).env HOAc.out HLc.out)
   obtain ⟨TT,hTT⟩:∃TT,xs++(sp d++((((((s.data.toList++[91])++(txX ⟨ka,sa,va,oa,ra,qa⟩))++[93,32,61,32])++(txX ⟨kc,sc,vc,oc,rc,qc⟩))++[59])++[10]))=TT:=⟨_,rfl⟩
   have HLT_:Hid (TT.length≤140737488355328):=zh (by rw [← hTT,List.length_append];exact hlen)
   rw [hTT]
   have HTT:=zh hTT
   generalize (txX ⟨ka,sa,va,oa,ra,qa⟩)=TA at HTA HTT
   generalize (txX ⟨kc,sc,vc,oc,rc,qc⟩)=TC at HTC HTT
   clear hb hN hB hX hY hEl hE hok hd hlen hox hoy hoe hlin hTT hs hn hbd HLa HLc
   show Calls Tryz.prog 96 #[PtrTo b,sv 3 s 0 (some ⟨bz,oz_,none⟩) 2 cA pB 0 cB pE 0 cE q] w fun e' w'=>e'=.returned (.tuple #[])∧BldT 72 [.int .i64 (d:Int)] N b TT w'∧Wrote N b w w'
   go_enter Tryz.func96,Tryz.ntmps96
   go_upto_region 1 with fail
   have hb1_:Blk w.heap.size [.int .i64 3,.string s,.int .i64 0,.slice (some ⟨bz,oz_,none⟩) 2 cA,.slice pB 0 cB,.slice pE 0 cE,.int .i64 q] 49 (w.alloc (Obj.cells #[.int .i64 3,.string s,.int .i64 0,.slice (some ⟨bz,oz_,none⟩) 2 cA,.slice pB 0 cB,.slice pE 0 cE,.int .i64 q] 49)):=Blk.new w _ _
   have hgV:Grew w (w.alloc (Obj.cells #[.int .i64 3,.string s,.int .i64 0,.slice (some ⟨bz,oz_,none⟩) 2 cA,.slice pB 0 cB,.slice pE 0 cE,.int .i64 q] 49)):=(Grew.refl w).alloc _
   have hne_:w.heap.size≠b:=by have:=HB.out.lt;omega
   generalize (w.alloc (Obj.cells #[.int .i64 3,.string s,.int .i64 0,.slice (some ⟨bz,oz_,none⟩) 2 cA,.slice pB 0 cB,.slice pE 0 cE,.int .i64 q] 49))=V0 at hb1_ hgV ⊢
   generalize w.heap.size=S at hb1_ hne_ ⊢
   have HW0:=zh (Wrote.of_grew (N:=N) (b:=b) hgV HNw.out)
   have HB0:=zh (HB.out.grew hgV)
   have HN0:=zh (Nat.le_trans HNw.out hgV.sz)
   have HX0:=zh hb1_
   have HNE:=zh hne_
   clear hb1_ hgV hne_
   have x0V0:V0.cell? ⟨S,0,none⟩=some (.int .i64 3):=HX0.out.cell 0
   have x1V0:V0.cell? ⟨S,1,none⟩=some (.string s):=HX0.out.cell 1
   have x2V0:V0.cell? ⟨S,2,none⟩=some (.int .i64 0):=HX0.out.cell 2
   have x3V0:V0.cell? ⟨S,3,none⟩=some (.slice (some ⟨bz,oz_,none⟩) 2 cA):=HX0.out.cell 3
   have x4V0:V0.cell? ⟨S,4,none⟩=some (.slice pB 0 cB):=HX0.out.cell 4
   have x5V0:V0.cell? ⟨S,5,none⟩=some (.slice pE 0 cE):=HX0.out.cell 5
   have x6V0:V0.cell? ⟨S,6,none⟩=some (.int .i64 q):=HX0.out.cell 6
   go_upto_region 7 with fail
   have d0:Atv ⟨S,0,none⟩ (.int .i64 3) V0.drew:=(HX0.out.grew (Grew.refl _).drw).atv 0 rfl
   have d1:Atv ⟨S,1,none⟩ (.string s) V0.drew:=(HX0.out.grew (Grew.refl _).drw).atv 1 rfl
   have d2:Atv ⟨S,2,none⟩ (.int .i64 0) V0.drew:=(HX0.out.grew (Grew.refl _).drw).atv 2 rfl
   have d3:Atv ⟨S,3,none⟩ (.slice (some ⟨bz,oz_,none⟩) 2 cA) V0.drew:=(HX0.out.grew (Grew.refl _).drw).atv 3 rfl
   have d4:Atv ⟨S,4,none⟩ (.slice pB 0 cB) V0.drew:=(HX0.out.grew (Grew.refl _).drw).atv 4 rfl
   have bw_:Below N w V0.drew:=Below.drew HW0.out.bel
   have a0:Atv ⟨bz,oz_+0 * 6,none⟩ (.int .i64 ka) V0.drew:=below_cell bw_ HLTa.out (HCa.out 0 _ rfl)
   have a1:Atv ⟨bz,oz_+0 * 6+1,none⟩ (.string sa) V0.drew:=below_cell bw_ HLTa.out (HCa.out 1 _ rfl)
   have a2:Atv ⟨bz,oz_+0 * 6+2,none⟩ (.int .i16 va) V0.drew:=below_cell bw_ HLTa.out (HCa.out 2 _ rfl)
   have a3:Atv ⟨bz,oz_+0 * 6+3,none⟩ (.int .i64 oa) V0.drew:=below_cell bw_ HLTa.out (HCa.out 3 _ rfl)
   have a4:Atv ⟨bz,oz_+0 * 6+4,none⟩ (.slice pa ra.length ca) V0.drew:=below_cell bw_ HLTa.out (HCa.out 4 _ rfl)
   have a5:Atv ⟨bz,oz_+0 * 6+5,none⟩ (.int .i64 qa) V0.drew:=below_cell bw_ HLTa.out (HCa.out 5 _ rfl)
   have c0:Atv ⟨bz,oz_+1 * 6,none⟩ (.int .i64 kc) V0.drew:=below_cell bw_ HLTc.out (HCc.out 0 _ rfl)
   have c1:Atv ⟨bz,oz_+1 * 6+1,none⟩ (.string sc) V0.drew:=below_cell bw_ HLTc.out (HCc.out 1 _ rfl)
   have c2:Atv ⟨bz,oz_+1 * 6+2,none⟩ (.int .i16 vc) V0.drew:=below_cell bw_ HLTc.out (HCc.out 2 _ rfl)
   have c3:Atv ⟨bz,oz_+1 * 6+3,none⟩ (.int .i64 oc) V0.drew:=below_cell bw_ HLTc.out (HCc.out 3 _ rfl)
   have c4:Atv ⟨bz,oz_+1 * 6+4,none⟩ (.slice pc rc.length cc) V0.drew:=below_cell bw_ HLTc.out (HCc.out 4 _ rfl)
   have c5:Atv ⟨bz,oz_+1 * 6+5,none⟩ (.int .i64 qc) V0.drew:=below_cell bw_ HLTc.out (HCc.out 5 _ rfl)
   refine wp_grew_tail 14 [some 32,some 33,some 34,some 35,some 36,some 37,some 38,some 39,some 40,some 41,some 42,some 43,some 44,some 45] (Zfg (Ztd (Ztc (Ztb (Zfg (Zfg (Zfe (Zfd [])))))))) [fun v _=>v=.pointer (some ⟨b,0,none⟩),fun v _=>v=.pointer (some ⟨S,1,none⟩),fun v _=>v=.string s,fun v _=>v=.pointer (some ⟨S,3,none⟩),fun v _=>v=.slice (some ⟨bz,oz_,none⟩) (2) (cA),fun v _=>v=.pointer (some ⟨bz,oz_+0 * 6,none⟩),fun v _=>v=.agg #[.int .i64 (ka),.string sa,.int .i16 (va),.int .i64 (oa),.slice pa ra.length ca,.int .i64 (qa)],fun v _=>v=.string ⟨(TA).toArray⟩,fun v _=>v=.pointer (some ⟨S,3,none⟩),fun v _=>v=.slice (some ⟨bz,oz_,none⟩) (2) (cA),fun v _=>v=.pointer (some ⟨bz,oz_+1 * 6,none⟩),fun v _=>v=.agg #[.int .i64 (kc),.string sc,.int .i16 (vc),.int .i64 (oc),.slice pc rc.length cc,.int .i64 (qc)],fun v _=>v=.string ⟨(TC).toArray⟩,fun v w=>∃g_,v=.slice (some ⟨g_,0,none⟩) 6 6∧V0.drew.heap.size≤g_∧Blk g_ [.string s,.string ⟨#[91]⟩,.string ⟨TA.toArray⟩,.string ⟨#[93,32,61,32]⟩,.string ⟨TC.toArray⟩,.string ⟨#[59]⟩] 9 w] (by kernel_rfl) (by kernel_rfl) (by kernel_rfl) rfl ?_ ⟨?_,?_,?_,?_,?_,?_,?_,?_,?_,?_,?_,?_,?_,?_,trivial⟩ ?_
   ·exact⟨Zi,Zi,Zi,Zi,Zi,Zi,Zi,Zi,Zi,Zi,Zi,Zi,Zi,fun _ _ _ hg ⟨S,h1,h2,h3⟩=>⟨S,h1,h2,h3.grew hg⟩,trivial⟩
   ·intro u w hR hd;exact runs_mv (ev rfl) Zr
   ·intro u w hR hd;exact rn_fld_49_1 (ev rfl) Zr
   ·intro u w hR hd;exact rn_ld_9 (ev (hd.1 rfl)) (d1.kept hR) Zr
   ·intro u w hR hd;exact rn_fld_49_3 (ev rfl) Zr
   ·intro u w hR hd;exact rn_ld_33 (ev (hd.1 rfl)) (d3.kept hR) Zr
   ·intro u w hR hd;exact rn_idx_33 (0) (ev (hd.1 rfl)) rfl (by omega) Zr
   ·intro u w hR hd;exact rn_ld_35 (ev (hd.1 rfl)) (a0.kept hR) (a1.kept hR) (a2.kept hR) (a3.kept hR) (a4.kept hR) (a5.kept hR) Zr
   ·intro u w hR hd;exact runs_c1 en_txt (ev (hd.1 rfl)) (callp (fun _ e=>e) (HTA.out _ (Nat.le_trans HN0.out ((Grew.refl _).drw.trans hR).sz) (HW0.out.grew ((Grew.refl _).drw.trans hR) HNw.out)))
   ·intro u w hR hd;exact rn_fld_49_3 (ev rfl) Zr
   ·intro u w hR hd;exact rn_ld_33 (ev (hd.1 rfl)) (d3.kept hR) Zr
   ·intro u w hR hd;exact rn_idx_33 (1) (ev (hd.1 rfl)) rfl (by omega) Zr
   ·intro u w hR hd;exact rn_ld_35 (ev (hd.1 rfl)) (c0.kept hR) (c1.kept hR) (c2.kept hR) (c3.kept hR) (c4.kept hR) (c5.kept hR) Zr
   ·intro u w hR hd;exact runs_c1 en_txt (ev (hd.1 rfl)) (callp (fun _ e=>e) (HTC.out _ (Nat.le_trans HN0.out ((Grew.refl _).drw.trans hR).sz) (HW0.out.grew ((Grew.refl _).drw.trans hR) HNw.out)))
   ·intro u w hR hd;exact rn_bs_34_91_39_93_32_61_32_44_59 (ev (hd.1 rfl)) (ev (hd.2.1 rfl)) (ev (hd.2.2.1 rfl)) ⟨(Grew.refl _).alloc _,⟨_,rfl,hR.sz,heap_alloc_new _ _⟩⟩
   ·intro u w5 hR h
    have g5:Grew V0 w5:=(Grew.refl V0).drw.trans hR
    have HB5:=zh (HB0.out.grew g5)
    have HN5:=zh (Nat.le_trans HN0.out g5.sz)
    have HW5:=zh (HW0.out.grew g5 HNw.out)
    obtain ⟨g_,hs_,hge,hbk⟩:∃g_,u 45=.slice (some ⟨g_,0,none⟩) 6 6∧V0.drew.heap.size≤g_∧Blk g_ [.string s,.string ⟨#[91]⟩,.string ⟨TA.toArray⟩,.string ⟨#[93,32,61,32]⟩,.string ⟨TC.toArray⟩,.string ⟨#[59]⟩] 9 w5:=h 13 (by decide)
    have hgb:g_≠b:=by have h1:=HB0.out.lt;have h2:V0.drew.heap.size=V0.heap.size:=rfl;omega
    have e0:u 32=PtrTo b:=h 0 (by decide)
    refine wpAny_one (i:=14) (some 46) (by kernel_rfl) rfl rfl rfl (runs_c2 en_ln (ev e0) (ev hs_) ((lineN_any N b d xs [s,(⟨#[91]⟩:ByteArray),⟨TA.toArray⟩,(⟨#[93,32,61,32]⟩:ByteArray),⟨TC.toArray⟩,(⟨#[59]⟩:ByteArray)] _ 6 g_ w5 HB5.out HN5.out HD.out hbk rfl rfl hgb (by have h_:=HLT_.out;rw [← HTT.out] at h_;simp [flat] at h_ ⊢;omega) (by decide)).mono ?_))
    rintro e_ w6 ⟨rfl,hb_,hw_⟩
    refine⟨_,rfl,?_⟩
    refine wpAny_done (by kernel_rfl) ?_ _
    simp only [zz1,zz2,zz3,Act.put,mixA,mixL,zz9,zz0,zz4,zz5,zz6]
    try simp only [Nat.zero_add,Nat.reduceAdd]
    generalize u 32=z32
    generalize u 33=z33
    generalize u 34=z34
    generalize u 35=z35
    generalize u 36=z36
    generalize u 37=z37
    generalize u 38=z38
    generalize u 39=z39
    generalize u 40=z40
    generalize u 41=z41
    generalize u 42=z42
    generalize u 43=z43
    generalize u 44=z44
    generalize u 45=z45
    have HB6:=zh hb_
    have HW6:=zh (HW5.out.trans hw_)
    clear hs_ hbk hb_ hw_ h hR g5
    go_wp2
    go_end0
    exact⟨rfl,by have h_:=HB6.out;rw [← HTT.out];simpa [flat] using h_,HW6.out⟩
  ·exfalso;omega
  ·exfalso;omega
  ·exfalso;omega
  ·exfalso;omega
  ·exfalso;omega
 ·skip
  rcases hcs with ⟨_,⟨a,rfl⟩,hid_,rfl,rfl,rfl⟩ | ⟨hk_,_⟩ | ⟨hk_,_⟩ | ⟨hk_,_⟩ | ⟨hk_,_⟩ | ⟨hk_,_⟩ | ⟨hk_,_⟩
  ·skip
   have hoa:=ok1 hox
   have hlin:linS ⟨7,s,0,[a],[],[],q⟩ (sp d)=(((([115,101,110,100,32]++s.data.toList)++[32])++txX a)++[59])++[10]:=by rw [linS,if_pos (by simp [hedT]),(ag0 a []).1];rfl
   rw [hlin] at hlen ⊢
   obtain ⟨bz,oz_,pa,ca,rfl,hba,haa,hca⟩:=hX.get 0 (by simp)
   obtain ⟨ka,sa,va,oa,ra,qa⟩:=a
   replace haa:XL B w pa ca ra:=haa
   replace hba:B bz∧sa.size≤1048576∧va≤32767:=hba
   have HAa:=zh haa
   have HZa:=zh hba.2
   have HLTa:=zh (HBN.out bz hba.1)
   have hcapa:ra.length≤ca:=haa.cap.1
   have hmaxa:=haa.cap.2.1
   have HCa:Hid (∀i_ u_,(xdc ⟨ka,sa,va,oa,pa,ra.length,ca,qa⟩)[i_]?=some u_→w.cell? ⟨bz,oz_+0 * 6+i_,none⟩=some u_):=zh hca
   clear haa hba hca
   have HOAa:=zh hoa
   have HLa:Hid ((txX ⟨ka,sa,va,oa,ra,qa⟩).length≤140737488355328):=zh (by simp only [List.length_append] at hlen;omega)
   have HTA:Hid (∀W,N≤W.heap.size→Wrote N b w W→Calls Tryz.prog 49 #[xv ka sa va oa pa ra.length ca qa] W fun e w'=>e=.returned (.string ⟨(txX ⟨ka,sa,va,oa,ra,qa⟩).toArray⟩)∧Grew W w') :=
    zh (fun W hNW hW=>textF_any ka sa va oa ra qa B W pa ca (fun i hi=>Nat.lt_of_lt_of_le (HBN.out i hi) hNW) (HAa.out.below HBN.out hW.bel) HZa.out (HE.out.wrote hW).env HOAa.out HLa.out)
   obtain ⟨TT,hTT⟩:∃TT,xs++(sp d++((((([115,101,110,100,32]++s.data.toList)++[32])++(txX ⟨ka,sa,va,oa,ra,qa⟩))++[59])++[10]))=TT:=⟨_,rfl⟩
   have HLT_:Hid (TT.length≤140737488355328):=zh (by rw [← hTT,List.length_append];exact hlen)
   rw [hTT]
   have HTT:=zh hTT
   generalize (txX ⟨ka,sa,va,oa,ra,qa⟩)=TA at HTA HTT
   clear hb hN hB hX hY hEl hE hok hd hlen hox hoy hoe hlin hTT hs hn hbd HLa
   show Calls Tryz.prog 96 #[PtrTo b,sv 7 s 0 (some ⟨bz,oz_,none⟩) 1 cA pB 0 cB pE 0 cE q] w fun e' w'=>e'=.returned (.tuple #[])∧BldT 72 [.int .i64 (d:Int)] N b TT w'∧Wrote N b w w'
   go_enter Tryz.func96,Tryz.ntmps96
   go_upto_region 1 with fail
   have hb1_:Blk w.heap.size [.int .i64 7,.string s,.int .i64 0,.slice (some ⟨bz,oz_,none⟩) 1 cA,.slice pB 0 cB,.slice pE 0 cE,.int .i64 q] 49 (w.alloc (Obj.cells #[.int .i64 7,.string s,.int .i64 0,.slice (some ⟨bz,oz_,none⟩) 1 cA,.slice pB 0 cB,.slice pE 0 cE,.int .i64 q] 49)):=Blk.new w _ _
   have hgV:Grew w (w.alloc (Obj.cells #[.int .i64 7,.string s,.int .i64 0,.slice (some ⟨bz,oz_,none⟩) 1 cA,.slice pB 0 cB,.slice pE 0 cE,.int .i64 q] 49)):=(Grew.refl w).alloc _
   have hne_:w.heap.size≠b:=by have:=HB.out.lt;omega
   generalize (w.alloc (Obj.cells #[.int .i64 7,.string s,.int .i64 0,.slice (some ⟨bz,oz_,none⟩) 1 cA,.slice pB 0 cB,.slice pE 0 cE,.int .i64 q] 49))=V0 at hb1_ hgV ⊢
   generalize w.heap.size=S at hb1_ hne_ ⊢
   have HW0:=zh (Wrote.of_grew (N:=N) (b:=b) hgV HNw.out)
   have HB0:=zh (HB.out.grew hgV)
   have HN0:=zh (Nat.le_trans HNw.out hgV.sz)
   have HX0:=zh hb1_
   have HNE:=zh hne_
   clear hb1_ hgV hne_
   have x0V0:V0.cell? ⟨S,0,none⟩=some (.int .i64 7):=HX0.out.cell 0
   have x1V0:V0.cell? ⟨S,1,none⟩=some (.string s):=HX0.out.cell 1
   have x2V0:V0.cell? ⟨S,2,none⟩=some (.int .i64 0):=HX0.out.cell 2
   have x3V0:V0.cell? ⟨S,3,none⟩=some (.slice (some ⟨bz,oz_,none⟩) 1 cA):=HX0.out.cell 3
   have x4V0:V0.cell? ⟨S,4,none⟩=some (.slice pB 0 cB):=HX0.out.cell 4
   have x5V0:V0.cell? ⟨S,5,none⟩=some (.slice pE 0 cE):=HX0.out.cell 5
   have x6V0:V0.cell? ⟨S,6,none⟩=some (.int .i64 q):=HX0.out.cell 6
   go_upto_region 15 with fail
   have d0:Atv ⟨S,0,none⟩ (.int .i64 7) V0.drew:=(HX0.out.grew (Grew.refl _).drw).atv 0 rfl
   have d1:Atv ⟨S,1,none⟩ (.string s) V0.drew:=(HX0.out.grew (Grew.refl _).drw).atv 1 rfl
   have d2:Atv ⟨S,2,none⟩ (.int .i64 0) V0.drew:=(HX0.out.grew (Grew.refl _).drw).atv 2 rfl
   have d3:Atv ⟨S,3,none⟩ (.slice (some ⟨bz,oz_,none⟩) 1 cA) V0.drew:=(HX0.out.grew (Grew.refl _).drw).atv 3 rfl
   have d4:Atv ⟨S,4,none⟩ (.slice pB 0 cB) V0.drew:=(HX0.out.grew (Grew.refl _).drw).atv 4 rfl
   have bw_:Below N w V0.drew:=Below.drew HW0.out.bel
   have a0:Atv ⟨bz,oz_+0 * 6,none⟩ (.int .i64 ka) V0.drew:=below_cell bw_ HLTa.out (HCa.out 0 _ rfl)
   have a1:Atv ⟨bz,oz_+0 * 6+1,none⟩ (.string sa) V0.drew:=below_cell bw_ HLTa.out (HCa.out 1 _ rfl)
   have a2:Atv ⟨bz,oz_+0 * 6+2,none⟩ (.int .i16 va) V0.drew:=below_cell bw_ HLTa.out (HCa.out 2 _ rfl)
   have a3:Atv ⟨bz,oz_+0 * 6+3,none⟩ (.int .i64 oa) V0.drew:=below_cell bw_ HLTa.out (HCa.out 3 _ rfl)
   have a4:Atv ⟨bz,oz_+0 * 6+4,none⟩ (.slice pa ra.length ca) V0.drew:=below_cell bw_ HLTa.out (HCa.out 4 _ rfl)
   have a5:Atv ⟨bz,oz_+0 * 6+5,none⟩ (.int .i64 qa) V0.drew:=below_cell bw_ HLTa.out (HCa.out 5 _ rfl)
   refine wp_grew_tail 9 [some 74,some 75,some 76,some 77,some 78,some 79,some 80,some 81,some 82] (Zfg (Zfg (Zfd (Zfb (Ztd (Zta (Zfg (Zfe (Zfb (Zfa [])))))))))) [fun v _=>v=.pointer (some ⟨b,0,none⟩),fun v _=>v=.pointer (some ⟨S,1,none⟩),fun v _=>v=.string s,fun v _=>v=.pointer (some ⟨S,3,none⟩),fun v _=>v=.slice (some ⟨bz,oz_,none⟩) (1) (cA),fun v _=>v=.pointer (some ⟨bz,oz_+0 * 6,none⟩),fun v _=>v=.agg #[.int .i64 (ka),.string sa,.int .i16 (va),.int .i64 (oa),.slice pa ra.length ca,.int .i64 (qa)],fun v _=>v=.string ⟨(TA).toArray⟩,fun v w=>∃g_,v=.slice (some ⟨g_,0,none⟩) 5 5∧V0.drew.heap.size≤g_∧Blk g_ [.string ⟨#[115,101,110,100,32]⟩,.string s,.string ⟨#[32]⟩,.string ⟨TA.toArray⟩,.string ⟨#[59]⟩] 9 w] (by kernel_rfl) (by kernel_rfl) (by kernel_rfl) rfl ?_ ⟨?_,?_,?_,?_,?_,?_,?_,?_,?_,trivial⟩ ?_
   ·exact⟨Zi,Zi,Zi,Zi,Zi,Zi,Zi,Zi,fun _ _ _ hg ⟨S,h1,h2,h3⟩=>⟨S,h1,h2,h3.grew hg⟩,trivial⟩
   ·intro u w hR hd;exact runs_mv (ev rfl) Zr
   ·intro u w hR hd;exact rn_fld_49_1 (ev rfl) Zr
   ·intro u w hR hd;exact rn_ld_9 (ev (hd.1 rfl)) (d1.kept hR) Zr
   ·intro u w hR hd;exact rn_fld_49_3 (ev rfl) Zr
   ·intro u w hR hd;exact rn_ld_33 (ev (hd.1 rfl)) (d3.kept hR) Zr
   ·intro u w hR hd;exact rn_idx_33 (0) (ev (hd.1 rfl)) rfl (by omega) Zr
   ·intro u w hR hd;exact rn_ld_35 (ev (hd.1 rfl)) (a0.kept hR) (a1.kept hR) (a2.kept hR) (a3.kept hR) (a4.kept hR) (a5.kept hR) Zr
   ·intro u w hR hd;exact runs_c1 en_txt (ev (hd.1 rfl)) (callp (fun _ e=>e) (HTA.out _ (Nat.le_trans HN0.out ((Grew.refl _).drw.trans hR).sz) (HW0.out.grew ((Grew.refl _).drw.trans hR) HNw.out)))
   ·intro u w hR hd;exact rn_bs_115_101_110_100_32_76_32_81_59 (ev (hd.1 rfl)) (ev (hd.2.1 rfl)) ⟨(Grew.refl _).alloc _,⟨_,rfl,hR.sz,heap_alloc_new _ _⟩⟩
   ·intro u w5 hR h
    have g5:Grew V0 w5:=(Grew.refl V0).drw.trans hR
    have HB5:=zh (HB0.out.grew g5)
    have HN5:=zh (Nat.le_trans HN0.out g5.sz)
    have HW5:=zh (HW0.out.grew g5 HNw.out)
    obtain ⟨g_,hs_,hge,hbk⟩:∃g_,u 82=.slice (some ⟨g_,0,none⟩) 5 5∧V0.drew.heap.size≤g_∧Blk g_ [.string ⟨#[115,101,110,100,32]⟩,.string s,.string ⟨#[32]⟩,.string ⟨TA.toArray⟩,.string ⟨#[59]⟩] 9 w5:=h 8 (by decide)
    have hgb:g_≠b:=by have h1:=HB0.out.lt;have h2:V0.drew.heap.size=V0.heap.size:=rfl;omega
    have e0:u 74=PtrTo b:=h 0 (by decide)
    refine wpAny_one (i:=9) (some 83) (by kernel_rfl) rfl rfl rfl (runs_c2 en_ln (ev e0) (ev hs_) ((lineN_any N b d xs [(⟨#[115,101,110,100,32]⟩:ByteArray),s,(⟨#[32]⟩:ByteArray),⟨TA.toArray⟩,(⟨#[59]⟩:ByteArray)] _ 5 g_ w5 HB5.out HN5.out HD.out hbk rfl rfl hgb (by have h_:=HLT_.out;rw [← HTT.out] at h_;simp [flat] at h_ ⊢;omega) (by decide)).mono ?_))
    rintro e_ w6 ⟨rfl,hb_,hw_⟩
    refine⟨_,rfl,?_⟩
    refine wpAny_done (by kernel_rfl) ?_ _
    simp only [zz1,zz2,zz3,Act.put,mixA,mixL,zz9,zz0,zz4,zz5,zz6]
    try simp only [Nat.zero_add,Nat.reduceAdd]
    generalize u 74=z74
    generalize u 75=z75
    generalize u 76=z76
    generalize u 77=z77
    generalize u 78=z78
    generalize u 79=z79
    generalize u 80=z80
    generalize u 81=z81
    generalize u 82=z82
    have HB6:=zh hb_
    have HW6:=zh (HW5.out.trans hw_)
    clear hs_ hbk hb_ hw_ h hR g5
    go_wp2
    go_end0
    exact⟨rfl,by have h_:=HB6.out;rw [← HTT.out];simpa [flat] using h_,HW6.out⟩
  ·exfalso;omega
  ·exfalso;omega
  ·exfalso;omega
  ·exfalso;omega
  ·exfalso;omega
  ·exfalso;omega
end Go.Proofs.YtcknpcbkofgdoaaGreatDoor
