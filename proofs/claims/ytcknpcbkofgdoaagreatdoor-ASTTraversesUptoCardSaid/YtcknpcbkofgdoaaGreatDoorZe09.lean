/-
  LAYER 16 (ast), THE PROGRAM: statement, some of its kinds.
  LAYER 16 (ast), THE PROGRAM: statement, some of its kinds.
  LAYER 16 (ast), THE PROGRAM: statement, some of its kinds.
  LAYER 16 (ast), THE PROGRAM: statement, body.
  LAYER 16 (ast), THE PROGRAM: the text of a program.
  LAYER 16 (ast), THE PROGRAM: Format.
  LAYER 16 (ast), THE PROGRAM: Format, whatever the program.
-/
import Derived.Test.YtcknpcbkofgdoaaGreatDoorZeShort
import Derived.Test.YtcknpcbkofgdoaaGreatDoorZe08
import Derived.Test.YtcknpcbkofgdoaaGreatDoorZe00
import Derived.Deep.LoopGhost
import Derived.Deep.Cut
import Derived.Shelf.Abstract
import Derived.Test.YtcknpcbkofgdoaaGreatDoorZe02
namespace Go.Proofs.YtcknpcbkofgdoaaGreatDoor
open Go Go.RowKit Go.IntWalk
set_option linter.unusedSimpArgs false
set_option linter.unusedVariables false
set_option maxRecDepth 8000
set_option maxHeartbeats 16000000 in
theorem smC_of (n:Nat) (hbd:∀l,nSs l≤n→BdC l):∀(k:Int) (s:ByteArray) (nn:Int) (ar:List Xp) (y e:List Sm) (q:Int),nSs y+nSs e≤n→(k=9∨k=8∨k=12∨k=13)→StF 96 k s nn ar y e q:=by
 intro k s nn ar y e q hn hkk N b d xs B w pA cA pB cB pE cE hb hN hB hX hY hEl hs hE hok hd hlen
 obtain ⟨hox,hoy,hoe,hcs⟩:=okS_cases hok
 have hdS:dS ⟨k,s,nn,ar,y,e,q⟩=max (max (dSs y) (dSs e)) (dXs ar)+1:=by rw [dS]
 have hcap:=And.intro hX.cap.1 (And.intro hY.cap.1 hEl.cap.1)
 have hmax:=And.intro hX.cap.2.1 (And.intro hY.cap.2.1 hEl.cap.2.1)
 have HB:=zh hb
 have HNw:=zh hN
 have HBN:=zh hB
 have HE:=zh hE
 have HY:=zh hY
 have HOY:=zh hoy
 have HDY:Hid (d+1+dSs y≤1000):=zh (by rw [hdS] at hd;omega)
 have HD:Hid (d≤1000000):=zh (by omega)
 clear hdS
 rcases hkk with rfl | rfl | rfl | rfl
 ·skip
  rcases hcs with ⟨_,⟨a,rfl⟩,hid_,rfl,rfl,rfl⟩ | ⟨hk_,_⟩ | ⟨hk_,_⟩ | ⟨hk_,_⟩ | ⟨hk_,_⟩ | ⟨hk_,_⟩ | ⟨hk_,_⟩
  ·skip
   have hoa:=ok1 hox
   have hlin:linS ⟨9,s,0,[a],[],[],q⟩ (sp d)=(((([111,117,116,112,117,116,32]++s.data.toList)++[32])++txX a)++[59])++[10]:=by rw [linS,if_pos (by simp [hedT]),(ag0 a []).1];rfl
   rw [hlin] at hlen ⊢
   obtain ⟨bz,oz_,pa,ca,rfl,hba,haa,hca⟩:=hX.get 0 (by simp)
   obtain ⟨ka,sa,va,oa,ra,qa⟩:=a
   replace haa:XL B w pa ca ra:=haa
   replace hba:B bz∧sa.size≤1048576∧va≤32767:=hba
   have HAa:=zh haa
   have HZa:=zh hba.2
   have HLTa:=zh (HBN.out bz hba.1)
   have hcapa:ra.length≤ca:=haa.cap.1
   have hmaxa:=haa.cap.2.1
   have HCa:Hid (∀i_ u_,(xdc ⟨ka,sa,va,oa,pa,ra.length,ca,qa⟩)[i_]?=some u_→w.cell? ⟨bz,oz_+0 * 6+i_,none⟩=some u_):=zh hca
   clear haa hba hca
   have HOAa:=zh hoa
   have HLa:Hid ((txX ⟨ka,sa,va,oa,ra,qa⟩).length≤140737488355328):=zh (by simp only [List.length_append] at hlen;omega)
   have HTA:Hid (∀W,N≤W.heap.size→Wrote N b w W→Calls Tryz.prog 49 #[xv ka sa va oa pa ra.length ca qa] W fun e w'=>e=.returned (.string ⟨(txX ⟨ka,sa,va,oa,ra,qa⟩).toArray⟩)∧Grew W w') :=
    zh (fun W hNW hW=>textF_any ka sa va oa ra qa B W pa ca (fun i hi=>Nat.lt_of_lt_of_le (HBN.out i hi) hNW) (HAa.out.below HBN.out hW.bel) HZa.out (HE.out.wrote hW).env HOAa.out HLa.out)
   obtain ⟨TT,hTT⟩:∃TT,xs++(sp d++((((([111,117,116,112,117,116,32]++s.data.toList)++[32])++(txX ⟨ka,sa,va,oa,ra,qa⟩))++[59])++[10]))=TT:=⟨_,rfl⟩
   have HLT_:Hid (TT.length≤140737488355328):=zh (by rw [← hTT,List.length_append];exact hlen)
   rw [hTT]
   have HTT:=zh hTT
   generalize (txX ⟨ka,sa,va,oa,ra,qa⟩)=TA at HTA HTT
   clear hb hN hB hX hY hEl hE hok hd hlen hox hoy hoe hlin hTT hs hn hbd HLa
   show Calls Tryz.prog 96 #[PtrTo b,sv 9 s 0 (some ⟨bz,oz_,none⟩) 1 cA pB 0 cB pE 0 cE q] w fun e' w'=>e'=.returned (.tuple #[])∧BldT 72 [.int .i64 (d:Int)] N b TT w'∧Wrote N b w w'
   go_enter Tryz.func96,Tryz.ntmps96
   go_upto_region 1 with fail
   have hb1_:Blk w.heap.size [.int .i64 9,.string s,.int .i64 0,.slice (some ⟨bz,oz_,none⟩) 1 cA,.slice pB 0 cB,.slice pE 0 cE,.int .i64 q] 49 (w.alloc (Obj.cells #[.int .i64 9,.string s,.int .i64 0,.slice (some ⟨bz,oz_,none⟩) 1 cA,.slice pB 0 cB,.slice pE 0 cE,.int .i64 q] 49)):=Blk.new w _ _
   have hgV:Grew w (w.alloc (Obj.cells #[.int .i64 9,.string s,.int .i64 0,.slice (some ⟨bz,oz_,none⟩) 1 cA,.slice pB 0 cB,.slice pE 0 cE,.int .i64 q] 49)):=(Grew.refl w).alloc _
   have hne_:w.heap.size≠b:=by have:=HB.out.lt;omega
   generalize (w.alloc (Obj.cells #[.int .i64 9,.string s,.int .i64 0,.slice (some ⟨bz,oz_,none⟩) 1 cA,.slice pB 0 cB,.slice pE 0 cE,.int .i64 q] 49))=V0 at hb1_ hgV ⊢
   generalize w.heap.size=S at hb1_ hne_ ⊢
   have HW0:=zh (Wrote.of_grew (N:=N) (b:=b) hgV HNw.out)
   have HB0:=zh (HB.out.grew hgV)
   have HN0:=zh (Nat.le_trans HNw.out hgV.sz)
   have HX0:=zh hb1_
   have HNE:=zh hne_
   clear hb1_ hgV hne_
   have x0V0:V0.cell? ⟨S,0,none⟩=some (.int .i64 9):=HX0.out.cell 0
   have x1V0:V0.cell? ⟨S,1,none⟩=some (.string s):=HX0.out.cell 1
   have x2V0:V0.cell? ⟨S,2,none⟩=some (.int .i64 0):=HX0.out.cell 2
   have x3V0:V0.cell? ⟨S,3,none⟩=some (.slice (some ⟨bz,oz_,none⟩) 1 cA):=HX0.out.cell 3
   have x4V0:V0.cell? ⟨S,4,none⟩=some (.slice pB 0 cB):=HX0.out.cell 4
   have x5V0:V0.cell? ⟨S,5,none⟩=some (.slice pE 0 cE):=HX0.out.cell 5
   have x6V0:V0.cell? ⟨S,6,none⟩=some (.int .i64 q):=HX0.out.cell 6
   go_upto_region 19 with fail
   have d0:Atv ⟨S,0,none⟩ (.int .i64 9) V0.drew:=(HX0.out.grew (Grew.refl _).drw).atv 0 rfl
   have d1:Atv ⟨S,1,none⟩ (.string s) V0.drew:=(HX0.out.grew (Grew.refl _).drw).atv 1 rfl
   have d2:Atv ⟨S,2,none⟩ (.int .i64 0) V0.drew:=(HX0.out.grew (Grew.refl _).drw).atv 2 rfl
   have d3:Atv ⟨S,3,none⟩ (.slice (some ⟨bz,oz_,none⟩) 1 cA) V0.drew:=(HX0.out.grew (Grew.refl _).drw).atv 3 rfl
   have d4:Atv ⟨S,4,none⟩ (.slice pB 0 cB) V0.drew:=(HX0.out.grew (Grew.refl _).drw).atv 4 rfl
   have bw_:Below N w V0.drew:=Below.drew HW0.out.bel
   have a0:Atv ⟨bz,oz_+0 * 6,none⟩ (.int .i64 ka) V0.drew:=below_cell bw_ HLTa.out (HCa.out 0 _ rfl)
   have a1:Atv ⟨bz,oz_+0 * 6+1,none⟩ (.string sa) V0.drew:=below_cell bw_ HLTa.out (HCa.out 1 _ rfl)
   have a2:Atv ⟨bz,oz_+0 * 6+2,none⟩ (.int .i16 va) V0.drew:=below_cell bw_ HLTa.out (HCa.out 2 _ rfl)
   have a3:Atv ⟨bz,oz_+0 * 6+3,none⟩ (.int .i64 oa) V0.drew:=below_cell bw_ HLTa.out (HCa.out 3 _ rfl)
   have a4:Atv ⟨bz,oz_+0 * 6+4,none⟩ (.slice pa ra.length ca) V0.drew:=below_cell bw_ HLTa.out (HCa.out 4 _ rfl)
   have a5:Atv ⟨bz,oz_+0 * 6+5,none⟩ (.int .i64 qa) V0.drew:=below_cell bw_ HLTa.out (HCa.out 5 _ rfl)
   refine wp_grew_tail 9 [some 96,some 97,some 98,some 99,some 100,some 101,some 102,some 103,some 104] (Zfg (Zfg (Zfg (Ztd (Zta (Zfe (Zfd (Zfc (Zfa []))))))))) [fun v _=>v=.pointer (some ⟨b,0,none⟩),fun v _=>v=.pointer (some ⟨S,1,none⟩),fun v _=>v=.string s,fun v _=>v=.pointer (some ⟨S,3,none⟩),fun v _=>v=.slice (some ⟨bz,oz_,none⟩) (1) (cA),fun v _=>v=.pointer (some ⟨bz,oz_+0 * 6,none⟩),fun v _=>v=.agg #[.int .i64 (ka),.string sa,.int .i16 (va),.int .i64 (oa),.slice pa ra.length ca,.int .i64 (qa)],fun v _=>v=.string ⟨(TA).toArray⟩,fun v w=>∃g_,v=.slice (some ⟨g_,0,none⟩) 5 5∧V0.drew.heap.size≤g_∧Blk g_ [.string ⟨#[111,117,116,112,117,116,32]⟩,.string s,.string ⟨#[32]⟩,.string ⟨TA.toArray⟩,.string ⟨#[59]⟩] 9 w] (by kernel_rfl) (by kernel_rfl) (by kernel_rfl) rfl ?_ ⟨?_,?_,?_,?_,?_,?_,?_,?_,?_,trivial⟩ ?_
   ·exact⟨Zi,Zi,Zi,Zi,Zi,Zi,Zi,Zi,fun _ _ _ hg ⟨S,h1,h2,h3⟩=>⟨S,h1,h2,h3.grew hg⟩,trivial⟩
   ·intro u w hR hd;exact runs_mv (ev rfl) Zr
   ·intro u w hR hd;exact rn_fld_49_1 (ev rfl) Zr
   ·intro u w hR hd;exact rn_ld_9 (ev (hd.1 rfl)) (d1.kept hR) Zr
   ·intro u w hR hd;exact rn_fld_49_3 (ev rfl) Zr
   ·intro u w hR hd;exact rn_ld_33 (ev (hd.1 rfl)) (d3.kept hR) Zr
   ·intro u w hR hd;exact rn_idx_33 (0) (ev (hd.1 rfl)) rfl (by omega) Zr
   ·intro u w hR hd;exact rn_ld_35 (ev (hd.1 rfl)) (a0.kept hR) (a1.kept hR) (a2.kept hR) (a3.kept hR) (a4.kept hR) (a5.kept hR) Zr
   ·intro u w hR hd;exact runs_c1 en_txt (ev (hd.1 rfl)) (callp (fun _ e=>e) (HTA.out _ (Nat.le_trans HN0.out ((Grew.refl _).drw.trans hR).sz) (HW0.out.grew ((Grew.refl _).drw.trans hR) HNw.out)))
   ·intro u w hR hd;exact rn_bs_111_117_116_112_117_116_32_98_32_103_59 (ev (hd.1 rfl)) (ev (hd.2.1 rfl)) ⟨(Grew.refl _).alloc _,⟨_,rfl,hR.sz,heap_alloc_new _ _⟩⟩
   ·intro u w5 hR h
    have g5:Grew V0 w5:=(Grew.refl V0).drw.trans hR
    have HB5:=zh (HB0.out.grew g5)
    have HN5:=zh (Nat.le_trans HN0.out g5.sz)
    have HW5:=zh (HW0.out.grew g5 HNw.out)
    obtain ⟨g_,hs_,hge,hbk⟩:∃g_,u 104=.slice (some ⟨g_,0,none⟩) 5 5∧V0.drew.heap.size≤g_∧Blk g_ [.string ⟨#[111,117,116,112,117,116,32]⟩,.string s,.string ⟨#[32]⟩,.string ⟨TA.toArray⟩,.string ⟨#[59]⟩] 9 w5:=h 8 (by decide)
    have hgb:g_≠b:=by have h1:=HB0.out.lt;have h2:V0.drew.heap.size=V0.heap.size:=rfl;omega
    have e0:u 96=PtrTo b:=h 0 (by decide)
    refine wpAny_one (i:=9) (some 105) (by kernel_rfl) rfl rfl rfl (runs_c2 en_ln (ev e0) (ev hs_) ((lineN_any N b d xs [(⟨#[111,117,116,112,117,116,32]⟩:ByteArray),s,(⟨#[32]⟩:ByteArray),⟨TA.toArray⟩,(⟨#[59]⟩:ByteArray)] _ 5 g_ w5 HB5.out HN5.out HD.out hbk rfl rfl hgb (by have h_:=HLT_.out;rw [← HTT.out] at h_;simp [flat] at h_ ⊢;omega) (by decide)).mono ?_))
    rintro e_ w6 ⟨rfl,hb_,hw_⟩
    refine⟨_,rfl,?_⟩
    refine wpAny_done (by kernel_rfl) ?_ _
    simp only [zz1,zz2,zz3,Act.put,mixA,mixL,zz9,zz0,zz4,zz5,zz6]
    try simp only [Nat.zero_add,Nat.reduceAdd]
    generalize u 96=z96
    generalize u 97=z97
    generalize u 98=z98
    generalize u 99=z99
    generalize u 100=z100
    generalize u 101=z101
    generalize u 102=z102
    generalize u 103=z103
    generalize u 104=z104
    have HB6:=zh hb_
    have HW6:=zh (HW5.out.trans hw_)
    clear hs_ hbk hb_ hw_ h hR g5
    go_wp2
    go_end0
    exact⟨rfl,by have h_:=HB6.out;rw [← HTT.out];simpa [flat] using h_,HW6.out⟩
  ·exfalso;omega
  ·exfalso;omega
  ·exfalso;omega
  ·exfalso;omega
  ·exfalso;omega
  ·exfalso;omega
 ·skip
  rcases hcs with ⟨hk_,_⟩ | ⟨hk_,_⟩ | ⟨hk_,_⟩ | ⟨hk_,_⟩ | ⟨hk_,_⟩ | ⟨_,⟨a,rfl⟩,rfl,rfl,rfl,rfl⟩ | ⟨hk_,_⟩
  ·exfalso;omega
  ·exfalso;omega
  ·exfalso;omega
  ·exfalso;omega
  ·exfalso;omega
  ·skip
   have hoa:=ok1 hox
   have hlin:linS ⟨8,⟨#[]⟩,0,[a],[],[],q⟩ (sp d)=(([101,109,105,116,32]++txX a)++[59])++[10]:=by rw [linS,if_pos (by simp [hedT]),(ag0 a []).1];rfl
   rw [hlin] at hlen ⊢
   obtain ⟨bz,oz_,pa,ca,rfl,hba,haa,hca⟩:=hX.get 0 (by simp)
   obtain ⟨ka,sa,va,oa,ra,qa⟩:=a
   replace haa:XL B w pa ca ra:=haa
   replace hba:B bz∧sa.size≤1048576∧va≤32767:=hba
   have HAa:=zh haa
   have HZa:=zh hba.2
   have HLTa:=zh (HBN.out bz hba.1)
   have hcapa:ra.length≤ca:=haa.cap.1
   have hmaxa:=haa.cap.2.1
   have HCa:Hid (∀i_ u_,(xdc ⟨ka,sa,va,oa,pa,ra.length,ca,qa⟩)[i_]?=some u_→w.cell? ⟨bz,oz_+0 * 6+i_,none⟩=some u_):=zh hca
   clear haa hba hca
   have HOAa:=zh hoa
   have HLa:Hid ((txX ⟨ka,sa,va,oa,ra,qa⟩).length≤140737488355328):=zh (by simp only [List.length_append] at hlen;omega)
   have HTA:Hid (∀W,N≤W.heap.size→Wrote N b w W→Calls Tryz.prog 49 #[xv ka sa va oa pa ra.length ca qa] W fun e w'=>e=.returned (.string ⟨(txX ⟨ka,sa,va,oa,ra,qa⟩).toArray⟩)∧Grew W w') :=
    zh (fun W hNW hW=>textF_any ka sa va oa ra qa B W pa ca (fun i hi=>Nat.lt_of_lt_of_le (HBN.out i hi) hNW) (HAa.out.below HBN.out hW.bel) HZa.out (HE.out.wrote hW).env HOAa.out HLa.out)
   obtain ⟨TT,hTT⟩:∃TT,xs++(sp d++((([101,109,105,116,32]++(txX ⟨ka,sa,va,oa,ra,qa⟩))++[59])++[10]))=TT:=⟨_,rfl⟩
   have HLT_:Hid (TT.length≤140737488355328):=zh (by rw [← hTT,List.length_append];exact hlen)
   rw [hTT]
   have HTT:=zh hTT
   generalize (txX ⟨ka,sa,va,oa,ra,qa⟩)=TA at HTA HTT
   clear hb hN hB hX hY hEl hE hok hd hlen hox hoy hoe hlin hTT hs hn hbd HLa
   show Calls Tryz.prog 96 #[PtrTo b,sv 8 ⟨#[]⟩ 0 (some ⟨bz,oz_,none⟩) 1 cA pB 0 cB pE 0 cE q] w fun e' w'=>e'=.returned (.tuple #[])∧BldT 72 [.int .i64 (d:Int)] N b TT w'∧Wrote N b w w'
   go_enter Tryz.func96,Tryz.ntmps96
   go_upto_region 1 with fail
   have hb1_:Blk w.heap.size [.int .i64 8,.string ⟨#[]⟩,.int .i64 0,.slice (some ⟨bz,oz_,none⟩) 1 cA,.slice pB 0 cB,.slice pE 0 cE,.int .i64 q] 49 (w.alloc (Obj.cells #[.int .i64 8,.string ⟨#[]⟩,.int .i64 0,.slice (some ⟨bz,oz_,none⟩) 1 cA,.slice pB 0 cB,.slice pE 0 cE,.int .i64 q] 49)):=Blk.new w _ _
   have hgV:Grew w (w.alloc (Obj.cells #[.int .i64 8,.string ⟨#[]⟩,.int .i64 0,.slice (some ⟨bz,oz_,none⟩) 1 cA,.slice pB 0 cB,.slice pE 0 cE,.int .i64 q] 49)):=(Grew.refl w).alloc _
   have hne_:w.heap.size≠b:=by have:=HB.out.lt;omega
   generalize (w.alloc (Obj.cells #[.int .i64 8,.string ⟨#[]⟩,.int .i64 0,.slice (some ⟨bz,oz_,none⟩) 1 cA,.slice pB 0 cB,.slice pE 0 cE,.int .i64 q] 49))=V0 at hb1_ hgV ⊢
   generalize w.heap.size=S at hb1_ hne_ ⊢
   have HW0:=zh (Wrote.of_grew (N:=N) (b:=b) hgV HNw.out)
   have HB0:=zh (HB.out.grew hgV)
   have HN0:=zh (Nat.le_trans HNw.out hgV.sz)
   have HX0:=zh hb1_
   have HNE:=zh hne_
   clear hb1_ hgV hne_
   have x0V0:V0.cell? ⟨S,0,none⟩=some (.int .i64 8):=HX0.out.cell 0
   have x1V0:V0.cell? ⟨S,1,none⟩=some (.string ⟨#[]⟩):=HX0.out.cell 1
   have x2V0:V0.cell? ⟨S,2,none⟩=some (.int .i64 0):=HX0.out.cell 2
   have x3V0:V0.cell? ⟨S,3,none⟩=some (.slice (some ⟨bz,oz_,none⟩) 1 cA):=HX0.out.cell 3
   have x4V0:V0.cell? ⟨S,4,none⟩=some (.slice pB 0 cB):=HX0.out.cell 4
   have x5V0:V0.cell? ⟨S,5,none⟩=some (.slice pE 0 cE):=HX0.out.cell 5
   have x6V0:V0.cell? ⟨S,6,none⟩=some (.int .i64 q):=HX0.out.cell 6
   have a0V0:V0.cell? ⟨bz,oz_,none⟩=some (.int .i64 ka):=(by simpa [Nat.add_assoc] using below_cell HW0.out.bel HLTa.out (HCa.out 0 _ rfl))
   have a1V0:V0.cell? ⟨bz,oz_+1,none⟩=some (.string sa):=(by simpa [Nat.add_assoc] using below_cell HW0.out.bel HLTa.out (HCa.out 1 _ rfl))
   have a2V0:V0.cell? ⟨bz,oz_+2,none⟩=some (.int .i16 va):=(by simpa [Nat.add_assoc] using below_cell HW0.out.bel HLTa.out (HCa.out 2 _ rfl))
   have a3V0:V0.cell? ⟨bz,oz_+3,none⟩=some (.int .i64 oa):=(by simpa [Nat.add_assoc] using below_cell HW0.out.bel HLTa.out (HCa.out 3 _ rfl))
   have a4V0:V0.cell? ⟨bz,oz_+4,none⟩=some (.slice pa ra.length ca):=(by simpa [Nat.add_assoc] using below_cell HW0.out.bel HLTa.out (HCa.out 4 _ rfl))
   have a5V0:V0.cell? ⟨bz,oz_+5,none⟩=some (.int .i64 qa):=(by simpa [Nat.add_assoc] using below_cell HW0.out.bel HLTa.out (HCa.out 5 _ rfl))
   go_wp2_with (first
    | (go_at_call 49;(with_reducible refine(HTA.out V0 HN0.out HW0.out).mono ?_);rintro e V1 ⟨rfl,g_⟩;have HW1:=zh (HW0.out.grew g_ HNw.out);have HB1:=zh (HB0.out.grew g_);have HN1:=zh (Nat.le_trans HN0.out g_.sz);have HX1:=zh (HX0.out.grew g_);clear g_;have x0V1:V1.cell? ⟨S,0,none⟩=some (.int .i64 8):=HX1.out.cell 0;have x1V1:V1.cell? ⟨S,1,none⟩=some (.string ⟨#[]⟩):=HX1.out.cell 1;have x2V1:V1.cell? ⟨S,2,none⟩=some (.int .i64 0):=HX1.out.cell 2;have x3V1:V1.cell? ⟨S,3,none⟩=some (.slice (some ⟨bz,oz_,none⟩) 1 cA):=HX1.out.cell 3;have x4V1:V1.cell? ⟨S,4,none⟩=some (.slice pB 0 cB):=HX1.out.cell 4;have x5V1:V1.cell? ⟨S,5,none⟩=some (.slice pE 0 cE):=HX1.out.cell 5;have x6V1:V1.cell? ⟨S,6,none⟩=some (.int .i64 q):=HX1.out.cell 6)
    | (go_at_call 39;(with_reducible refine(lineN_any N b d xs [⟨#[101,109,105,116,32]⟩,⟨TA.toArray⟩,⟨#[59]⟩] [.string ⟨#[101,109,105,116,32]⟩,.string ⟨TA.toArray⟩,.string ⟨#[59]⟩] 3 V1.heap.size (V1.alloc (Obj.cells #[.string ⟨#[101,109,105,116,32]⟩,.string ⟨TA.toArray⟩,.string ⟨#[59]⟩] 9)) (HB1.out.grew ((Grew.refl _).alloc _)) (Nat.le_trans HN1.out ((Grew.refl V1).alloc _).sz) HD.out (Blk.new _ _ _) rfl rfl (by have h1:=HB1.out.lt;omega) (by have h_:=HLT_.out;rw [← HTT.out] at h_;simp [flat] at h_ ⊢;omega) (by decide)).mono ?_);rintro e V6 ⟨rfl,hb_,hw_⟩;have HW6:=zh ((HW1.out.grew ((Grew.refl V1).alloc _) HNw.out).trans hw_);have HB6:=zh hb_;have HN6:=zh (Nat.le_trans (Nat.le_trans HN1.out ((Grew.refl V1).alloc _).sz) hw_.bel.size);have HX6:=zh ((HX1.out.grew ((Grew.refl V1).alloc _)).wrote hw_ HNE.out (by decide));clear hb_ hw_;have x0V6:V6.cell? ⟨S,0,none⟩=some (.int .i64 8):=HX6.out.cell 0;have x1V6:V6.cell? ⟨S,1,none⟩=some (.string ⟨#[]⟩):=HX6.out.cell 1;have x2V6:V6.cell? ⟨S,2,none⟩=some (.int .i64 0):=HX6.out.cell 2;have x3V6:V6.cell? ⟨S,3,none⟩=some (.slice (some ⟨bz,oz_,none⟩) 1 cA):=HX6.out.cell 3;have x4V6:V6.cell? ⟨S,4,none⟩=some (.slice pB 0 cB):=HX6.out.cell 4;have x5V6:V6.cell? ⟨S,5,none⟩=some (.slice pE 0 cE):=HX6.out.cell 5;have x6V6:V6.cell? ⟨S,6,none⟩=some (.int .i64 q):=HX6.out.cell 6))
   go_end0
   exact⟨rfl,by have h_:=HB6.out;rw [← HTT.out];simpa [flat] using h_,HW6.out⟩
  ·exfalso;omega
 ·skip
  rcases hcs with ⟨hk_,_⟩ | ⟨hk_,_⟩ | ⟨hk_,_⟩ | ⟨hk_,_⟩ | ⟨hk_,_⟩ | ⟨hk_,_⟩ | ⟨_,rfl,rfl,rfl,rfl,rfl⟩
  ·exfalso;omega
  ·exfalso;omega
  ·exfalso;omega
  ·exfalso;omega
  ·exfalso;omega
  ·exfalso;omega
  ·skip
   have hlin:linS ⟨12,⟨#[]⟩,0,[],[],[],q⟩ (sp d)=[99,104,101,99,107,112,111,105,110,116,59]++[10]:=by rw [linS,if_pos (by simp [hedT])];rfl
   rw [hlin] at hlen ⊢
   obtain ⟨TT,hTT⟩:∃TT,xs++(sp d++([99,104,101,99,107,112,111,105,110,116,59]++[10]))=TT:=⟨_,rfl⟩
   have HLT_:Hid (TT.length≤140737488355328):=zh (by rw [← hTT,List.length_append];exact hlen)
   rw [hTT]
   have HTT:=zh hTT
   clear hb hN hB hX hY hEl hE hok hd hlen hox hoy hoe hlin hTT hs hn hbd
   show Calls Tryz.prog 96 #[PtrTo b,sv 12 ⟨#[]⟩ 0 pA 0 cA pB 0 cB pE 0 cE q] w fun e' w'=>e'=.returned (.tuple #[])∧BldT 72 [.int .i64 (d:Int)] N b TT w'∧Wrote N b w w'
   go_enter Tryz.func96,Tryz.ntmps96
   go_upto_region 1 with fail
   have hb1_:Blk w.heap.size [.int .i64 12,.string ⟨#[]⟩,.int .i64 0,.slice pA 0 cA,.slice pB 0 cB,.slice pE 0 cE,.int .i64 q] 49 (w.alloc (Obj.cells #[.int .i64 12,.string ⟨#[]⟩,.int .i64 0,.slice pA 0 cA,.slice pB 0 cB,.slice pE 0 cE,.int .i64 q] 49)):=Blk.new w _ _
   have hgV:Grew w (w.alloc (Obj.cells #[.int .i64 12,.string ⟨#[]⟩,.int .i64 0,.slice pA 0 cA,.slice pB 0 cB,.slice pE 0 cE,.int .i64 q] 49)):=(Grew.refl w).alloc _
   have hne_:w.heap.size≠b:=by have:=HB.out.lt;omega
   generalize (w.alloc (Obj.cells #[.int .i64 12,.string ⟨#[]⟩,.int .i64 0,.slice pA 0 cA,.slice pB 0 cB,.slice pE 0 cE,.int .i64 q] 49))=V0 at hb1_ hgV ⊢
   generalize w.heap.size=S at hb1_ hne_ ⊢
   have HW0:=zh (Wrote.of_grew (N:=N) (b:=b) hgV HNw.out)
   have HB0:=zh (HB.out.grew hgV)
   have HN0:=zh (Nat.le_trans HNw.out hgV.sz)
   have HX0:=zh hb1_
   have HNE:=zh hne_
   clear hb1_ hgV hne_
   have x0V0:V0.cell? ⟨S,0,none⟩=some (.int .i64 12):=HX0.out.cell 0
   have x1V0:V0.cell? ⟨S,1,none⟩=some (.string ⟨#[]⟩):=HX0.out.cell 1
   have x2V0:V0.cell? ⟨S,2,none⟩=some (.int .i64 0):=HX0.out.cell 2
   have x3V0:V0.cell? ⟨S,3,none⟩=some (.slice pA 0 cA):=HX0.out.cell 3
   have x4V0:V0.cell? ⟨S,4,none⟩=some (.slice pB 0 cB):=HX0.out.cell 4
   have x5V0:V0.cell? ⟨S,5,none⟩=some (.slice pE 0 cE):=HX0.out.cell 5
   have x6V0:V0.cell? ⟨S,6,none⟩=some (.int .i64 q):=HX0.out.cell 6
   go_wp2_with (first
    | (go_at_call 39;(with_reducible refine(lineN_any N b d xs [⟨#[99,104,101,99,107,112,111,105,110,116,59]⟩] [.string ⟨#[99,104,101,99,107,112,111,105,110,116,59]⟩] 1 V0.heap.size (V0.alloc (Obj.cells #[.string ⟨#[99,104,101,99,107,112,111,105,110,116,59]⟩] 9)) (HB0.out.grew ((Grew.refl _).alloc _)) (Nat.le_trans HN0.out ((Grew.refl V0).alloc _).sz) HD.out (Blk.new _ _ _) rfl rfl (by have h1:=HB0.out.lt;omega) (by have h_:=HLT_.out;rw [← HTT.out] at h_;simp [flat] at h_ ⊢;omega) (by decide)).mono ?_);rintro e V6 ⟨rfl,hb_,hw_⟩;have HW6:=zh ((HW0.out.grew ((Grew.refl V0).alloc _) HNw.out).trans hw_);have HB6:=zh hb_;have HN6:=zh (Nat.le_trans (Nat.le_trans HN0.out ((Grew.refl V0).alloc _).sz) hw_.bel.size);have HX6:=zh ((HX0.out.grew ((Grew.refl V0).alloc _)).wrote hw_ HNE.out (by decide));clear hb_ hw_;have x0V6:V6.cell? ⟨S,0,none⟩=some (.int .i64 12):=HX6.out.cell 0;have x1V6:V6.cell? ⟨S,1,none⟩=some (.string ⟨#[]⟩):=HX6.out.cell 1;have x2V6:V6.cell? ⟨S,2,none⟩=some (.int .i64 0):=HX6.out.cell 2;have x3V6:V6.cell? ⟨S,3,none⟩=some (.slice pA 0 cA):=HX6.out.cell 3;have x4V6:V6.cell? ⟨S,4,none⟩=some (.slice pB 0 cB):=HX6.out.cell 4;have x5V6:V6.cell? ⟨S,5,none⟩=some (.slice pE 0 cE):=HX6.out.cell 5;have x6V6:V6.cell? ⟨S,6,none⟩=some (.int .i64 q):=HX6.out.cell 6))
   go_end0
   exact⟨rfl,by have h_:=HB6.out;rw [← HTT.out];simpa [flat] using h_,HW6.out⟩
 ·skip
  rcases hcs with ⟨hk_,_⟩ | ⟨hk_,_⟩ | ⟨hk_,_⟩ | ⟨hk_,_⟩ | ⟨hk_,_⟩ | ⟨hk_,_⟩ | ⟨_,rfl,rfl,rfl,rfl,rfl⟩
  ·exfalso;omega
  ·exfalso;omega
  ·exfalso;omega
  ·exfalso;omega
  ·exfalso;omega
  ·exfalso;omega
  ·skip
   have hlin:linS ⟨13,⟨#[]⟩,0,[],[],[],q⟩ (sp d)=[114,101,116,117,114,110,59]++[10]:=by rw [linS,if_pos (by simp [hedT])];rfl
   rw [hlin] at hlen ⊢
   obtain ⟨TT,hTT⟩:∃TT,xs++(sp d++([114,101,116,117,114,110,59]++[10]))=TT:=⟨_,rfl⟩
   have HLT_:Hid (TT.length≤140737488355328):=zh (by rw [← hTT,List.length_append];exact hlen)
   rw [hTT]
   have HTT:=zh hTT
   clear hb hN hB hX hY hEl hE hok hd hlen hox hoy hoe hlin hTT hs hn hbd
   show Calls Tryz.prog 96 #[PtrTo b,sv 13 ⟨#[]⟩ 0 pA 0 cA pB 0 cB pE 0 cE q] w fun e' w'=>e'=.returned (.tuple #[])∧BldT 72 [.int .i64 (d:Int)] N b TT w'∧Wrote N b w w'
   go_enter Tryz.func96,Tryz.ntmps96
   go_upto_region 1 with fail
   have hb1_:Blk w.heap.size [.int .i64 13,.string ⟨#[]⟩,.int .i64 0,.slice pA 0 cA,.slice pB 0 cB,.slice pE 0 cE,.int .i64 q] 49 (w.alloc (Obj.cells #[.int .i64 13,.string ⟨#[]⟩,.int .i64 0,.slice pA 0 cA,.slice pB 0 cB,.slice pE 0 cE,.int .i64 q] 49)):=Blk.new w _ _
   have hgV:Grew w (w.alloc (Obj.cells #[.int .i64 13,.string ⟨#[]⟩,.int .i64 0,.slice pA 0 cA,.slice pB 0 cB,.slice pE 0 cE,.int .i64 q] 49)):=(Grew.refl w).alloc _
   have hne_:w.heap.size≠b:=by have:=HB.out.lt;omega
   generalize (w.alloc (Obj.cells #[.int .i64 13,.string ⟨#[]⟩,.int .i64 0,.slice pA 0 cA,.slice pB 0 cB,.slice pE 0 cE,.int .i64 q] 49))=V0 at hb1_ hgV ⊢
   generalize w.heap.size=S at hb1_ hne_ ⊢
   have HW0:=zh (Wrote.of_grew (N:=N) (b:=b) hgV HNw.out)
   have HB0:=zh (HB.out.grew hgV)
   have HN0:=zh (Nat.le_trans HNw.out hgV.sz)
   have HX0:=zh hb1_
   have HNE:=zh hne_
   clear hb1_ hgV hne_
   have x0V0:V0.cell? ⟨S,0,none⟩=some (.int .i64 13):=HX0.out.cell 0
   have x1V0:V0.cell? ⟨S,1,none⟩=some (.string ⟨#[]⟩):=HX0.out.cell 1
   have x2V0:V0.cell? ⟨S,2,none⟩=some (.int .i64 0):=HX0.out.cell 2
   have x3V0:V0.cell? ⟨S,3,none⟩=some (.slice pA 0 cA):=HX0.out.cell 3
   have x4V0:V0.cell? ⟨S,4,none⟩=some (.slice pB 0 cB):=HX0.out.cell 4
   have x5V0:V0.cell? ⟨S,5,none⟩=some (.slice pE 0 cE):=HX0.out.cell 5
   have x6V0:V0.cell? ⟨S,6,none⟩=some (.int .i64 q):=HX0.out.cell 6
   go_wp2_with (first
    | (go_at_call 39;(with_reducible refine(lineN_any N b d xs [⟨#[114,101,116,117,114,110,59]⟩] [.string ⟨#[114,101,116,117,114,110,59]⟩] 1 V0.heap.size (V0.alloc (Obj.cells #[.string ⟨#[114,101,116,117,114,110,59]⟩] 9)) (HB0.out.grew ((Grew.refl _).alloc _)) (Nat.le_trans HN0.out ((Grew.refl V0).alloc _).sz) HD.out (Blk.new _ _ _) rfl rfl (by have h1:=HB0.out.lt;omega) (by have h_:=HLT_.out;rw [← HTT.out] at h_;simp [flat] at h_ ⊢;omega) (by decide)).mono ?_);rintro e V6 ⟨rfl,hb_,hw_⟩;have HW6:=zh ((HW0.out.grew ((Grew.refl V0).alloc _) HNw.out).trans hw_);have HB6:=zh hb_;have HN6:=zh (Nat.le_trans (Nat.le_trans HN0.out ((Grew.refl V0).alloc _).sz) hw_.bel.size);have HX6:=zh ((HX0.out.grew ((Grew.refl V0).alloc _)).wrote hw_ HNE.out (by decide));clear hb_ hw_;have x0V6:V6.cell? ⟨S,0,none⟩=some (.int .i64 13):=HX6.out.cell 0;have x1V6:V6.cell? ⟨S,1,none⟩=some (.string ⟨#[]⟩):=HX6.out.cell 1;have x2V6:V6.cell? ⟨S,2,none⟩=some (.int .i64 0):=HX6.out.cell 2;have x3V6:V6.cell? ⟨S,3,none⟩=some (.slice pA 0 cA):=HX6.out.cell 3;have x4V6:V6.cell? ⟨S,4,none⟩=some (.slice pB 0 cB):=HX6.out.cell 4;have x5V6:V6.cell? ⟨S,5,none⟩=some (.slice pE 0 cE):=HX6.out.cell 5;have x6V6:V6.cell? ⟨S,6,none⟩=some (.int .i64 q):=HX6.out.cell 6))
   go_end0
   exact⟨rfl,by have h_:=HB6.out;rw [← HTT.out];simpa [flat] using h_,HW6.out⟩
set_option maxHeartbeats 16000000 in
theorem smD_of (n:Nat) (hbd:∀l,nSs l≤n→BdC l):∀(k:Int) (s:ByteArray) (nn:Int) (ar:List Xp) (y e:List Sm) (q:Int),nSs y+nSs e≤n→(k=4∨k=5∨k=6)→StF 96 k s nn ar y e q:=by
 intro k s nn ar y e q hn hkk N b d xs B w pA cA pB cB pE cE hb hN hB hX hY hEl hs hE hok hd hlen
 obtain ⟨hox,hoy,hoe,hcs⟩:=okS_cases hok
 have hdS:dS ⟨k,s,nn,ar,y,e,q⟩=max (max (dSs y) (dSs e)) (dXs ar)+1:=by rw [dS]
 have hcap:=And.intro hX.cap.1 (And.intro hY.cap.1 hEl.cap.1)
 have hmax:=And.intro hX.cap.2.1 (And.intro hY.cap.2.1 hEl.cap.2.1)
 have HB:=zh hb
 have HNw:=zh hN
 have HBN:=zh hB
 have HE:=zh hE
 have HY:=zh hY
 have HOY:=zh hoy
 have HDY:Hid (d+1+dSs y≤1000):=zh (by rw [hdS] at hd;omega)
 have HD:Hid (d≤1000000):=zh (by omega)
 clear hdS
 rcases hkk with rfl | rfl | rfl
 ·skip
  rcases hcs with ⟨hk_,_⟩ | ⟨hk_,_⟩ | ⟨_,⟨a,rfl⟩,rfl,rfl⟩ | ⟨hk_,_⟩ | ⟨hk_,_⟩ | ⟨hk_,_⟩ | ⟨hk_,_⟩
  ·exfalso;omega
  ·exfalso;omega
  ·skip
   have hoa:=ok1 hox
   have hch:=choice_of n hbd ⟨#[]⟩ 0 [a] y e q hn
   unfold StF at hch
   rw [show ([a]:List Xp).length=1 from rfl] at hch
   have HCH:=zh hch
   clear hch
   have HXA:=zh hX
   have HEL:=zh hEl
   have HOK:=zh hok
   have HDD:=zh hd
   have HLN:=zh hlen
   clear hb hN hB hX hY hEl hE hok hd hlen hox hoy hoe hs hn hbd
   show Calls Tryz.prog 96 #[PtrTo b,sv 4 ⟨#[]⟩ 0 pA 1 cA pB y.length cB pE e.length cE q] w _
   go_enter Tryz.func96,Tryz.ntmps96
   go_upto_region 1 with fail
   have hb1_:Blk w.heap.size [.int .i64 4,.string ⟨#[]⟩,.int .i64 0,.slice pA 1 cA,.slice pB y.length cB,.slice pE e.length cE,.int .i64 q] 49 (w.alloc (Obj.cells #[.int .i64 4,.string ⟨#[]⟩,.int .i64 0,.slice pA 1 cA,.slice pB y.length cB,.slice pE e.length cE,.int .i64 q] 49)):=Blk.new w _ _
   have hgV:Grew w (w.alloc (Obj.cells #[.int .i64 4,.string ⟨#[]⟩,.int .i64 0,.slice pA 1 cA,.slice pB y.length cB,.slice pE e.length cE,.int .i64 q] 49)):=(Grew.refl w).alloc _
   have hne_:w.heap.size≠b:=by have:=HB.out.lt;omega
   generalize (w.alloc (Obj.cells #[.int .i64 4,.string ⟨#[]⟩,.int .i64 0,.slice pA 1 cA,.slice pB y.length cB,.slice pE e.length cE,.int .i64 q] 49))=V0 at hb1_ hgV ⊢
   generalize w.heap.size=S at hb1_ hne_ ⊢
   have HW0:=zh (Wrote.of_grew (N:=N) (b:=b) hgV HNw.out)
   have HB0:=zh (HB.out.grew hgV)
   have HN0:=zh (Nat.le_trans HNw.out hgV.sz)
   have HX0:=zh hb1_
   have HNE:=zh hne_
   clear hb1_ hgV hne_
   have x0V0:V0.cell? ⟨S,0,none⟩=some (.int .i64 4):=HX0.out.cell 0
   have x1V0:V0.cell? ⟨S,1,none⟩=some (.string ⟨#[]⟩):=HX0.out.cell 1
   have x2V0:V0.cell? ⟨S,2,none⟩=some (.int .i64 0):=HX0.out.cell 2
   have x3V0:V0.cell? ⟨S,3,none⟩=some (.slice pA 1 cA):=HX0.out.cell 3
   have x4V0:V0.cell? ⟨S,4,none⟩=some (.slice pB y.length cB):=HX0.out.cell 4
   have x5V0:V0.cell? ⟨S,5,none⟩=some (.slice pE e.length cE):=HX0.out.cell 5
   have x6V0:V0.cell? ⟨S,6,none⟩=some (.int .i64 q):=HX0.out.cell 6
   go_wp2_with (go_at_call 139;(with_reducible refine(HCH.out N b d xs B V0 pA cA pB cB pE cE HB0.out HN0.out HBN.out (HXA.out.below HBN.out HW0.out.bel) (HY.out.below HBN.out HW0.out.bel) (HEL.out.below HBN.out HW0.out.bel) (by decide) (HE.out.wrote HW0.out) HOK.out HDD.out HLN.out).mono ?_);rintro e w6 ⟨rfl,hb_,hw_⟩;have HB6:=zh hb_;have HW6:=zh (HW0.out.trans hw_);clear hb_ hw_)
   go_end0
   exact⟨rfl,HB6.out,HW6.out⟩
  ·exfalso;omega
  ·exfalso;omega
  ·exfalso;omega
  ·exfalso;omega
 ·skip
  rcases hcs with ⟨hk_,_⟩ | ⟨hk_,_⟩ | ⟨hk_,_⟩ | ⟨_,rfl,rfl,hnn,rfl⟩ | ⟨hk_,_⟩ | ⟨hk_,_⟩ | ⟨hk_,_⟩
  ·exfalso;omega
  ·exfalso;omega
  ·exfalso;omega
  ·skip
   have hlin:linS ⟨5,⟨#[]⟩,nn,[],y,[],q⟩ (sp d)=([114,101,112,101,97,116,32]++numZ nn++[32,123,10])++(linL y (sp (d+1))++(sp d++[125,10])):=by rw [linS,if_neg (by simp [hedT]),sp_in4,elsT];show ((((([114,101,112,101,97,116,32]++numZ nn)++[32,123])++[10])++linL y (sp (d+1)))++sp d)++[125,10]=_;simp
   rw [hlin] at hlen ⊢
   have HIT:Hid (∀W,Wrote N b w W→Calls Tryz.prog 40 #[.int .i64 nn] W fun e w'=>e=.returned (.string ⟨(numZ nn).toArray⟩)∧Grew W w'):=zh (fun W hW=>itoa_any nn (by omega) W (HE.out.wrote hW).env)
   obtain ⟨TT,hTT⟩:∃TT,xs++(sp d++(([114,101,112,101,97,116,32]++numZ nn++[32,123,10])++(linL y (sp (d+1))++(sp d++[125,10]))))=TT:=⟨_,rfl⟩
   have HLT_:Hid (TT.length≤140737488355328):=zh (by rw [← hTT,List.length_append];exact hlen)
   rw [hTT]
   have HTT:=zh hTT
   generalize numZ nn=TA at HIT HTT
   have HBY:=zh (hbd y (by omega))
   clear hb hN hB hX hY hEl hE hok hd hlen hox hoy hoe hlin hTT hs hn hbd 
   show Calls Tryz.prog 96 #[PtrTo b,sv 5 ⟨#[]⟩ nn pA 0 cA pB y.length cB pE 0 cE q] w fun e' w'=>e'=.returned (.tuple #[])∧BldT 72 [.int .i64 (d:Int)] N b TT w'∧Wrote N b w w'
   go_enter Tryz.func96,Tryz.ntmps96
   go_upto_region 1 with fail
   have hb1_:Blk w.heap.size [.int .i64 5,.string ⟨#[]⟩,.int .i64 nn,.slice pA 0 cA,.slice pB y.length cB,.slice pE 0 cE,.int .i64 q] 49 (w.alloc (Obj.cells #[.int .i64 5,.string ⟨#[]⟩,.int .i64 nn,.slice pA 0 cA,.slice pB y.length cB,.slice pE 0 cE,.int .i64 q] 49)):=Blk.new w _ _
   have hgV:Grew w (w.alloc (Obj.cells #[.int .i64 5,.string ⟨#[]⟩,.int .i64 nn,.slice pA 0 cA,.slice pB y.length cB,.slice pE 0 cE,.int .i64 q] 49)):=(Grew.refl w).alloc _
   have hne_:w.heap.size≠b:=by have:=HB.out.lt;omega
   generalize (w.alloc (Obj.cells #[.int .i64 5,.string ⟨#[]⟩,.int .i64 nn,.slice pA 0 cA,.slice pB y.length cB,.slice pE 0 cE,.int .i64 q] 49))=V0 at hb1_ hgV ⊢
   generalize w.heap.size=S at hb1_ hne_ ⊢
   have HW0:=zh (Wrote.of_grew (N:=N) (b:=b) hgV HNw.out)
   have HB0:=zh (HB.out.grew hgV)
   have HN0:=zh (Nat.le_trans HNw.out hgV.sz)
   have HX0:=zh hb1_
   have HNE:=zh hne_
   clear hb1_ hgV hne_
   have x0V0:V0.cell? ⟨S,0,none⟩=some (.int .i64 5):=HX0.out.cell 0
   have x1V0:V0.cell? ⟨S,1,none⟩=some (.string ⟨#[]⟩):=HX0.out.cell 1
   have x2V0:V0.cell? ⟨S,2,none⟩=some (.int .i64 nn):=HX0.out.cell 2
   have x3V0:V0.cell? ⟨S,3,none⟩=some (.slice pA 0 cA):=HX0.out.cell 3
   have x4V0:V0.cell? ⟨S,4,none⟩=some (.slice pB y.length cB):=HX0.out.cell 4
   have x5V0:V0.cell? ⟨S,5,none⟩=some (.slice pE 0 cE):=HX0.out.cell 5
   have x6V0:V0.cell? ⟨S,6,none⟩=some (.int .i64 q):=HX0.out.cell 6
   go_upto_region 11 with fail
   have d0:Atv ⟨S,0,none⟩ (.int .i64 5) V0.drew:=(HX0.out.grew (Grew.refl _).drw).atv 0 rfl
   have d1:Atv ⟨S,1,none⟩ (.string ⟨#[]⟩) V0.drew:=(HX0.out.grew (Grew.refl _).drw).atv 1 rfl
   have d2:Atv ⟨S,2,none⟩ (.int .i64 nn) V0.drew:=(HX0.out.grew (Grew.refl _).drw).atv 2 rfl
   have d3:Atv ⟨S,3,none⟩ (.slice pA 0 cA) V0.drew:=(HX0.out.grew (Grew.refl _).drw).atv 3 rfl
   have d4:Atv ⟨S,4,none⟩ (.slice pB y.length cB) V0.drew:=(HX0.out.grew (Grew.refl _).drw).atv 4 rfl
   have bw_:Below N w V0.drew:=Below.drew HW0.out.bel
   refine wp_grew_tail 6 [some 54,some 55,some 56,some 57,some 58,some 59] (Zfg (Zfe (Zfc (Zfb (Ztc (Ztb (Zfg (Zfg (Zfd (Zfb [])))))))))) [fun v _=>v=.pointer (some ⟨b,0,none⟩),fun v _=>v=.pointer (some ⟨S,2,none⟩),fun v _=>v=.int .i64 (nn),fun v _=>v=.string ⟨(TA).toArray⟩,fun v _=>v=.pointer (some ⟨S,4,none⟩),fun v _=>v=.slice pB (y.length) (cB)] (by kernel_rfl) (by kernel_rfl) (by kernel_rfl) rfl ?_ ⟨?_,?_,?_,?_,?_,?_,trivial⟩ ?_
   ·exact⟨Zi,Zi,Zi,Zi,Zi,Zi,trivial⟩
   ·intro u w hR hd;exact runs_mv (ev rfl) Zr
   ·intro u w hR hd;exact rn_fld_49_2 (ev rfl) Zr
   ·intro u w hR hd;exact rn_ld_3 (ev (hd.1 rfl)) (d2.kept hR) Zr
   ·intro u w hR hd;exact runs_c1 en_it (ev (hd.1 rfl)) (callp (fun _ e=>e) (HIT.out _ (HW0.out.grew ((Grew.refl _).drw.trans hR) HNw.out)))
   ·intro u w hR hd;exact rn_fld_49_4 (ev rfl) Zr
   ·intro u w hR hd;exact rn_ld_40 (ev (hd.1 rfl)) (d4.kept hR) Zr
   ·intro u w5 hR h
    have g5:Grew V0 w5:=(Grew.refl V0).drw.trans hR
    have HB5:=zh (HB0.out.grew g5)
    have HN5:=zh (Nat.le_trans HN0.out g5.sz)
    have HW5:=zh (HW0.out.grew g5 HNw.out)
    have e0:u 54=PtrTo b:=h 0 (by decide)
    have e1:u 57=.string ⟨TA.toArray⟩:=h 3 (by decide)
    have e2:u 59=.slice pB y.length cB:=h 5 (by decide)
    refine wpAny_one (i:=6) (some 60) (by kernel_rfl) rfl rfl rfl (runs_c4 en_cm (ev e0) rfl (ev e1) (ev e2) ((comp_of y HBY.out ⟨#[114,101,112,101,97,116,32]⟩ ⟨TA.toArray⟩ N b d xs B w5 pB cB HB5.out HN5.out HBN.out (HY.out.below HBN.out HW5.out.bel) (HE.out.wrote HW5.out) HOY.out HDY.out (by have h_:=HLT_.out;rw [← HTT.out] at h_;simpa using h_)).mono ?_))
    rintro e_ w6 ⟨rfl,hb_,hw_⟩
    refine⟨_,rfl,?_⟩
    refine wpAny_done (by kernel_rfl) ?_ _
    simp only [zz1,zz2,zz3,Act.put,mixA,mixL,zz9,zz0,zz4,zz5,zz6]
    try simp only [Nat.zero_add,Nat.reduceAdd]
    generalize u 54=z54
    generalize u 55=z55
    generalize u 56=z56
    generalize u 57=z57
    generalize u 58=z58
    generalize u 59=z59
    have HB6:=zh hb_
    have HW6:=zh (HW5.out.trans hw_)
    clear hb_ hw_ h hR g5
    go_wp2
    go_end0
    exact⟨rfl,by have h_:=HB6.out;rw [← HTT.out];simpa using h_,HW6.out⟩
  ·exfalso;omega
  ·exfalso;omega
  ·exfalso;omega
 ·skip
  rcases hcs with ⟨hk_,_⟩ | ⟨hk_,_⟩ | ⟨hk_,_⟩ | ⟨hk_,_⟩ | ⟨_,⟨a,rfl⟩,rfl,rfl,rfl⟩ | ⟨hk_,_⟩ | ⟨hk_,_⟩
  ·exfalso;omega
  ·exfalso;omega
  ·exfalso;omega
  ·exfalso;omega
  ·skip
   have hoa:=ok1 hox
   have hlin:linS ⟨6,⟨#[]⟩,0,[a],y,[],q⟩ (sp d)=([119,104,105,108,101,32]++txX a++[32,123,10])++(linL y (sp (d+1))++(sp d++[125,10])):=by rw [linS,if_neg (by simp [hedT]),sp_in4,elsT];rw [(ag0 a []).1];show ((((([119,104,105,108,101,32]++txX a)++[32,123])++[10])++linL y (sp (d+1)))++sp d)++[125,10]=_;simp
   rw [hlin] at hlen ⊢
   obtain ⟨bz,oz_,pa,ca,rfl,hba,haa,hca⟩:=hX.get 0 (by simp)
   obtain ⟨ka,sa,va,oa,ra,qa⟩:=a
   replace haa:XL B w pa ca ra:=haa
   replace hba:B bz∧sa.size≤1048576∧va≤32767:=hba
   have HAa:=zh haa
   have HZa:=zh hba.2
   have HLTa:=zh (HBN.out bz hba.1)
   have hcapa:ra.length≤ca:=haa.cap.1
   have hmaxa:=haa.cap.2.1
   have HCa:Hid (∀i_ u_,(xdc ⟨ka,sa,va,oa,pa,ra.length,ca,qa⟩)[i_]?=some u_→w.cell? ⟨bz,oz_+0 * 6+i_,none⟩=some u_):=zh hca
   clear haa hba hca
   have HOAa:=zh hoa
   have HLa:Hid ((txX ⟨ka,sa,va,oa,ra,qa⟩).length≤140737488355328):=zh (by simp only [List.length_append] at hlen;omega)
   have HTA:Hid (∀W,N≤W.heap.size→Wrote N b w W→Calls Tryz.prog 49 #[xv ka sa va oa pa ra.length ca qa] W fun e w'=>e=.returned (.string ⟨(txX ⟨ka,sa,va,oa,ra,qa⟩).toArray⟩)∧Grew W w') :=
    zh (fun W hNW hW=>textF_any ka sa va oa ra qa B W pa ca (fun i hi=>Nat.lt_of_lt_of_le (HBN.out i hi) hNW) (HAa.out.below HBN.out hW.bel) HZa.out (HE.out.wrote hW).env HOAa.out HLa.out)
   obtain ⟨TT,hTT⟩:∃TT,xs++(sp d++(([119,104,105,108,101,32]++(txX ⟨ka,sa,va,oa,ra,qa⟩)++[32,123,10])++(linL y (sp (d+1))++(sp d++[125,10]))))=TT:=⟨_,rfl⟩
   have HLT_:Hid (TT.length≤140737488355328):=zh (by rw [← hTT,List.length_append];exact hlen)
   rw [hTT]
   have HTT:=zh hTT
   generalize (txX ⟨ka,sa,va,oa,ra,qa⟩)=TA at HTA HTT
   have HBY:=zh (hbd y (by omega))
   clear hb hN hB hX hY hEl hE hok hd hlen hox hoy hoe hlin hTT hs hn hbd HLa
   show Calls Tryz.prog 96 #[PtrTo b,sv 6 ⟨#[]⟩ 0 (some ⟨bz,oz_,none⟩) 1 cA pB y.length cB pE 0 cE q] w fun e' w'=>e'=.returned (.tuple #[])∧BldT 72 [.int .i64 (d:Int)] N b TT w'∧Wrote N b w w'
   go_enter Tryz.func96,Tryz.ntmps96
   go_upto_region 1 with fail
   have hb1_:Blk w.heap.size [.int .i64 6,.string ⟨#[]⟩,.int .i64 0,.slice (some ⟨bz,oz_,none⟩) 1 cA,.slice pB y.length cB,.slice pE 0 cE,.int .i64 q] 49 (w.alloc (Obj.cells #[.int .i64 6,.string ⟨#[]⟩,.int .i64 0,.slice (some ⟨bz,oz_,none⟩) 1 cA,.slice pB y.length cB,.slice pE 0 cE,.int .i64 q] 49)):=Blk.new w _ _
   have hgV:Grew w (w.alloc (Obj.cells #[.int .i64 6,.string ⟨#[]⟩,.int .i64 0,.slice (some ⟨bz,oz_,none⟩) 1 cA,.slice pB y.length cB,.slice pE 0 cE,.int .i64 q] 49)):=(Grew.refl w).alloc _
   have hne_:w.heap.size≠b:=by have:=HB.out.lt;omega
   generalize (w.alloc (Obj.cells #[.int .i64 6,.string ⟨#[]⟩,.int .i64 0,.slice (some ⟨bz,oz_,none⟩) 1 cA,.slice pB y.length cB,.slice pE 0 cE,.int .i64 q] 49))=V0 at hb1_ hgV ⊢
   generalize w.heap.size=S at hb1_ hne_ ⊢
   have HW0:=zh (Wrote.of_grew (N:=N) (b:=b) hgV HNw.out)
   have HB0:=zh (HB.out.grew hgV)
   have HN0:=zh (Nat.le_trans HNw.out hgV.sz)
   have HX0:=zh hb1_
   have HNE:=zh hne_
   clear hb1_ hgV hne_
   have x0V0:V0.cell? ⟨S,0,none⟩=some (.int .i64 6):=HX0.out.cell 0
   have x1V0:V0.cell? ⟨S,1,none⟩=some (.string ⟨#[]⟩):=HX0.out.cell 1
   have x2V0:V0.cell? ⟨S,2,none⟩=some (.int .i64 0):=HX0.out.cell 2
   have x3V0:V0.cell? ⟨S,3,none⟩=some (.slice (some ⟨bz,oz_,none⟩) 1 cA):=HX0.out.cell 3
   have x4V0:V0.cell? ⟨S,4,none⟩=some (.slice pB y.length cB):=HX0.out.cell 4
   have x5V0:V0.cell? ⟨S,5,none⟩=some (.slice pE 0 cE):=HX0.out.cell 5
   have x6V0:V0.cell? ⟨S,6,none⟩=some (.int .i64 q):=HX0.out.cell 6
   go_upto_region 13 with fail
   have d0:Atv ⟨S,0,none⟩ (.int .i64 6) V0.drew:=(HX0.out.grew (Grew.refl _).drw).atv 0 rfl
   have d1:Atv ⟨S,1,none⟩ (.string ⟨#[]⟩) V0.drew:=(HX0.out.grew (Grew.refl _).drw).atv 1 rfl
   have d2:Atv ⟨S,2,none⟩ (.int .i64 0) V0.drew:=(HX0.out.grew (Grew.refl _).drw).atv 2 rfl
   have d3:Atv ⟨S,3,none⟩ (.slice (some ⟨bz,oz_,none⟩) 1 cA) V0.drew:=(HX0.out.grew (Grew.refl _).drw).atv 3 rfl
   have d4:Atv ⟨S,4,none⟩ (.slice pB y.length cB) V0.drew:=(HX0.out.grew (Grew.refl _).drw).atv 4 rfl
   have bw_:Below N w V0.drew:=Below.drew HW0.out.bel
   have a0:Atv ⟨bz,oz_+0 * 6,none⟩ (.int .i64 ka) V0.drew:=below_cell bw_ HLTa.out (HCa.out 0 _ rfl)
   have a1:Atv ⟨bz,oz_+0 * 6+1,none⟩ (.string sa) V0.drew:=below_cell bw_ HLTa.out (HCa.out 1 _ rfl)
   have a2:Atv ⟨bz,oz_+0 * 6+2,none⟩ (.int .i16 va) V0.drew:=below_cell bw_ HLTa.out (HCa.out 2 _ rfl)
   have a3:Atv ⟨bz,oz_+0 * 6+3,none⟩ (.int .i64 oa) V0.drew:=below_cell bw_ HLTa.out (HCa.out 3 _ rfl)
   have a4:Atv ⟨bz,oz_+0 * 6+4,none⟩ (.slice pa ra.length ca) V0.drew:=below_cell bw_ HLTa.out (HCa.out 4 _ rfl)
   have a5:Atv ⟨bz,oz_+0 * 6+5,none⟩ (.int .i64 qa) V0.drew:=below_cell bw_ HLTa.out (HCa.out 5 _ rfl)
   refine wp_grew_tail 8 [some 63,some 64,some 65,some 66,some 67,some 68,some 69,some 70] (Zfg (Zfe (Zfd (Zfc (Zfb (Zfa (Ztd (Zfg (Zfe (Zfd (Zfc (Zfb (Zfa []))))))))))))) [fun v _=>v=.pointer (some ⟨b,0,none⟩),fun v _=>v=.pointer (some ⟨S,3,none⟩),fun v _=>v=.slice (some ⟨bz,oz_,none⟩) (1) (cA),fun v _=>v=.pointer (some ⟨bz,oz_+0 * 6,none⟩),fun v _=>v=.agg #[.int .i64 (ka),.string sa,.int .i16 (va),.int .i64 (oa),.slice pa ra.length ca,.int .i64 (qa)],fun v _=>v=.string ⟨(TA).toArray⟩,fun v _=>v=.pointer (some ⟨S,4,none⟩),fun v _=>v=.slice pB (y.length) (cB)] (by kernel_rfl) (by kernel_rfl) (by kernel_rfl) rfl ?_ ⟨?_,?_,?_,?_,?_,?_,?_,?_,trivial⟩ ?_
   ·exact⟨Zi,Zi,Zi,Zi,Zi,Zi,Zi,Zi,trivial⟩
   ·intro u w hR hd;exact runs_mv (ev rfl) Zr
   ·intro u w hR hd;exact rn_fld_49_3 (ev rfl) Zr
   ·intro u w hR hd;exact rn_ld_33 (ev (hd.1 rfl)) (d3.kept hR) Zr
   ·intro u w hR hd;exact rn_idx_33 (0) (ev (hd.1 rfl)) rfl (by omega) Zr
   ·intro u w hR hd;exact rn_ld_35 (ev (hd.1 rfl)) (a0.kept hR) (a1.kept hR) (a2.kept hR) (a3.kept hR) (a4.kept hR) (a5.kept hR) Zr
   ·intro u w hR hd;exact runs_c1 en_txt (ev (hd.1 rfl)) (callp (fun _ e=>e) (HTA.out _ (Nat.le_trans HN0.out ((Grew.refl _).drw.trans hR).sz) (HW0.out.grew ((Grew.refl _).drw.trans hR) HNw.out)))
   ·intro u w hR hd;exact rn_fld_49_4 (ev rfl) Zr
   ·intro u w hR hd;exact rn_ld_40 (ev (hd.1 rfl)) (d4.kept hR) Zr
   ·intro u w5 hR h
    have g5:Grew V0 w5:=(Grew.refl V0).drw.trans hR
    have HB5:=zh (HB0.out.grew g5)
    have HN5:=zh (Nat.le_trans HN0.out g5.sz)
    have HW5:=zh (HW0.out.grew g5 HNw.out)
    have e0:u 63=PtrTo b:=h 0 (by decide)
    have e1:u 68=.string ⟨TA.toArray⟩:=h 5 (by decide)
    have e2:u 70=.slice pB y.length cB:=h 7 (by decide)
    refine wpAny_one (i:=8) (some 71) (by kernel_rfl) rfl rfl rfl (runs_c4 en_cm (ev e0) rfl (ev e1) (ev e2) ((comp_of y HBY.out ⟨#[119,104,105,108,101,32]⟩ ⟨TA.toArray⟩ N b d xs B w5 pB cB HB5.out HN5.out HBN.out (HY.out.below HBN.out HW5.out.bel) (HE.out.wrote HW5.out) HOY.out HDY.out (by have h_:=HLT_.out;rw [← HTT.out] at h_;simpa using h_)).mono ?_))
    rintro e_ w6 ⟨rfl,hb_,hw_⟩
    refine⟨_,rfl,?_⟩
    refine wpAny_done (by kernel_rfl) ?_ _
    simp only [zz1,zz2,zz3,Act.put,mixA,mixL,zz9,zz0,zz4,zz5,zz6]
    try simp only [Nat.zero_add,Nat.reduceAdd]
    generalize u 63=z63
    generalize u 64=z64
    generalize u 65=z65
    generalize u 66=z66
    generalize u 67=z67
    generalize u 68=z68
    generalize u 69=z69
    generalize u 70=z70
    have HB6:=zh hb_
    have HW6:=zh (HW5.out.trans hw_)
    clear hb_ hw_ h hR g5
    go_wp2
    go_end0
    exact⟨rfl,by have h_:=HB6.out;rw [← HTT.out];simpa using h_,HW6.out⟩
  ·exfalso;omega
  ·exfalso;omega
set_option maxHeartbeats 16000000 in
theorem smE_of (n:Nat) (hbd:∀l,nSs l≤n→BdC l):∀(k:Int) (s:ByteArray) (nn:Int) (ar:List Xp) (y e:List Sm) (q:Int),nSs y+nSs e≤n→(k=10∨k=11)→StF 96 k s nn ar y e q:=by
 intro k s nn ar y e q hn hkk N b d xs B w pA cA pB cB pE cE hb hN hB hX hY hEl hs hE hok hd hlen
 obtain ⟨hox,hoy,hoe,hcs⟩:=okS_cases hok
 have hdS:dS ⟨k,s,nn,ar,y,e,q⟩=max (max (dSs y) (dSs e)) (dXs ar)+1:=by rw [dS]
 have hcap:=And.intro hX.cap.1 (And.intro hY.cap.1 hEl.cap.1)
 have hmax:=And.intro hX.cap.2.1 (And.intro hY.cap.2.1 hEl.cap.2.1)
 have HB:=zh hb
 have HNw:=zh hN
 have HBN:=zh hB
 have HE:=zh hE
 have HY:=zh hY
 have HOY:=zh hoy
 have HDY:Hid (d+1+dSs y≤1000):=zh (by rw [hdS] at hd;omega)
 have HD:Hid (d≤1000000):=zh (by omega)
 clear hdS
 rcases hkk with rfl | rfl
 ·skip
  rcases hcs with ⟨hk_,_⟩ | ⟨hk_,_⟩ | ⟨hk_,_⟩ | ⟨_,rfl,rfl,hnn,rfl⟩ | ⟨hk_,_⟩ | ⟨hk_,_⟩ | ⟨hk_,_⟩
  ·exfalso;omega
  ·exfalso;omega
  ·exfalso;omega
  ·skip
   have hlin:linS ⟨10,⟨#[]⟩,nn,[],y,[],q⟩ (sp d)=([102,114,101,115,104,32]++numZ nn++[32,123,10])++(linL y (sp (d+1))++(sp d++[125,10])):=by rw [linS,if_neg (by simp [hedT]),sp_in4,elsT];show ((((([102,114,101,115,104,32]++numZ nn)++[32,123])++[10])++linL y (sp (d+1)))++sp d)++[125,10]=_;simp
   rw [hlin] at hlen ⊢
   have HIT:Hid (∀W,Wrote N b w W→Calls Tryz.prog 40 #[.int .i64 nn] W fun e w'=>e=.returned (.string ⟨(numZ nn).toArray⟩)∧Grew W w'):=zh (fun W hW=>itoa_any nn (by omega) W (HE.out.wrote hW).env)
   obtain ⟨TT,hTT⟩:∃TT,xs++(sp d++(([102,114,101,115,104,32]++numZ nn++[32,123,10])++(linL y (sp (d+1))++(sp d++[125,10]))))=TT:=⟨_,rfl⟩
   have HLT_:Hid (TT.length≤140737488355328):=zh (by rw [← hTT,List.length_append];exact hlen)
   rw [hTT]
   have HTT:=zh hTT
   generalize numZ nn=TA at HIT HTT
   have HBY:=zh (hbd y (by omega))
   clear hb hN hB hX hY hEl hE hok hd hlen hox hoy hoe hlin hTT hs hn hbd 
   show Calls Tryz.prog 96 #[PtrTo b,sv 10 ⟨#[]⟩ nn pA 0 cA pB y.length cB pE 0 cE q] w fun e' w'=>e'=.returned (.tuple #[])∧BldT 72 [.int .i64 (d:Int)] N b TT w'∧Wrote N b w w'
   go_enter Tryz.func96,Tryz.ntmps96
   go_upto_region 1 with fail
   have hb1_:Blk w.heap.size [.int .i64 10,.string ⟨#[]⟩,.int .i64 nn,.slice pA 0 cA,.slice pB y.length cB,.slice pE 0 cE,.int .i64 q] 49 (w.alloc (Obj.cells #[.int .i64 10,.string ⟨#[]⟩,.int .i64 nn,.slice pA 0 cA,.slice pB y.length cB,.slice pE 0 cE,.int .i64 q] 49)):=Blk.new w _ _
   have hgV:Grew w (w.alloc (Obj.cells #[.int .i64 10,.string ⟨#[]⟩,.int .i64 nn,.slice pA 0 cA,.slice pB y.length cB,.slice pE 0 cE,.int .i64 q] 49)):=(Grew.refl w).alloc _
   have hne_:w.heap.size≠b:=by have:=HB.out.lt;omega
   generalize (w.alloc (Obj.cells #[.int .i64 10,.string ⟨#[]⟩,.int .i64 nn,.slice pA 0 cA,.slice pB y.length cB,.slice pE 0 cE,.int .i64 q] 49))=V0 at hb1_ hgV ⊢
   generalize w.heap.size=S at hb1_ hne_ ⊢
   have HW0:=zh (Wrote.of_grew (N:=N) (b:=b) hgV HNw.out)
   have HB0:=zh (HB.out.grew hgV)
   have HN0:=zh (Nat.le_trans HNw.out hgV.sz)
   have HX0:=zh hb1_
   have HNE:=zh hne_
   clear hb1_ hgV hne_
   have x0V0:V0.cell? ⟨S,0,none⟩=some (.int .i64 10):=HX0.out.cell 0
   have x1V0:V0.cell? ⟨S,1,none⟩=some (.string ⟨#[]⟩):=HX0.out.cell 1
   have x2V0:V0.cell? ⟨S,2,none⟩=some (.int .i64 nn):=HX0.out.cell 2
   have x3V0:V0.cell? ⟨S,3,none⟩=some (.slice pA 0 cA):=HX0.out.cell 3
   have x4V0:V0.cell? ⟨S,4,none⟩=some (.slice pB y.length cB):=HX0.out.cell 4
   have x5V0:V0.cell? ⟨S,5,none⟩=some (.slice pE 0 cE):=HX0.out.cell 5
   have x6V0:V0.cell? ⟨S,6,none⟩=some (.int .i64 q):=HX0.out.cell 6
   go_upto_region 21 with fail
   have d0:Atv ⟨S,0,none⟩ (.int .i64 10) V0.drew:=(HX0.out.grew (Grew.refl _).drw).atv 0 rfl
   have d1:Atv ⟨S,1,none⟩ (.string ⟨#[]⟩) V0.drew:=(HX0.out.grew (Grew.refl _).drw).atv 1 rfl
   have d2:Atv ⟨S,2,none⟩ (.int .i64 nn) V0.drew:=(HX0.out.grew (Grew.refl _).drw).atv 2 rfl
   have d3:Atv ⟨S,3,none⟩ (.slice pA 0 cA) V0.drew:=(HX0.out.grew (Grew.refl _).drw).atv 3 rfl
   have d4:Atv ⟨S,4,none⟩ (.slice pB y.length cB) V0.drew:=(HX0.out.grew (Grew.refl _).drw).atv 4 rfl
   have bw_:Below N w V0.drew:=Below.drew HW0.out.bel
   refine wp_grew_tail 6 [some 108,some 109,some 110,some 111,some 112,some 113] (Zfg (Zfg (Zfg (Zfd (Zfc (Ztc (Ztb (Zfe (Zfc []))))))))) [fun v _=>v=.pointer (some ⟨b,0,none⟩),fun v _=>v=.pointer (some ⟨S,2,none⟩),fun v _=>v=.int .i64 (nn),fun v _=>v=.string ⟨(TA).toArray⟩,fun v _=>v=.pointer (some ⟨S,4,none⟩),fun v _=>v=.slice pB (y.length) (cB)] (by kernel_rfl) (by kernel_rfl) (by kernel_rfl) rfl ?_ ⟨?_,?_,?_,?_,?_,?_,trivial⟩ ?_
   ·exact⟨Zi,Zi,Zi,Zi,Zi,Zi,trivial⟩
   ·intro u w hR hd;exact runs_mv (ev rfl) Zr
   ·intro u w hR hd;exact rn_fld_49_2 (ev rfl) Zr
   ·intro u w hR hd;exact rn_ld_3 (ev (hd.1 rfl)) (d2.kept hR) Zr
   ·intro u w hR hd;exact runs_c1 en_it (ev (hd.1 rfl)) (callp (fun _ e=>e) (HIT.out _ (HW0.out.grew ((Grew.refl _).drw.trans hR) HNw.out)))
   ·intro u w hR hd;exact rn_fld_49_4 (ev rfl) Zr
   ·intro u w hR hd;exact rn_ld_40 (ev (hd.1 rfl)) (d4.kept hR) Zr
   ·intro u w5 hR h
    have g5:Grew V0 w5:=(Grew.refl V0).drw.trans hR
    have HB5:=zh (HB0.out.grew g5)
    have HN5:=zh (Nat.le_trans HN0.out g5.sz)
    have HW5:=zh (HW0.out.grew g5 HNw.out)
    have e0:u 108=PtrTo b:=h 0 (by decide)
    have e1:u 111=.string ⟨TA.toArray⟩:=h 3 (by decide)
    have e2:u 113=.slice pB y.length cB:=h 5 (by decide)
    refine wpAny_one (i:=6) (some 114) (by kernel_rfl) rfl rfl rfl (runs_c4 en_cm (ev e0) rfl (ev e1) (ev e2) ((comp_of y HBY.out ⟨#[102,114,101,115,104,32]⟩ ⟨TA.toArray⟩ N b d xs B w5 pB cB HB5.out HN5.out HBN.out (HY.out.below HBN.out HW5.out.bel) (HE.out.wrote HW5.out) HOY.out HDY.out (by have h_:=HLT_.out;rw [← HTT.out] at h_;simpa using h_)).mono ?_))
    rintro e_ w6 ⟨rfl,hb_,hw_⟩
    refine⟨_,rfl,?_⟩
    refine wpAny_done (by kernel_rfl) ?_ _
    simp only [zz1,zz2,zz3,Act.put,mixA,mixL,zz9,zz0,zz4,zz5,zz6]
    try simp only [Nat.zero_add,Nat.reduceAdd]
    generalize u 108=z108
    generalize u 109=z109
    generalize u 110=z110
    generalize u 111=z111
    generalize u 112=z112
    generalize u 113=z113
    have HB6:=zh hb_
    have HW6:=zh (HW5.out.trans hw_)
    clear hb_ hw_ h hR g5
    go_wp2
    go_end0
    exact⟨rfl,by have h_:=HB6.out;rw [← HTT.out];simpa using h_,HW6.out⟩
  ·exfalso;omega
  ·exfalso;omega
  ·exfalso;omega
 ·skip
  rcases hcs with ⟨hk_,_⟩ | ⟨hk_,_⟩ | ⟨hk_,_⟩ | ⟨_,rfl,rfl,hnn,rfl⟩ | ⟨hk_,_⟩ | ⟨hk_,_⟩ | ⟨hk_,_⟩
  ·exfalso;omega
  ·exfalso;omega
  ·exfalso;omega
  ·skip
   have hlin:linS ⟨11,⟨#[]⟩,nn,[],y,[],q⟩ (sp d)=([116,111,103,101,116,104,101,114,32]++numZ nn++[32,123,10])++(linL y (sp (d+1))++(sp d++[125,10])):=by rw [linS,if_neg (by simp [hedT]),sp_in4,elsT];show ((((([116,111,103,101,116,104,101,114,32]++numZ nn)++[32,123])++[10])++linL y (sp (d+1)))++sp d)++[125,10]=_;simp
   rw [hlin] at hlen ⊢
   have HIT:Hid (∀W,Wrote N b w W→Calls Tryz.prog 40 #[.int .i64 nn] W fun e w'=>e=.returned (.string ⟨(numZ nn).toArray⟩)∧Grew W w'):=zh (fun W hW=>itoa_any nn (by omega) W (HE.out.wrote hW).env)
   obtain ⟨TT,hTT⟩:∃TT,xs++(sp d++(([116,111,103,101,116,104,101,114,32]++numZ nn++[32,123,10])++(linL y (sp (d+1))++(sp d++[125,10]))))=TT:=⟨_,rfl⟩
   have HLT_:Hid (TT.length≤140737488355328):=zh (by rw [← hTT,List.length_append];exact hlen)
   rw [hTT]
   have HTT:=zh hTT
   generalize numZ nn=TA at HIT HTT
   have HBY:=zh (hbd y (by omega))
   clear hb hN hB hX hY hEl hE hok hd hlen hox hoy hoe hlin hTT hs hn hbd 
   show Calls Tryz.prog 96 #[PtrTo b,sv 11 ⟨#[]⟩ nn pA 0 cA pB y.length cB pE 0 cE q] w fun e' w'=>e'=.returned (.tuple #[])∧BldT 72 [.int .i64 (d:Int)] N b TT w'∧Wrote N b w w'
   go_enter Tryz.func96,Tryz.ntmps96
   go_upto_region 1 with fail
   have hb1_:Blk w.heap.size [.int .i64 11,.string ⟨#[]⟩,.int .i64 nn,.slice pA 0 cA,.slice pB y.length cB,.slice pE 0 cE,.int .i64 q] 49 (w.alloc (Obj.cells #[.int .i64 11,.string ⟨#[]⟩,.int .i64 nn,.slice pA 0 cA,.slice pB y.length cB,.slice pE 0 cE,.int .i64 q] 49)):=Blk.new w _ _
   have hgV:Grew w (w.alloc (Obj.cells #[.int .i64 11,.string ⟨#[]⟩,.int .i64 nn,.slice pA 0 cA,.slice pB y.length cB,.slice pE 0 cE,.int .i64 q] 49)):=(Grew.refl w).alloc _
   have hne_:w.heap.size≠b:=by have:=HB.out.lt;omega
   generalize (w.alloc (Obj.cells #[.int .i64 11,.string ⟨#[]⟩,.int .i64 nn,.slice pA 0 cA,.slice pB y.length cB,.slice pE 0 cE,.int .i64 q] 49))=V0 at hb1_ hgV ⊢
   generalize w.heap.size=S at hb1_ hne_ ⊢
   have HW0:=zh (Wrote.of_grew (N:=N) (b:=b) hgV HNw.out)
   have HB0:=zh (HB.out.grew hgV)
   have HN0:=zh (Nat.le_trans HNw.out hgV.sz)
   have HX0:=zh hb1_
   have HNE:=zh hne_
   clear hb1_ hgV hne_
   have x0V0:V0.cell? ⟨S,0,none⟩=some (.int .i64 11):=HX0.out.cell 0
   have x1V0:V0.cell? ⟨S,1,none⟩=some (.string ⟨#[]⟩):=HX0.out.cell 1
   have x2V0:V0.cell? ⟨S,2,none⟩=some (.int .i64 nn):=HX0.out.cell 2
   have x3V0:V0.cell? ⟨S,3,none⟩=some (.slice pA 0 cA):=HX0.out.cell 3
   have x4V0:V0.cell? ⟨S,4,none⟩=some (.slice pB y.length cB):=HX0.out.cell 4
   have x5V0:V0.cell? ⟨S,5,none⟩=some (.slice pE 0 cE):=HX0.out.cell 5
   have x6V0:V0.cell? ⟨S,6,none⟩=some (.int .i64 q):=HX0.out.cell 6
   go_upto_region 23 with fail
   have d0:Atv ⟨S,0,none⟩ (.int .i64 11) V0.drew:=(HX0.out.grew (Grew.refl _).drw).atv 0 rfl
   have d1:Atv ⟨S,1,none⟩ (.string ⟨#[]⟩) V0.drew:=(HX0.out.grew (Grew.refl _).drw).atv 1 rfl
   have d2:Atv ⟨S,2,none⟩ (.int .i64 nn) V0.drew:=(HX0.out.grew (Grew.refl _).drw).atv 2 rfl
   have d3:Atv ⟨S,3,none⟩ (.slice pA 0 cA) V0.drew:=(HX0.out.grew (Grew.refl _).drw).atv 3 rfl
   have d4:Atv ⟨S,4,none⟩ (.slice pB y.length cB) V0.drew:=(HX0.out.grew (Grew.refl _).drw).atv 4 rfl
   have bw_:Below N w V0.drew:=Below.drew HW0.out.bel
   refine wp_grew_tail 6 [some 117,some 118,some 119,some 120,some 121,some 122] (Zfg (Zfg (Zfg (Zfe (Zfc (Zfa (Ztc (Ztb (Zfd (Zfb (Zfa []))))))))))) [fun v _=>v=.pointer (some ⟨b,0,none⟩),fun v _=>v=.pointer (some ⟨S,2,none⟩),fun v _=>v=.int .i64 (nn),fun v _=>v=.string ⟨(TA).toArray⟩,fun v _=>v=.pointer (some ⟨S,4,none⟩),fun v _=>v=.slice pB (y.length) (cB)] (by kernel_rfl) (by kernel_rfl) (by kernel_rfl) rfl ?_ ⟨?_,?_,?_,?_,?_,?_,trivial⟩ ?_
   ·exact⟨Zi,Zi,Zi,Zi,Zi,Zi,trivial⟩
   ·intro u w hR hd;exact runs_mv (ev rfl) Zr
   ·intro u w hR hd;exact rn_fld_49_2 (ev rfl) Zr
   ·intro u w hR hd;exact rn_ld_3 (ev (hd.1 rfl)) (d2.kept hR) Zr
   ·intro u w hR hd;exact runs_c1 en_it (ev (hd.1 rfl)) (callp (fun _ e=>e) (HIT.out _ (HW0.out.grew ((Grew.refl _).drw.trans hR) HNw.out)))
   ·intro u w hR hd;exact rn_fld_49_4 (ev rfl) Zr
   ·intro u w hR hd;exact rn_ld_40 (ev (hd.1 rfl)) (d4.kept hR) Zr
   ·intro u w5 hR h
    have g5:Grew V0 w5:=(Grew.refl V0).drw.trans hR
    have HB5:=zh (HB0.out.grew g5)
    have HN5:=zh (Nat.le_trans HN0.out g5.sz)
    have HW5:=zh (HW0.out.grew g5 HNw.out)
    have e0:u 117=PtrTo b:=h 0 (by decide)
    have e1:u 120=.string ⟨TA.toArray⟩:=h 3 (by decide)
    have e2:u 122=.slice pB y.length cB:=h 5 (by decide)
    refine wpAny_one (i:=6) (some 123) (by kernel_rfl) rfl rfl rfl (runs_c4 en_cm (ev e0) rfl (ev e1) (ev e2) ((comp_of y HBY.out ⟨#[116,111,103,101,116,104,101,114,32]⟩ ⟨TA.toArray⟩ N b d xs B w5 pB cB HB5.out HN5.out HBN.out (HY.out.below HBN.out HW5.out.bel) (HE.out.wrote HW5.out) HOY.out HDY.out (by have h_:=HLT_.out;rw [← HTT.out] at h_;simpa using h_)).mono ?_))
    rintro e_ w6 ⟨rfl,hb_,hw_⟩
    refine⟨_,rfl,?_⟩
    refine wpAny_done (by kernel_rfl) ?_ _
    simp only [zz1,zz2,zz3,Act.put,mixA,mixL,zz9,zz0,zz4,zz5,zz6]
    try simp only [Nat.zero_add,Nat.reduceAdd]
    generalize u 117=z117
    generalize u 118=z118
    generalize u 119=z119
    generalize u 120=z120
    generalize u 121=z121
    generalize u 122=z122
    have HB6:=zh hb_
    have HW6:=zh (HW5.out.trans hw_)
    clear hb_ hw_ h hR g5
    go_wp2
    go_end0
    exact⟨rfl,by have h_:=HB6.out;rw [← HTT.out];simpa using h_,HW6.out⟩
  ·exfalso;omega
  ·exfalso;omega
  ·exfalso;omega
theorem stmt_of (n:Nat) (hbd:∀l,nSs l≤n→BdC l):∀(k:Int) (s:ByteArray) (nn:Int) (ar:List Xp) (y e:List Sm) (q:Int),nSs y+nSs e≤n→StF 96 k s nn ar y e q:=by
 intro k s nn ar y e q hn N b d xs B w pA cA pB cB pE cE hb hN hB hX hY hEl hs hE hok
 have hk:(k=1∨k=2)∨(k=3∨k=7)∨(k=9∨k=8∨k=12∨k=13)∨(k=4∨k=5∨k=6)∨(k=10∨k=11):=by
  rcases (okS_cases hok).2.2.2 with ⟨h,_⟩ | ⟨h,_⟩ | ⟨h,_⟩ | ⟨h,_⟩ | ⟨h,_⟩ | ⟨h,_⟩ | ⟨h,_⟩ <;> omega
 rcases hk with hk | hk | hk | hk | hk
 ·exact smA_of n hbd k s nn ar y e q hn hk N b d xs B w pA cA pB cB pE cE hb hN hB hX hY hEl hs hE hok
 ·exact smB_of n hbd k s nn ar y e q hn hk N b d xs B w pA cA pB cB pE cE hb hN hB hX hY hEl hs hE hok
 ·exact smC_of n hbd k s nn ar y e q hn hk N b d xs B w pA cA pB cB pE cE hb hN hB hX hY hEl hs hE hok
 ·exact smD_of n hbd k s nn ar y e q hn hk N b d xs B w pA cA pB cB pE cE hb hN hB hX hY hEl hs hE hok
 ·exact smE_of n hbd k s nn ar y e q hn hk N b d xs B w pA cA pB cB pE cE hb hN hB hX hY hEl hs hE hok
theorem body_all:∀(n:Nat) (l:List Sm),nSs l≤n→BdC l:=by
 intro n
 induction n with
 | zero =>
   intro l hl
   have:l=[]:=by
    match l,hl with
    | [],_=>rfl
    | x :: l,h=>exfalso;have:=nS_pos x;rw [nSs] at h;omega
   subst this
   exact body_of [] (fun x hx=>by cases hx)
 | succ n ih =>
   intro l hl
   refine body_of l fun x hx=>?_
   have h1:=nSs_mem hx
   rw [nS_be] at h1
   exact stmt_of n ih x.k x.s x.n x.ar x.b x.e x.q (by omega)
theorem bodyP_any (l:List Sm):BdC l:=body_all _ l (Nat.le_refl _)
theorem foldl_app {α:Type}{g:List UInt8→α→List UInt8}{h:α→List UInt8}(hg:∀O x,g O x=O++h x):∀(l:List α) (O:List UInt8),l.foldl g O=O++l.flatMap h
 | [],O=>by simp
 | x :: l,O=>by rw [List.foldl_cons,foldl_app hg l,hg,List.flatMap_cons,List.append_assoc]
def hCn (c:Cn):List UInt8:=[99,111,110,115,116,32]++(c.s.data.toList++([32,61,32]++(numZ c.v++([59]++[10]))))
def hGn (c:Gl):List UInt8:=glT c.s c.l c.i++[10]
def hSn (s:ByteArray):List UInt8:=[115,101,110,115,111,114,32]++(s.data.toList++([59]++[10]))
def hOn (s:ByteArray):List UInt8:=[111,117,116,112,117,116,32]++(s.data.toList++([59]++[10]))
def hHn (c:Cn):List UInt8:=[99,104,97,110,110,101,108,32]++(c.s.data.toList++([91]++(numZ c.v++([93,59]++[10]))))
def hTn (t:Ta):List UInt8:=([116,97,115,107,32]++(t.s.data.toList++(trT t.p t.c.data.toList t.m.data.toList t.w++(optT [100,101,97,100,108,105,110,101] t.d++([32,123]++[10])))))++(linL t.b (sp 1)++([125]++[10]))
theorem hTn_eq (t:Ta):tskT t=hTn t:=by
 rw [tskT,tskF,tskH,hTn,trT,show sp 1=[32,32,32,32] from rfl]
 split
 ·rw [tskC,tskO];simp
 ·rw [tskE,tskO];simp
theorem fmT_eq (P:Pg):fmT P=((((P.cs.flatMap hCn++P.gs.flatMap hGn)++P.ss.flatMap hSn)++P.os.flatMap hOn)++P.hs.flatMap hHn)++P.ts.flatMap hTn:=by
 rw [fmT,fTs,foldl_app (h:=hTn) (fun O t=>by rw [hTn_eq]),fHs,foldl_app (h:=hHn) (fun O c=>by rw [lnH,hHn];simp),fOs,foldl_app (h:=hOn) (fun O c=>by rw [lnO,hOn];simp),fSs,foldl_app (h:=hSn) (fun O c=>by rw [lnS,hSn];simp),
  fGs,foldl_app (h:=hGn) (fun O c=>by
   rw [lnG,lnG2,lnG1,hGn,glT]
   split
   ·simp
   ·split <;> simp),fCs,foldl_app (h:=hCn) (fun O c=>by rw [lnC,hCn];simp)]
 simp
theorem flatMap_le {α:Type}{h:α→List UInt8}{K:Nat}:∀(l:List α),(∀x ∈ l,(h x).length≤K)→(l.flatMap h).length≤l.length * K
 | [],_=>by simp
 | x :: l,hh=>by
   rw [List.flatMap_cons,List.length_append,List.length_cons,Nat.succ_mul]
   have h1:=hh x (List.mem_cons_self ..)
   have h2:=flatMap_le l fun y hy=>hh y (List.mem_cons_of_mem _ hy)
   omega
theorem flatMap_snoc {α:Type}{h:α→List UInt8}{l:List α}{j:Nat}{x:α}(e:l.take (j+1)=l.take j++[x]):(l.take (j+1)).flatMap h=(l.take j).flatMap h++h x:=by
 rw [e,List.flatMap_append];simp
theorem flatMap_take {α:Type}{h:α→List UInt8}(l:List α) (n:Nat):((l.take n).flatMap h).length≤(l.flatMap h).length:=by
 have:l.flatMap h=(l.take n).flatMap h++(l.drop n).flatMap h:=by rw [← List.flatMap_append,List.take_append_drop]
 rw [this,List.length_append];omega
theorem small_le {P:Pg}(h:smallP P=true):P.cs.length≤20∧P.gs.length≤20∧P.ss.length≤20∧P.os.length≤20∧P.hs.length≤20∧P.ts.length≤6∧zT P.ts≤300∧dT P.ts≤30:=by
 simpa [smallP,and_assoc] using h
theorem fmT_len (P:Pg) (hok:okP P=true) (hsm:smallP P=true) (hfit:∀t ∈ P.ts,fitSs t.b) (hv:(∀c ∈ P.cs,c.v≤32767)∧∀g ∈ P.gs,g.i≤32767):(fmT P).length≤140737488355328:=by
 rw [okP,Bool.and_eq_true,Bool.and_eq_true,Bool.and_eq_true,Bool.and_eq_true] at hok
 obtain ⟨o1,o2,o3,o4,o5⟩:=hok
 rw [okCs,List.all_eq_true] at o1
 rw [okGs,List.all_eq_true] at o2
 rw [okNs,List.all_eq_true] at o3
 rw [okHs,List.all_eq_true] at o4
 rw [okTs,List.all_eq_true] at o5
 have hs:=small_le hsm
 obtain ⟨s1,s2,s3,s4,s5,s6,s7,s8⟩:=hs
 have l1:=flatMap_le (h:=hCn) (K:=200) P.cs fun c hc=>by
  obtain ⟨a,b⟩:=okC_of (o1 c hc)
  have h1:=idn_len a
  have h2:=numZ_len (z:=c.v) ⟨by omega,hv.1 c hc⟩
  simp only [hCn,List.length_append,List.length_cons,List.length_nil]
  omega
 have l2:=flatMap_le (h:=hGn) (K:=200) P.gs fun c hc=>by
  obtain ⟨a,b,e,_⟩:=okG_of (o2 c hc)
  have h1:=idn_len a
  have h2:=numZ_len (z:=c.l) (by omega)
  have h3:=numZ_len (z:=c.i) ⟨by omega,hv.2 c hc⟩
  rw [hGn,glT]
  split
  ·simp only [List.length_append,List.length_cons,List.length_nil];omega
  ·split
   ·simp only [List.length_append,List.length_cons,List.length_nil];omega
   ·simp only [List.length_append,List.length_cons,List.length_nil];omega
 have l3:=flatMap_le (h:=hSn) (K:=200) P.ss fun c hc=>by
  have h1:=idn_len (o3 c (List.mem_append_left _ hc))
  simp only [hSn,List.length_append,List.length_cons,List.length_nil]
  omega
 have l4:=flatMap_le (h:=hOn) (K:=200) P.os fun c hc=>by
  have h1:=idn_len (o3 c (List.mem_append_right _ hc))
  simp only [hOn,List.length_append,List.length_cons,List.length_nil]
  omega
 have l5:=flatMap_le (h:=hHn) (K:=200) P.hs fun c hc=>by
  obtain ⟨a,b⟩:=okH_of (o4 c hc)
  have h1:=idn_len a
  have h2:=numZ_len (z:=c.v) (by omega)
  simp only [hHn,List.length_append,List.length_cons,List.length_nil]
  omega
 have l6:=flatMap_le (h:=hTn) (K:=2000000) P.ts fun t ht=>by
  have h1:=zT_mem ht
  have h2:dSs t.b≤dT P.ts:=by rw [dT_max];exact maxF_mem (F:=fun t:Ta=>dSs t.b) ht
  have h3:=tskT_len t (o5 t ht) (hfit t ht) (by omega)
  rw [← hTn_eq]
  omega
 rw [fmT_eq]
 simp only [List.length_append]
 have m1:=Nat.mul_le_mul_right 200 s1
 have m2:=Nat.mul_le_mul_right 200 s2
 have m3:=Nat.mul_le_mul_right 200 s3
 have m4:=Nat.mul_le_mul_right 200 s4
 have m5:=Nat.mul_le_mul_right 200 s5
 have m6:=Nat.mul_le_mul_right 2000000 s6
 omega
section
variable {dst:Option Tmp}{ty:TypeId}{pos:String}{after:Array Edge}{g:Option (Nat × Bool)}{a:Act}{w:World}{T:Value→World→Prop}
theorem rn_bs_99_111_110_115_116_32_27_32_61_32_31_59 {s0 s1:ByteArray}(hs0:a.eval (.tmp 27)=.string s0) (hs1:a.eval (.tmp 31)=.string s1) (h:T (.slice (some ⟨w.heap.size,0,none⟩) 5 5) (w.alloc (.cells #[.string ⟨#[99,111,110,115,116,32]⟩,.string s0,.string ⟨#[32,61,32]⟩,.string s1,.string ⟨#[59]⟩] 9))):Runs Tryz.prog ⟨dst,.buildSlice 24 5 #[(0,.const (.string ⟨#[99,111,110,115,116,32]⟩)),(1,.tmp 27),(2,.const (.string ⟨#[32,61,32]⟩)),(3,.tmp 31),(4,.const (.string ⟨#[59]⟩))],ty,pos,after,g⟩ a w T:=by
 refine Runs.value (v:=.slice (some ⟨w.heap.size,0,none⟩) 5 5) (w':=w.alloc (.cells #[.string ⟨#[99,111,110,115,116,32]⟩,.string s0,.string ⟨#[32,61,32]⟩,.string s1,.string ⟨#[59]⟩] 9)) ?_ h
 have e27:a.tmps[27]?.getD undef=.string s0:=by rw [slot_get,← slot_eval];exact hs0
 have e31:a.tmps[31]?.getD undef=.string s1:=by rw [slot_get,← slot_eval];exact hs1
 simp only [execOp]
 go_simp
theorem rn_bs_99_104_97_110_110_101_108_32_75_91_78_93_59 {s0 s1:ByteArray}(hs0:a.eval (.tmp 75)=.string s0) (hs1:a.eval (.tmp 78)=.string s1) (h:T (.slice (some ⟨w.heap.size,0,none⟩) 5 5) (w.alloc (.cells #[.string ⟨#[99,104,97,110,110,101,108,32]⟩,.string s0,.string ⟨#[91]⟩,.string s1,.string ⟨#[93,59]⟩] 9))):Runs Tryz.prog ⟨dst,.buildSlice 24 5 #[(0,.const (.string ⟨#[99,104,97,110,110,101,108,32]⟩)),(1,.tmp 75),(2,.const (.string ⟨#[91]⟩)),(3,.tmp 78),(4,.const (.string ⟨#[93,59]⟩))],ty,pos,after,g⟩ a w T:=by
 refine Runs.value (v:=.slice (some ⟨w.heap.size,0,none⟩) 5 5) (w':=w.alloc (.cells #[.string ⟨#[99,104,97,110,110,101,108,32]⟩,.string s0,.string ⟨#[91]⟩,.string s1,.string ⟨#[93,59]⟩] 9)) ?_ h
 have e75:a.tmps[75]?.getD undef=.string s0:=by rw [slot_get,← slot_eval];exact hs0
 have e78:a.tmps[78]?.getD undef=.string s1:=by rw [slot_get,← slot_eval];exact hs1
 simp only [execOp]
 go_simp
theorem rn_bs_116_97_115_107_32_90_92_95_32_123 {s0 s1 s2:ByteArray}(hs0:a.eval (.tmp 90)=.string s0) (hs1:a.eval (.tmp 92)=.string s1) (hs2:a.eval (.tmp 95)=.string s2) (h:T (.slice (some ⟨w.heap.size,0,none⟩) 5 5) (w.alloc (.cells #[.string ⟨#[116,97,115,107,32]⟩,.string s0,.string s1,.string s2,.string ⟨#[32,123]⟩] 9))):Runs Tryz.prog ⟨dst,.buildSlice 24 5 #[(0,.const (.string ⟨#[116,97,115,107,32]⟩)),(1,.tmp 90),(2,.tmp 92),(3,.tmp 95),(4,.const (.string ⟨#[32,123]⟩))],ty,pos,after,g⟩ a w T:=by
 refine Runs.value (v:=.slice (some ⟨w.heap.size,0,none⟩) 5 5) (w':=w.alloc (.cells #[.string ⟨#[116,97,115,107,32]⟩,.string s0,.string s1,.string s2,.string ⟨#[32,123]⟩] 9)) ?_ h
 have e90:a.tmps[90]?.getD undef=.string s0:=by rw [slot_get,← slot_eval];exact hs0
 have e92:a.tmps[92]?.getD undef=.string s1:=by rw [slot_get,← slot_eval];exact hs1
 have e95:a.tmps[95]?.getD undef=.string s2:=by rw [slot_get,← slot_eval];exact hs2
 simp only [execOp]
 go_simp
end
theorem roomT {α:Type}{h:α→List UInt8}{l:List α}{j:Nat}{x:α}{pre rest TT:List UInt8}(e:l.take (j+1)=l.take j++[x]) (hT:(pre++l.flatMap h)++rest=TT) (hl:TT.length≤140737488355328):(pre++(l.take j).flatMap h).length+(h x).length≤140737488355328:=by
 have h1:=flatMap_take (h:=h) l (j+1)
 rw [flatMap_snoc e,List.length_append] at h1
 rw [← hT] at hl
 simp only [List.length_append] at hl ⊢
 omega
theorem en_tr:Enters Tryz.prog 42:=fun args w=>by go_simp
set_option maxHeartbeats 32000000 in
theorem fmtP_ok (P:Pg) (B:Nat→Prop) (w:World) (cp gp sp_ op hp tp:Option Addr) (cc gc sc oc hc tc:Nat) (hB:∀i,B i→i < w.heap.size) (hpg:PgIn B w P cp gp sp_ op hp tp cc gc sc oc hc tc) (hE0:Env w) (hok:okP P=true) (hsm:smallP P=true) :
 Calls Tryz.prog 13 #[pgv P cp gp sp_ op hp tp cc gc sc oc hc tc] w fun e w'=>e=.returned (.string ⟨(fmT P).toArray⟩)∧Grew w w':=by
 have hlen:(fmT P).length≤140737488355328:=fmT_len P hok hsm (fun t ht=>by obtain ⟨i,hi,rfl⟩:=List.getElem_of_mem ht;obtain ⟨_,_,_,_,_,_,h1,_⟩:=hpg.ts.get i hi;exact SL.fit h1) ⟨fun c hc=>(hpg.sz.1 c hc).2,fun c hc=>(hpg.sz.2.1 c hc).2⟩
 obtain ⟨TT,hTT⟩:∃TT,fmT P=TT:=⟨_,rfl⟩
 rw [hTT] at hlen ⊢
 rw [fmT_eq] at hTT
 have hcd:=small_le hsm
 obtain ⟨hcaps,hmaxs⟩:=hpg.caps
 have HWF:=zh (fun W (hW:Grew w W)=>form_any P B W cp gp sp_ op hp tp cc gc sc oc hc tc (hpg.kept hW) (hE0.grew hW))
 rw [hok] at HWF
 obtain ⟨cs,gs,ss,os,hs,ts⟩:=P
 dsimp only at hcaps HWF hcd hTT
 have hoks:=hok
 rw [okP,Bool.and_eq_true,Bool.and_eq_true,Bool.and_eq_true,Bool.and_eq_true] at hoks
 obtain ⟨o1,o2,o3,o4,o5⟩:=hoks
 rw [okCs,List.all_eq_true] at o1
 rw [okGs,List.all_eq_true] at o2
 rw [okNs,List.all_eq_true] at o3
 rw [okHs,List.all_eq_true] at o4
 rw [okTs,List.all_eq_true] at o5
 obtain ⟨z1,z2,z3,z4,z5⟩:=hpg.sz
 obtain ⟨f1,f2,f3,f4,f5,HTS0,_⟩:=hpg
 dsimp only at f1 f2 f3 f4 f5 HTS0 o1 o2 o3 o4 o5 z1 z2 z3 z4 z5
 have HFB0:=zh f1.1
 have HFB1:=zh f2.1
 have HFB2:=zh f3.1
 have HFB3:=zh f4.1
 have HFB4:=zh f5.1
 have HF0:=zh f1.2
 have HF1:=zh f2.2
 have HF2:=zh f3.2
 have HF3:=zh f4.2
 have HF4:=zh f5.2
 have HTS:=zh HTS0
 have HO0:=zh o1
 have HO1:=zh o2
 have HO2:=zh (fun x (hx:x ∈ ss)=>o3 x (List.mem_append_left _ hx))
 have HO3:=zh (fun x (hx:x ∈ os)=>o3 x (List.mem_append_right _ hx))
 have HO4:=zh o4
 have HO5:=zh o5
 have HS0:=zh z1
 have HS1:=zh z2
 have HS2:=zh z3
 have HS3:=zh z4
 have HS4:=zh z5
 have HDT:Hid (dT ts≤30):=zh hcd.2.2.2.2.2.2.2
 have HLT_:=zh hlen
 have HT0:Hid ((([]:List UInt8)++cs.flatMap hCn)++(((((gs.flatMap hGn)++ss.flatMap hSn)++os.flatMap hOn)++hs.flatMap hHn)++ts.flatMap hTn)=TT):=zh (by rw [← hTT];try simp)
 have HT1:Hid (((cs.flatMap hCn)++gs.flatMap hGn)++((((ss.flatMap hSn)++os.flatMap hOn)++hs.flatMap hHn)++ts.flatMap hTn)=TT):=zh (by rw [← hTT];try simp)
 have HT2:Hid (((cs.flatMap hCn++gs.flatMap hGn)++ss.flatMap hSn)++(((os.flatMap hOn)++hs.flatMap hHn)++ts.flatMap hTn)=TT):=zh (by rw [← hTT];try simp)
 have HT3:Hid ((((cs.flatMap hCn++gs.flatMap hGn)++ss.flatMap hSn)++os.flatMap hOn)++((hs.flatMap hHn)++ts.flatMap hTn)=TT):=zh (by rw [← hTT];try simp)
 have HT4:Hid (((((cs.flatMap hCn++gs.flatMap hGn)++ss.flatMap hSn)++os.flatMap hOn)++hs.flatMap hHn)++(ts.flatMap hTn)=TT):=zh (by rw [← hTT];try simp)
 have HT5:Hid ((((((cs.flatMap hCn++gs.flatMap hGn)++ss.flatMap hSn)++os.flatMap hOn)++hs.flatMap hHn)++ts.flatMap hTn)++([]:List UInt8)=TT):=zh (by rw [← hTT];try simp)
 have HT6:Hid ((((((cs.flatMap hCn++gs.flatMap hGn)++ss.flatMap hSn)++os.flatMap hOn)++hs.flatMap hHn)++ts.flatMap hTn)=TT):=zh hTT
 obtain ⟨N,hN⟩:∃N,w.heap.size=N:=⟨_,rfl⟩
 have HE:Hid (EnvB N w):=zh (hN ▸ EnvB.of hE0)
 have HBN:Hid (∀i,B i→i < N):=zh (hN ▸ hB)
 have HNS:=zh hN
 have HNw:Hid (N≤w.heap.size):=zh (Nat.le_of_eq hN.symm)
 have HG1:=zh ((Grew.refl w).alloc (Obj.cells #[.slice cp cs.length cc,.slice gp gs.length gc,.slice sp_ ss.length sc,.slice op os.length oc,.slice hp hs.length hc,.slice tp ts.length tc] 28))
 clear hB hE0 hok hsm hlen hTT hcd f1 f2 f3 f4 f5 HTS0 o1 o2 o3 o4 o5 z1 z2 z3 z4 z5 hN
 show Calls Tryz.prog 13 #[.agg #[.slice cp cs.length cc,.slice gp gs.length gc,.slice sp_ ss.length sc,.slice op os.length oc,.slice hp hs.length hc,.slice tp ts.length tc]] w fun e w'=>e=.returned (.string ⟨TT.toArray⟩)∧Grew w w'
 go_enter Tryz.func13,Tryz.ntmps13
 go_upto_region 3 with (go_at_call 18;(with_reducible refine(HWF.out _ HG1.out).mono ?_);rintro e w1 ⟨rfl,g1⟩;have HG:=zh (HG1.out.trans g1);have HX1:=zh ((Blk.new w [.slice cp cs.length cc,.slice gp gs.length gc,.slice sp_ ss.length sc,.slice op os.length oc,.slice hp hs.length hc,.slice tp ts.length tc] 28).grew g1);clear g1)
 go_upto_region 4 with fail
 have hbd:BldT 72 [.int .i64 ((0:Nat):Int)] N w1.heap.size [] (w1.alloc (Obj.cells #[.pointer none,.slice none 0 0,.int .i64 0] 72)):=BldT.made N w1 (Nat.le_trans HNw.out HG.out.sz) _ rfl
 have hgW:Grew w1 (w1.alloc (Obj.cells #[.pointer none,.slice none 0 0,.int .i64 0] 72)):=(Grew.refl w1).alloc _
 have hnl:(w1.alloc (Obj.cells #[.pointer none,.slice none 0 0,.int .i64 0] 72)).cell? ⟨w1.heap.size,1,none⟩=some (.slice none 0 0):=(Blk.new w1 [.pointer none,.slice none 0 0,.int .i64 0] 72).cell 1
 have hne_:w.heap.size≠w1.heap.size:=by have:=HX1.out.lt;omega
 generalize (w1.alloc (Obj.cells #[.pointer none,.slice none 0 0,.int .i64 0] 72))=V0 at hbd hgW hnl ⊢
 have hX0:=HX1.out.grew hgW
 generalize w1.heap.size=b at hbd hnl hne_ ⊢
 have HXs0:=zh hX0
 have hgT:=HG.out.trans hgW
 obtain ⟨T,hT⟩:∃T,w.heap.size=T:=⟨_,rfl⟩
 rw [hT] at hX0 hne_ ⊢
 have HXs:=zh hX0
 have HNE:=zh hne_
 have HBs:=zh hbd
 have HWs:Hid (Wrote N b w V0):=zh (Wrote.of_grew hgT HNw.out)
 have HNs:Hid (N≤V0.heap.size):=zh (Nat.le_trans HNw.out hgT.sz)
 have HNLs:Hid (([]:List UInt8)=[]→V0.cell? ⟨b,1,none⟩=some (.slice none 0 0)):=zh (fun _=>hnl)
 have r0:V0.cell? ⟨T,0,none⟩=some (.slice cp cs.length cc):=hX0.cell 0
 clear hbd hgW hnl hne_ hX0 HXs0 hgT hT HG HX1 HG1
 go_wp2
 go_loopg [5,22] cs.length (fun gg sv_ iv wr=>∃(j:Nat),iv=.int .i64 (j:Int)∧j≤cs.length∧gg=cs.length - j∧Hid (BldT 72 [.int .i64 ((0:Nat):Int)] N b (([]:List UInt8)++(cs.take j).flatMap hCn) wr)∧Hid (Wrote N b w wr)∧Hid (N≤wr.heap.size)∧Hid (Blk T [.slice cp cs.length cc,.slice gp gs.length gc,.slice sp_ ss.length sc,.slice op os.length oc,.slice hp hs.length hc,.slice tp ts.length tc] 28 wr)∧Hid (([]:List UInt8)++(cs.take j).flatMap hCn=[]→wr.cell? ⟨b,1,none⟩=some (.slice none 0 0)))
 case atStart=>exact⟨0,rfl,Nat.zero_le _,rfl,zh (by rw [List.take_zero];simpa using HBs.out),HWs,HNs,HXs,zh (fun _=>HNLs.out (by simp))⟩
 case round =>
  obtain ⟨j,rfl,hj,rfl,HBj,HWj,HNj,HXj,HNLj⟩:=hrel
  by_cases hlt:j < cs.length
  ·skip
   have hfb:=HFB0.out
   obtain ⟨bz,oz,hpz,hcz⟩:=HF0.out.getF j hlt
   rw [hpz] at hfb
   have hblt:bz < N:=HBN.out _ (hfb (Nat.lt_of_le_of_lt (Nat.zero_le _) hlt) _ rfl)
   subst hpz
   have hsz0:=HS0.out _ (List.getElem_mem hlt)
   have hok0:=HO0.out _ (List.getElem_mem hlt)
   have hmz:=List.getElem_mem hlt
   have htz:=List.take_succ_eq_append_getElem hlt
   have HLz:=zh (Nat.succ_le_of_lt hlt)
   generalize cs[j]=xz at *
   obtain ⟨sz,zz,qz⟩:=xz
   have HTz:=zh htz
   replace hcz:∀i_ u_,([.string sz,.int .i16 zz,.int .i64 qz]:List Value)[i_]?=some u_→wr.cell? ⟨bz,oz+j * 3+i_,none⟩=some u_:=fun i_ u_ h_=>below_cell HWj.out.bel hblt (hcz i_ u_ h_)
   have cz0:wr.cell? ⟨bz,oz+j * 3,none⟩=some (.string sz):=by simpa using hcz 0 _ rfl
   have cz1:wr.cell? ⟨bz,oz+j * 3+1,none⟩=some (.int .i16 zz):=hcz 1 _ rfl
   have cz2:wr.cell? ⟨bz,oz+j * 3+2,none⟩=some (.int .i64 qz):=hcz 2 _ rfl
   clear hcz htz
   have HRM:Hid ((([]:List UInt8)++(cs.take j).flatMap hCn).length+(hCn ⟨sz,zz,qz⟩).length≤140737488355328):=zh (roomT HTz.out HT0.out HLT_.out)
   have hnb:=(okC_of hok0).2
   have hv0:zz≤32767:=hsz0.2
   have hlo:-32768≤zz:=by have h_:-32767≤zz:=hnb;omega
   have hhi:zz≤32767:=by have h_:-32767≤zz:=hnb;omega
   have HIT:Hid (∀W,Grew wr W→Calls Tryz.prog 40 #[.int .i64 zz] W fun e w'=>e=.returned (.string ⟨(numZ zz).toArray⟩)∧Grew W w'):=zh (fun W hW=>itoa_any zz (by omega) W ((HE.out.wrote HWj.out).grew hW).env)
   obtain ⟨Z,hZ⟩:∃Z,numZ zz=Z:=⟨_,rfl⟩
   rw [hZ] at HIT
   have HZZ:=zh hZ
   clear hZ hnb hsz0 hok0 hmz hfb hblt hv0
   go_upto_region 7 with fail
   have hb1_:Blk wr.heap.size [.string sz,.int .i16 zz,.int .i64 qz] 60 (wr.alloc (Obj.cells #[.string sz,.int .i16 zz,.int .i64 qz] 60)):=Blk.new wr _ _
   have hgV:Grew wr (wr.alloc (Obj.cells #[.string sz,.int .i16 zz,.int .i64 qz] 60)):=(Grew.refl wr).alloc _
   have hne2_:wr.heap.size≠b:=by have:=HBj.out.lt;omega
   generalize (wr.alloc (Obj.cells #[.string sz,.int .i16 zz,.int .i64 qz] 60))=V at hb1_ hgV ⊢
   generalize wr.heap.size=T2 at hb1_ hne2_ ⊢
   have HGV:=zh hgV
   have HBV:=zh (HBj.out.grew hgV)
   have HWV:=zh (HWj.out.grew hgV HNw.out)
   have HNV:=zh (Nat.le_trans HNj.out hgV.sz)
   have HXV:=zh (HXj.out.grew hgV)
   have HB2:=zh hb1_
   have HNE2:=zh hne2_
   have d0:Atv ⟨T2,0,none⟩ (.string sz) V.drew:=(hb1_.grew (Grew.refl _).drw).atv 0 rfl
   have d1:Atv ⟨T2,1,none⟩ (.int .i16 zz) V.drew:=(hb1_.grew (Grew.refl _).drw).atv 1 rfl
   have d2:Atv ⟨T2,2,none⟩ (.int .i64 qz) V.drew:=(hb1_.grew (Grew.refl _).drw).atv 2 rfl
   clear hb1_ hgV hne2_ cz0 cz1 cz2
   refine wp_grew_tail 7 [some 26,some 27,some 28,some 29,some 30,some 31,some 32] (Zfe (Zfd (Zfb (Ztc (Ztb (Zta (Zfg (Zfg (Zfd (Zfa [])))))))))) [fun v _=>v=.pointer (some ⟨T2,0,none⟩),fun v _=>v=.string sz,fun v _=>v=.pointer (some ⟨T2,1,none⟩),fun v _=>v=.int .i16 (zz),fun v _=>v=.int .i64 (zz),fun v _=>v=.string ⟨(Z).toArray⟩,fun v w=>∃g_,v=.slice (some ⟨g_,0,none⟩) 5 5∧V.drew.heap.size≤g_∧Blk g_ [.string ⟨#[99,111,110,115,116,32]⟩,.string sz,.string ⟨#[32,61,32]⟩,.string ⟨Z.toArray⟩,.string ⟨#[59]⟩] 9 w] (by kernel_rfl) (by kernel_rfl) (by kernel_rfl) rfl ?_ ⟨?_,?_,?_,?_,?_,?_,?_,trivial⟩ ?_
   ·exact⟨Zi,Zi,Zi,Zi,Zi,Zi,fun _ _ _ hg ⟨S,h1,h2,h3⟩=>⟨S,h1,h2,h3.grew hg⟩,trivial⟩
   ·intro u w hR hd;exact rn_fld_60_0 (ev rfl) Zr
   ·intro u w hR hd;exact rn_ld_9 (ev (hd.1 rfl)) (d0.kept hR) Zr
   ·intro u w hR hd;exact rn_fld_60_1 (ev rfl) Zr
   ·intro u w hR hd;exact rn_ld_32 (ev (hd.1 rfl)) (d1.kept hR) Zr
   ·intro u w hR hd;exact rn_cv_32_3 (ev (hd.1 rfl)) (by omega) Zr
   ·intro u w hR hd;exact runs_c1 en_it (ev (hd.1 rfl)) (callp (fun _ e=>e) (HIT.out _ (HGV.out.trans ((Grew.refl _).drw.trans hR))))
   ·intro u w hR hd;exact rn_bs_99_111_110_115_116_32_27_32_61_32_31_59 (ev (hd.1 rfl)) (ev (hd.2.1 rfl)) ⟨(Grew.refl _).alloc _,⟨_,rfl,hR.sz,heap_alloc_new _ _⟩⟩
   ·intro u w5 hR h
    have g5:Grew V w5:=(Grew.refl V).drw.trans hR
    have HB5:=zh (HBV.out.grew g5)
    have HN5:=zh (Nat.le_trans HNV.out g5.sz)
    have HW5:=zh (HWV.out.grew g5 HNw.out)
    have HX5:=zh (HXV.out.grew g5)
    have HB25:=zh (HB2.out.grew g5)
    obtain ⟨g_,hs_,hge,hbk⟩:∃g_,u 32=.slice (some ⟨g_,0,none⟩) 5 5∧V.drew.heap.size≤g_∧Blk g_ [.string ⟨#[99,111,110,115,116,32]⟩,.string sz,.string ⟨#[32,61,32]⟩,.string ⟨Z.toArray⟩,.string ⟨#[59]⟩] 9 w5:=h 6 (by decide)
    have hgb:g_≠b:=by have h1:=HBV.out.lt;have h2:V.drew.heap.size=V.heap.size:=rfl;omega
    refine wpAny_one (i:=7) (some 33) (by kernel_rfl) rfl rfl rfl (runs_c2 en_ln (ev rfl) (ev hs_) ((lineN_any N b 0 (([]:List UInt8)++(cs.take j).flatMap hCn) [(⟨#[99,111,110,115,116,32]⟩:ByteArray),sz,(⟨#[32,61,32]⟩:ByteArray),⟨Z.toArray⟩,(⟨#[59]⟩:ByteArray)] _ 5 g_ w5 HB5.out HN5.out (by decide) hbk rfl rfl hgb (by have h_:=HRM.out;rw [← HZZ.out];simp [flat,sp,hCn] at h_ ⊢;omega) (by decide)).mono ?_))
    rintro e_ w6 ⟨rfl,hb_,hw_⟩
    refine⟨_,rfl,?_⟩
    refine wpAny_done (by kernel_rfl) ?_ _
    simp only [zz1,zz2,zz3,Act.put,mixA,mixL,zz9,zz0,zz4,zz5,zz6]
    try simp only [Nat.zero_add,Nat.reduceAdd]
    generalize u 26=z26
    generalize u 27=z27
    generalize u 28=z28
    generalize u 29=z29
    generalize u 30=z30
    generalize u 31=z31
    generalize u 32=z32
    have HB6:=zh hb_
    have HW6:=zh (HW5.out.trans hw_)
    have HN6:=zh (Nat.le_trans HN5.out hw_.bel.size)
    have HX6:=zh (HX5.out.wrote hw_ HNE.out (by decide))
    clear hs_ hbk hb_ hw_ h hR g5
    obtain rfl:=HZZ.out
    go_wp2
    go_roundg (cs.length - (j+1))
    case measure=>have:=HLz.out;omega
    case rel=>exact⟨j+1,by go_num,HLz.out,rfl,zh (by rw [flatMap_snoc HTz.out];have h_:=HB6.out;simpa [flat,sp,hCn] using h_),HW6,HN6,HX6,zh (fun hh=>by rw [flatMap_snoc HTz.out] at hh;simp [hCn] at hh)⟩
  ·obtain rfl:j=cs.length:=by omega
   rw [List.take_length] at HBj HNLj
   have HBs:Hid (BldT 72 [.int .i64 ((0:Nat):Int)] N b (cs.flatMap hCn) wr):=zh (by simpa using HBj.out)
   have HNLs:Hid ((cs.flatMap hCn)=[]→wr.cell? ⟨b,1,none⟩=some (.slice none 0 0)):=zh (fun hh=>HNLj.out (by simpa using hh))
   have HWs:=HWj
   have HNs:=HNj
   have HXs:=HXj
   clear HBj HNLj
   have r1:wr.cell? ⟨T,1,none⟩=some (.slice gp gs.length gc):=HXs.out.cell 1
   go_wp2
   go_loopg [7,38] gs.length (fun gg sv_ iv wr=>∃(j:Nat),iv=.int .i64 (j:Int)∧j≤gs.length∧gg=gs.length - j∧Hid (BldT 72 [.int .i64 ((0:Nat):Int)] N b ((cs.flatMap hCn)++(gs.take j).flatMap hGn) wr)∧Hid (Wrote N b w wr)∧Hid (N≤wr.heap.size)∧Hid (Blk T [.slice cp cs.length cc,.slice gp gs.length gc,.slice sp_ ss.length sc,.slice op os.length oc,.slice hp hs.length hc,.slice tp ts.length tc] 28 wr)∧Hid ((cs.flatMap hCn)++(gs.take j).flatMap hGn=[]→wr.cell? ⟨b,1,none⟩=some (.slice none 0 0)))
   case atStart=>exact⟨0,rfl,Nat.zero_le _,rfl,zh (by rw [List.take_zero];simpa using HBs.out),HWs,HNs,HXs,zh (fun hh=>HNLs.out (by rw [List.take_zero] at hh;simpa using hh))⟩
   case round =>
    obtain ⟨j,rfl,hj,rfl,HBj,HWj,HNj,HXj,HNLj⟩:=hrel
    by_cases hlt:j < gs.length
    ·skip
     have hfb:=HFB1.out
     obtain ⟨bz,oz,hpz,hcz⟩:=HF1.out.getF j hlt
     rw [hpz] at hfb
     have hblt:bz < N:=HBN.out _ (hfb (Nat.lt_of_le_of_lt (Nat.zero_le _) hlt) _ rfl)
     subst hpz
     have hsz0:=HS1.out _ (List.getElem_mem hlt)
     have hok0:=HO1.out _ (List.getElem_mem hlt)
     have hmz:=List.getElem_mem hlt
     have htz:=List.take_succ_eq_append_getElem hlt
     have HLz:=zh (Nat.succ_le_of_lt hlt)
     generalize gs[j]=xz at *
     obtain ⟨sz,lz,iz,qz⟩:=xz
     have HTz:=zh htz
     replace hcz:∀i_ u_,([.string sz,.int .i64 lz,.int .i16 iz,.int .i64 qz]:List Value)[i_]?=some u_→wr.cell? ⟨bz,oz+j * 4+i_,none⟩=some u_:=fun i_ u_ h_=>below_cell HWj.out.bel hblt (hcz i_ u_ h_)
     have cz0:wr.cell? ⟨bz,oz+j * 4,none⟩=some (.string sz):=by simpa using hcz 0 _ rfl
     have cz1:wr.cell? ⟨bz,oz+j * 4+1,none⟩=some (.int .i64 lz):=hcz 1 _ rfl
     have cz2:wr.cell? ⟨bz,oz+j * 4+2,none⟩=some (.int .i16 iz):=hcz 2 _ rfl
     have cz3:wr.cell? ⟨bz,oz+j * 4+3,none⟩=some (.int .i64 qz):=hcz 3 _ rfl
     clear hcz htz
     have HRM:Hid (((cs.flatMap hCn)++(gs.take j).flatMap hGn).length+(hGn ⟨sz,lz,iz,qz⟩).length≤140737488355328):=zh (roomT HTz.out HT1.out HLT_.out)
     have hgl:=okG_of hok0
     have HGL:Hid ((0≤lz∧lz≤32767)∧-32767≤iz∧iz≤32767):=zh ⟨hgl.2.1,hgl.2.2.1,hsz0.2⟩
     clear hgl hsz0 hok0 hmz hfb hblt
     go_upto_region 12 with fail
     have hb1_:Blk wr.heap.size [.string sz,.int .i64 lz,.int .i16 iz,.int .i64 qz] 62 (wr.alloc (Obj.cells #[.string sz,.int .i64 lz,.int .i16 iz,.int .i64 qz] 62)):=Blk.new wr _ _
     have hgV:Grew wr (wr.alloc (Obj.cells #[.string sz,.int .i64 lz,.int .i16 iz,.int .i64 qz] 62)):=(Grew.refl wr).alloc _
     have hne2_:wr.heap.size≠b:=by have:=HBj.out.lt;omega
     generalize (wr.alloc (Obj.cells #[.string sz,.int .i64 lz,.int .i16 iz,.int .i64 qz] 62))=V at hb1_ hgV ⊢
     generalize wr.heap.size=T2 at hb1_ hne2_ ⊢
     have HGV:=zh hgV
     have HBV:=zh (HBj.out.grew hgV)
     have HWV:=zh (HWj.out.grew hgV HNw.out)
     have HNV:=zh (Nat.le_trans HNj.out hgV.sz)
     have HXV:=zh (HXj.out.grew hgV)
     have HB2:=zh hb1_
     have HNE2:=zh hne2_
     have d0:V.cell? ⟨T2,0,none⟩=some (.string sz):=hb1_.cell 0
     have d1:V.cell? ⟨T2,1,none⟩=some (.int .i64 lz):=hb1_.cell 1
     have d2:V.cell? ⟨T2,2,none⟩=some (.int .i16 iz):=hb1_.cell 2
     have d3:V.cell? ⟨T2,3,none⟩=some (.int .i64 qz):=hb1_.cell 3
     clear hb1_ hgV hne2_ cz0 cz1 cz2 cz3
     go_wp2_with (go_at_call 41;(with_reducible refine(globP_any N b 0 ((cs.flatMap hCn)++(gs.take j).flatMap hGn) sz lz iz qz V HBV.out HNV.out (by decide) HGL.out.1 HGL.out.2 (HE.out.wrote HWV.out) (by have h_:=HRM.out;simp [sp,hGn] at h_ ⊢;omega)).mono ?_);rintro e w6 ⟨rfl,hb_,hw_⟩;have HB6:=zh hb_;have HW6:=zh (HWV.out.trans hw_);have HN6:=zh (Nat.le_trans HNV.out hw_.bel.size);have HX6:=zh (HXV.out.wrote hw_ HNE.out (by decide));clear hb_ hw_)
     go_roundg (gs.length - (j+1))
     case measure=>have:=HLz.out;omega
     case rel=>exact⟨j+1,by go_num,HLz.out,rfl,zh (by rw [flatMap_snoc HTz.out];have h_:=HB6.out;simpa [flat,sp,hGn] using h_),HW6,HN6,HX6,zh (fun hh=>by rw [flatMap_snoc HTz.out] at hh;simp [hGn] at hh)⟩
    ·obtain rfl:j=gs.length:=by omega
     rw [List.take_length] at HBj HNLj
     have HBs:Hid (BldT 72 [.int .i64 ((0:Nat):Int)] N b (cs.flatMap hCn++gs.flatMap hGn) wr):=zh (by simpa using HBj.out)
     have HNLs:Hid ((cs.flatMap hCn++gs.flatMap hGn)=[]→wr.cell? ⟨b,1,none⟩=some (.slice none 0 0)):=zh (fun hh=>HNLj.out (by simpa using hh))
     have HWs:=HWj
     have HNs:=HNj
     have HXs:=HXj
     clear HBj HNLj
     have r2:wr.cell? ⟨T,2,none⟩=some (.slice sp_ ss.length sc):=HXs.out.cell 2
     go_wp2
     go_loopg [9,48] ss.length (fun gg sv_ iv wr=>∃(j:Nat),iv=.int .i64 (j:Int)∧j≤ss.length∧gg=ss.length - j∧Hid (BldT 72 [.int .i64 ((0:Nat):Int)] N b ((cs.flatMap hCn++gs.flatMap hGn)++(ss.take j).flatMap hSn) wr)∧Hid (Wrote N b w wr)∧Hid (N≤wr.heap.size)∧Hid (Blk T [.slice cp cs.length cc,.slice gp gs.length gc,.slice sp_ ss.length sc,.slice op os.length oc,.slice hp hs.length hc,.slice tp ts.length tc] 28 wr)∧Hid ((cs.flatMap hCn++gs.flatMap hGn)++(ss.take j).flatMap hSn=[]→wr.cell? ⟨b,1,none⟩=some (.slice none 0 0)))
     case atStart=>exact⟨0,rfl,Nat.zero_le _,rfl,zh (by rw [List.take_zero];simpa using HBs.out),HWs,HNs,HXs,zh (fun hh=>HNLs.out (by rw [List.take_zero] at hh;simpa using hh))⟩
     case round =>
      obtain ⟨j,rfl,hj,rfl,HBj,HWj,HNj,HXj,HNLj⟩:=hrel
      by_cases hlt:j < ss.length
      ·skip
       have hfb:=HFB2.out
       obtain ⟨bz,oz,hpz,hcz⟩:=HF2.out.getF j hlt
       rw [hpz] at hfb
       have hblt:bz < N:=HBN.out _ (hfb (Nat.lt_of_le_of_lt (Nat.zero_le _) hlt) _ rfl)
       subst hpz
       have hsz0:=HS2.out _ (List.getElem_mem hlt)
       have hok0:=HO2.out _ (List.getElem_mem hlt)
       have hmz:=List.getElem_mem hlt
       have htz:=List.take_succ_eq_append_getElem hlt
       have HLz:=zh (Nat.succ_le_of_lt hlt)
       generalize ss[j]=sz at *
       have HTz:=zh htz
       replace hcz:∀i_ u_,([.string sz]:List Value)[i_]?=some u_→wr.cell? ⟨bz,oz+j * 1+i_,none⟩=some u_:=fun i_ u_ h_=>below_cell HWj.out.bel hblt (hcz i_ u_ h_)
       have cz0:wr.cell? ⟨bz,oz+j,none⟩=some (.string sz):=by simpa using hcz 0 _ rfl
       clear hcz htz
       have hszz:sz.size≤1048576:=hsz0
       have HRM:Hid (((cs.flatMap hCn++gs.flatMap hGn)++(ss.take j).flatMap hSn).length+(hSn sz).length≤140737488355328):=zh (roomT HTz.out HT2.out HLT_.out)
       clear hsz0 hok0 hmz hfb hblt
       go_wp2_with (go_at_call 39;(with_reducible refine(lineN_any N b 0 ((cs.flatMap hCn++gs.flatMap hGn)++(ss.take j).flatMap hSn) [⟨#[115,101,110,115,111,114,32]⟩,sz,⟨#[59]⟩] [.string ⟨#[115,101,110,115,111,114,32]⟩,.string sz,.string ⟨#[59]⟩] 3 wr.heap.size (wr.alloc (Obj.cells #[.string ⟨#[115,101,110,115,111,114,32]⟩,.string sz,.string ⟨#[59]⟩] 9)) (HBj.out.grew ((Grew.refl _).alloc _)) (Nat.le_trans HNj.out ((Grew.refl wr).alloc _).sz) (by decide) (Blk.new _ _ _) rfl rfl (by have h1:=HBj.out.lt;omega) (by have h_:=HRM.out;simp [flat,sp,hSn] at h_ ⊢;omega) (by decide)).mono ?_);rintro e w6 ⟨rfl,hb_,hw_⟩;have HB6:=zh hb_;have HW6:=zh ((HWj.out.grew ((Grew.refl wr).alloc _) HNw.out).trans hw_);have HN6:=zh (Nat.le_trans (Nat.le_trans HNj.out ((Grew.refl wr).alloc _).sz) hw_.bel.size);have HX6:=zh ((HXj.out.grew ((Grew.refl wr).alloc _)).wrote hw_ HNE.out (by decide));clear hb_ hw_)
       go_roundg (ss.length - (j+1))
       case measure=>have:=HLz.out;omega
       case rel=>exact⟨j+1,by go_num,HLz.out,rfl,zh (by rw [flatMap_snoc HTz.out];have h_:=HB6.out;simpa [flat,sp,hSn] using h_),HW6,HN6,HX6,zh (fun hh=>by rw [flatMap_snoc HTz.out] at hh;simp [hSn] at hh)⟩
      ·obtain rfl:j=ss.length:=by omega
       rw [List.take_length] at HBj HNLj
       have HBs:Hid (BldT 72 [.int .i64 ((0:Nat):Int)] N b ((cs.flatMap hCn++gs.flatMap hGn)++ss.flatMap hSn) wr):=zh (by simpa using HBj.out)
       have HNLs:Hid (((cs.flatMap hCn++gs.flatMap hGn)++ss.flatMap hSn)=[]→wr.cell? ⟨b,1,none⟩=some (.slice none 0 0)):=zh (fun hh=>HNLj.out (by simpa using hh))
       have HWs:=HWj
       have HNs:=HNj
       have HXs:=HXj
       clear HBj HNLj
       have r3:wr.cell? ⟨T,3,none⟩=some (.slice op os.length oc):=HXs.out.cell 3
       go_wp2
       go_loopg [11,59] os.length (fun gg sv_ iv wr=>∃(j:Nat),iv=.int .i64 (j:Int)∧j≤os.length∧gg=os.length - j∧Hid (BldT 72 [.int .i64 ((0:Nat):Int)] N b (((cs.flatMap hCn++gs.flatMap hGn)++ss.flatMap hSn)++(os.take j).flatMap hOn) wr)∧Hid (Wrote N b w wr)∧Hid (N≤wr.heap.size)∧Hid (Blk T [.slice cp cs.length cc,.slice gp gs.length gc,.slice sp_ ss.length sc,.slice op os.length oc,.slice hp hs.length hc,.slice tp ts.length tc] 28 wr)∧Hid (((cs.flatMap hCn++gs.flatMap hGn)++ss.flatMap hSn)++(os.take j).flatMap hOn=[]→wr.cell? ⟨b,1,none⟩=some (.slice none 0 0)))
       case atStart=>exact⟨0,rfl,Nat.zero_le _,rfl,zh (by rw [List.take_zero];simpa using HBs.out),HWs,HNs,HXs,zh (fun hh=>HNLs.out (by rw [List.take_zero] at hh;simpa using hh))⟩
       case round =>
        obtain ⟨j,rfl,hj,rfl,HBj,HWj,HNj,HXj,HNLj⟩:=hrel
        by_cases hlt:j < os.length
        ·skip
         have hfb:=HFB3.out
         obtain ⟨bz,oz,hpz,hcz⟩:=HF3.out.getF j hlt
         rw [hpz] at hfb
         have hblt:bz < N:=HBN.out _ (hfb (Nat.lt_of_le_of_lt (Nat.zero_le _) hlt) _ rfl)
         subst hpz
         have hsz0:=HS3.out _ (List.getElem_mem hlt)
         have hok0:=HO3.out _ (List.getElem_mem hlt)
         have hmz:=List.getElem_mem hlt
         have htz:=List.take_succ_eq_append_getElem hlt
         have HLz:=zh (Nat.succ_le_of_lt hlt)
         generalize os[j]=sz at *
         have HTz:=zh htz
         replace hcz:∀i_ u_,([.string sz]:List Value)[i_]?=some u_→wr.cell? ⟨bz,oz+j * 1+i_,none⟩=some u_:=fun i_ u_ h_=>below_cell HWj.out.bel hblt (hcz i_ u_ h_)
         have cz0:wr.cell? ⟨bz,oz+j,none⟩=some (.string sz):=by simpa using hcz 0 _ rfl
         clear hcz htz
         have hszz:sz.size≤1048576:=hsz0
         have HRM:Hid ((((cs.flatMap hCn++gs.flatMap hGn)++ss.flatMap hSn)++(os.take j).flatMap hOn).length+(hOn sz).length≤140737488355328):=zh (roomT HTz.out HT3.out HLT_.out)
         clear hsz0 hok0 hmz hfb hblt
         go_wp2_with (go_at_call 39;(with_reducible refine(lineN_any N b 0 (((cs.flatMap hCn++gs.flatMap hGn)++ss.flatMap hSn)++(os.take j).flatMap hOn) [⟨#[111,117,116,112,117,116,32]⟩,sz,⟨#[59]⟩] [.string ⟨#[111,117,116,112,117,116,32]⟩,.string sz,.string ⟨#[59]⟩] 3 wr.heap.size (wr.alloc (Obj.cells #[.string ⟨#[111,117,116,112,117,116,32]⟩,.string sz,.string ⟨#[59]⟩] 9)) (HBj.out.grew ((Grew.refl _).alloc _)) (Nat.le_trans HNj.out ((Grew.refl wr).alloc _).sz) (by decide) (Blk.new _ _ _) rfl rfl (by have h1:=HBj.out.lt;omega) (by have h_:=HRM.out;simp [flat,sp,hOn] at h_ ⊢;omega) (by decide)).mono ?_);rintro e w6 ⟨rfl,hb_,hw_⟩;have HB6:=zh hb_;have HW6:=zh ((HWj.out.grew ((Grew.refl wr).alloc _) HNw.out).trans hw_);have HN6:=zh (Nat.le_trans (Nat.le_trans HNj.out ((Grew.refl wr).alloc _).sz) hw_.bel.size);have HX6:=zh ((HXj.out.grew ((Grew.refl wr).alloc _)).wrote hw_ HNE.out (by decide));clear hb_ hw_)
         go_roundg (os.length - (j+1))
         case measure=>have:=HLz.out;omega
         case rel=>exact⟨j+1,by go_num,HLz.out,rfl,zh (by rw [flatMap_snoc HTz.out];have h_:=HB6.out;simpa [flat,sp,hOn] using h_),HW6,HN6,HX6,zh (fun hh=>by rw [flatMap_snoc HTz.out] at hh;simp [hOn] at hh)⟩
        ·obtain rfl:j=os.length:=by omega
         rw [List.take_length] at HBj HNLj
         have HBs:Hid (BldT 72 [.int .i64 ((0:Nat):Int)] N b (((cs.flatMap hCn++gs.flatMap hGn)++ss.flatMap hSn)++os.flatMap hOn) wr):=zh (by simpa using HBj.out)
         have HNLs:Hid ((((cs.flatMap hCn++gs.flatMap hGn)++ss.flatMap hSn)++os.flatMap hOn)=[]→wr.cell? ⟨b,1,none⟩=some (.slice none 0 0)):=zh (fun hh=>HNLj.out (by simpa using hh))
         have HWs:=HWj
         have HNs:=HNj
         have HXs:=HXj
         clear HBj HNLj
         have r4:wr.cell? ⟨T,4,none⟩=some (.slice hp hs.length hc):=HXs.out.cell 4
         go_wp2
         go_loopg [13,70] hs.length (fun gg sv_ iv wr=>∃(j:Nat),iv=.int .i64 (j:Int)∧j≤hs.length∧gg=hs.length - j∧Hid (BldT 72 [.int .i64 ((0:Nat):Int)] N b ((((cs.flatMap hCn++gs.flatMap hGn)++ss.flatMap hSn)++os.flatMap hOn)++(hs.take j).flatMap hHn) wr)∧Hid (Wrote N b w wr)∧Hid (N≤wr.heap.size)∧Hid (Blk T [.slice cp cs.length cc,.slice gp gs.length gc,.slice sp_ ss.length sc,.slice op os.length oc,.slice hp hs.length hc,.slice tp ts.length tc] 28 wr)∧Hid ((((cs.flatMap hCn++gs.flatMap hGn)++ss.flatMap hSn)++os.flatMap hOn)++(hs.take j).flatMap hHn=[]→wr.cell? ⟨b,1,none⟩=some (.slice none 0 0)))
         case atStart=>exact⟨0,rfl,Nat.zero_le _,rfl,zh (by rw [List.take_zero];simpa using HBs.out),HWs,HNs,HXs,zh (fun hh=>HNLs.out (by rw [List.take_zero] at hh;simpa using hh))⟩
         case round =>
          obtain ⟨j,rfl,hj,rfl,HBj,HWj,HNj,HXj,HNLj⟩:=hrel
          by_cases hlt:j < hs.length
          ·skip
           have hfb:=HFB4.out
           obtain ⟨bz,oz,hpz,hcz⟩:=HF4.out.getF j hlt
           rw [hpz] at hfb
           have hblt:bz < N:=HBN.out _ (hfb (Nat.lt_of_le_of_lt (Nat.zero_le _) hlt) _ rfl)
           subst hpz
           have hsz0:=HS4.out _ (List.getElem_mem hlt)
           have hok0:=HO4.out _ (List.getElem_mem hlt)
           have hmz:=List.getElem_mem hlt
           have htz:=List.take_succ_eq_append_getElem hlt
           have HLz:=zh (Nat.succ_le_of_lt hlt)
           generalize hs[j]=xz at *
           obtain ⟨sz,zz,qz⟩:=xz
           have HTz:=zh htz
           replace hcz:∀i_ u_,([.string sz,.int .i64 zz,.int .i64 qz]:List Value)[i_]?=some u_→wr.cell? ⟨bz,oz+j * 3+i_,none⟩=some u_:=fun i_ u_ h_=>below_cell HWj.out.bel hblt (hcz i_ u_ h_)
           have cz0:wr.cell? ⟨bz,oz+j * 3,none⟩=some (.string sz):=by simpa using hcz 0 _ rfl
           have cz1:wr.cell? ⟨bz,oz+j * 3+1,none⟩=some (.int .i64 zz):=hcz 1 _ rfl
           have cz2:wr.cell? ⟨bz,oz+j * 3+2,none⟩=some (.int .i64 qz):=hcz 2 _ rfl
           clear hcz htz
           have HRM:Hid (((((cs.flatMap hCn++gs.flatMap hGn)++ss.flatMap hSn)++os.flatMap hOn)++(hs.take j).flatMap hHn).length+(hHn ⟨sz,zz,qz⟩).length≤140737488355328):=zh (roomT HTz.out HT4.out HLT_.out)
           have hnb:=(okH_of hok0).2
           have hlo:-32768≤zz:=by have h_:0≤zz∧zz≤32767:=hnb;omega
           have hhi:zz≤32767:=by have h_:0≤zz∧zz≤32767:=hnb;omega
           have HIT:Hid (∀W,Grew wr W→Calls Tryz.prog 40 #[.int .i64 zz] W fun e w'=>e=.returned (.string ⟨(numZ zz).toArray⟩)∧Grew W w'):=zh (fun W hW=>itoa_any zz (by omega) W ((HE.out.wrote HWj.out).grew hW).env)
           obtain ⟨Z,hZ⟩:∃Z,numZ zz=Z:=⟨_,rfl⟩
           rw [hZ] at HIT
           have HZZ:=zh hZ
           clear hZ hnb hsz0 hok0 hmz hfb hblt
           go_upto_region 27 with fail
           have hb1_:Blk wr.heap.size [.string sz,.int .i64 zz,.int .i64 qz] 64 (wr.alloc (Obj.cells #[.string sz,.int .i64 zz,.int .i64 qz] 64)):=Blk.new wr _ _
           have hgV:Grew wr (wr.alloc (Obj.cells #[.string sz,.int .i64 zz,.int .i64 qz] 64)):=(Grew.refl wr).alloc _
           have hne2_:wr.heap.size≠b:=by have:=HBj.out.lt;omega
           generalize (wr.alloc (Obj.cells #[.string sz,.int .i64 zz,.int .i64 qz] 64))=V at hb1_ hgV ⊢
           generalize wr.heap.size=T2 at hb1_ hne2_ ⊢
           have HGV:=zh hgV
           have HBV:=zh (HBj.out.grew hgV)
           have HWV:=zh (HWj.out.grew hgV HNw.out)
           have HNV:=zh (Nat.le_trans HNj.out hgV.sz)
           have HXV:=zh (HXj.out.grew hgV)
           have HB2:=zh hb1_
           have HNE2:=zh hne2_
           have d0:Atv ⟨T2,0,none⟩ (.string sz) V.drew:=(hb1_.grew (Grew.refl _).drw).atv 0 rfl
           have d1:Atv ⟨T2,1,none⟩ (.int .i64 zz) V.drew:=(hb1_.grew (Grew.refl _).drw).atv 1 rfl
           have d2:Atv ⟨T2,2,none⟩ (.int .i64 qz) V.drew:=(hb1_.grew (Grew.refl _).drw).atv 2 rfl
           clear hb1_ hgV hne2_ cz0 cz1 cz2
           refine wp_grew_tail 6 [some 74,some 75,some 76,some 77,some 78,some 79] (Zfg (Zfg (Zfd (Zfb (Ztc (Ztb (Zfe (Zfd (Zfb []))))))))) [fun v _=>v=.pointer (some ⟨T2,0,none⟩),fun v _=>v=.string sz,fun v _=>v=.pointer (some ⟨T2,1,none⟩),fun v _=>v=.int .i64 (zz),fun v _=>v=.string ⟨(Z).toArray⟩,fun v w=>∃g_,v=.slice (some ⟨g_,0,none⟩) 5 5∧V.drew.heap.size≤g_∧Blk g_ [.string ⟨#[99,104,97,110,110,101,108,32]⟩,.string sz,.string ⟨#[91]⟩,.string ⟨Z.toArray⟩,.string ⟨#[93,59]⟩] 9 w] (by kernel_rfl) (by kernel_rfl) (by kernel_rfl) rfl ?_ ⟨?_,?_,?_,?_,?_,?_,trivial⟩ ?_
           ·exact⟨Zi,Zi,Zi,Zi,Zi,fun _ _ _ hg ⟨S,h1,h2,h3⟩=>⟨S,h1,h2,h3.grew hg⟩,trivial⟩
           ·intro u w hR hd;exact rn_fld_64_0 (ev rfl) Zr
           ·intro u w hR hd;exact rn_ld_9 (ev (hd.1 rfl)) (d0.kept hR) Zr
           ·intro u w hR hd;exact rn_fld_64_1 (ev rfl) Zr
           ·intro u w hR hd;exact rn_ld_3 (ev (hd.1 rfl)) (d1.kept hR) Zr
           ·intro u w hR hd;exact runs_c1 en_it (ev (hd.1 rfl)) (callp (fun _ e=>e) (HIT.out _ (HGV.out.trans ((Grew.refl _).drw.trans hR))))
           ·intro u w hR hd;exact rn_bs_99_104_97_110_110_101_108_32_75_91_78_93_59 (ev (hd.1 rfl)) (ev (hd.2.1 rfl)) ⟨(Grew.refl _).alloc _,⟨_,rfl,hR.sz,heap_alloc_new _ _⟩⟩
           ·intro u w5 hR h
            have g5:Grew V w5:=(Grew.refl V).drw.trans hR
            have HB5:=zh (HBV.out.grew g5)
            have HN5:=zh (Nat.le_trans HNV.out g5.sz)
            have HW5:=zh (HWV.out.grew g5 HNw.out)
            have HX5:=zh (HXV.out.grew g5)
            have HB25:=zh (HB2.out.grew g5)
            obtain ⟨g_,hs_,hge,hbk⟩:∃g_,u 79=.slice (some ⟨g_,0,none⟩) 5 5∧V.drew.heap.size≤g_∧Blk g_ [.string ⟨#[99,104,97,110,110,101,108,32]⟩,.string sz,.string ⟨#[91]⟩,.string ⟨Z.toArray⟩,.string ⟨#[93,59]⟩] 9 w5:=h 5 (by decide)
            have hgb:g_≠b:=by have h1:=HBV.out.lt;have h2:V.drew.heap.size=V.heap.size:=rfl;omega
            refine wpAny_one (i:=6) (some 80) (by kernel_rfl) rfl rfl rfl (runs_c2 en_ln (ev rfl) (ev hs_) ((lineN_any N b 0 ((((cs.flatMap hCn++gs.flatMap hGn)++ss.flatMap hSn)++os.flatMap hOn)++(hs.take j).flatMap hHn) [(⟨#[99,104,97,110,110,101,108,32]⟩:ByteArray),sz,(⟨#[91]⟩:ByteArray),⟨Z.toArray⟩,(⟨#[93,59]⟩:ByteArray)] _ 5 g_ w5 HB5.out HN5.out (by decide) hbk rfl rfl hgb (by have h_:=HRM.out;rw [← HZZ.out];simp [flat,sp,hHn] at h_ ⊢;omega) (by decide)).mono ?_))
            rintro e_ w6 ⟨rfl,hb_,hw_⟩
            refine⟨_,rfl,?_⟩
            refine wpAny_done (by kernel_rfl) ?_ _
            simp only [zz1,zz2,zz3,Act.put,mixA,mixL,zz9,zz0,zz4,zz5,zz6]
            try simp only [Nat.zero_add,Nat.reduceAdd]
            generalize u 74=z74
            generalize u 75=z75
            generalize u 76=z76
            generalize u 77=z77
            generalize u 78=z78
            generalize u 79=z79
            have HB6:=zh hb_
            have HW6:=zh (HW5.out.trans hw_)
            have HN6:=zh (Nat.le_trans HN5.out hw_.bel.size)
            have HX6:=zh (HX5.out.wrote hw_ HNE.out (by decide))
            clear hs_ hbk hb_ hw_ h hR g5
            obtain rfl:=HZZ.out
            go_wp2
            go_roundg (hs.length - (j+1))
            case measure=>have:=HLz.out;omega
            case rel=>exact⟨j+1,by go_num,HLz.out,rfl,zh (by rw [flatMap_snoc HTz.out];have h_:=HB6.out;simpa [flat,sp,hHn] using h_),HW6,HN6,HX6,zh (fun hh=>by rw [flatMap_snoc HTz.out] at hh;simp [hHn] at hh)⟩
          ·obtain rfl:j=hs.length:=by omega
           rw [List.take_length] at HBj HNLj
           have HBs:Hid (BldT 72 [.int .i64 ((0:Nat):Int)] N b ((((cs.flatMap hCn++gs.flatMap hGn)++ss.flatMap hSn)++os.flatMap hOn)++hs.flatMap hHn) wr):=zh (by simpa using HBj.out)
           have HNLs:Hid (((((cs.flatMap hCn++gs.flatMap hGn)++ss.flatMap hSn)++os.flatMap hOn)++hs.flatMap hHn)=[]→wr.cell? ⟨b,1,none⟩=some (.slice none 0 0)):=zh (fun hh=>HNLj.out (by simpa using hh))
           have HWs:=HWj
           have HNs:=HNj
           have HXs:=HXj
           clear HBj HNLj
           have r5:wr.cell? ⟨T,5,none⟩=some (.slice tp ts.length tc):=HXs.out.cell 5
           go_wp2
           go_loopg [15,85] ts.length (fun gg sv_ iv wr=>∃(j:Nat),iv=.int .i64 (j:Int)∧j≤ts.length∧gg=ts.length - j∧Hid (BldT 72 [.int .i64 ((0:Nat):Int)] N b (((((cs.flatMap hCn++gs.flatMap hGn)++ss.flatMap hSn)++os.flatMap hOn)++hs.flatMap hHn)++(ts.take j).flatMap hTn) wr)∧Hid (Wrote N b w wr)∧Hid (N≤wr.heap.size)∧Hid (Blk T [.slice cp cs.length cc,.slice gp gs.length gc,.slice sp_ ss.length sc,.slice op os.length oc,.slice hp hs.length hc,.slice tp ts.length tc] 28 wr)∧Hid (((((cs.flatMap hCn++gs.flatMap hGn)++ss.flatMap hSn)++os.flatMap hOn)++hs.flatMap hHn)++(ts.take j).flatMap hTn=[]→wr.cell? ⟨b,1,none⟩=some (.slice none 0 0)))
           case atStart=>exact⟨0,rfl,Nat.zero_le _,rfl,zh (by rw [List.take_zero];simpa using HBs.out),HWs,HNs,HXs,zh (fun hh=>HNLs.out (by rw [List.take_zero] at hh;simpa using hh))⟩
           case round =>
            obtain ⟨j,rfl,hj,rfl,HBj,HWj,HNj,HXj,HNLj⟩:=hrel
            by_cases hlt:j < ts.length
            ·skip
             obtain ⟨bz,oz,pbz,cbz,rfl,hbz,hboz,hcz⟩:=HTS.out.get j hlt
             have hmz:=List.getElem_mem hlt
             have htz:=List.take_succ_eq_append_getElem hlt
             have HLz:=zh (Nat.succ_le_of_lt hlt)
             generalize ts[j]=xz at *
             obtain ⟨sz,iz,dz,hz,mz,nz,yz,qz⟩:=xz
             have hb0z:=hbz.1
             replace hbz:sz.size≤1048576∧hz.size≤1048576∧mz.size≤1048576:=hbz.2
             have HTz:=zh htz
             have HYz:Hid (SL B w pbz cbz yz):=zh hboz
             have hcapz:yz.length≤cbz:=hboz.cap.1
             have hmaxz:=hboz.cap.2.1
             replace hcz:∀i_ u_,(tdc ⟨sz,iz,dz,hz,mz,nz,pbz,yz.length,cbz,qz⟩)[i_]?=some u_→wr.cell? ⟨bz,oz+j * 8+i_,none⟩=some u_:=fun i_ u_ h_=>below_cell HWj.out.bel (HBN.out _ hb0z) (hcz i_ u_ h_)
             have cz0:wr.cell? ⟨bz,oz+j * 8,none⟩=some (.string sz):=by simpa using hcz 0 _ rfl
             have cz1:wr.cell? ⟨bz,oz+j * 8+1,none⟩=some (.int .i64 iz):=hcz 1 _ rfl
             have cz2:wr.cell? ⟨bz,oz+j * 8+2,none⟩=some (.int .i64 dz):=hcz 2 _ rfl
             have cz3:wr.cell? ⟨bz,oz+j * 8+3,none⟩=some (.string hz):=hcz 3 _ rfl
             have cz4:wr.cell? ⟨bz,oz+j * 8+4,none⟩=some (.string mz):=hcz 4 _ rfl
             have cz5:wr.cell? ⟨bz,oz+j * 8+5,none⟩=some (.int .i64 nz):=hcz 5 _ rfl
             have cz6:wr.cell? ⟨bz,oz+j * 8+6,none⟩=some (.slice pbz yz.length cbz):=hcz 6 _ rfl
             have cz7:wr.cell? ⟨bz,oz+j * 8+7,none⟩=some (.int .i64 qz):=hcz 7 _ rfl
             clear hcz hboz htz
             have hokz:=HO5.out _ hmz
             have hdz:dSs yz≤dT ts:=by rw [dT_max];exact maxF_mem (F:=fun t:Ta=>dSs t.b) hmz
             obtain ⟨c1_,c2_,c3_,c4_⟩:=okT_cases hokz
             dsimp only at c1_ c2_ c3_ c4_
             have hi0:0≤iz∧iz≤32767:=by rcases c4_ with h | h <;> omega
             have hn0:0≤nz∧nz≤32767:=by rcases c4_ with h | h <;> omega
             have HRM:Hid ((((((cs.flatMap hCn++gs.flatMap hGn)++ss.flatMap hSn)++os.flatMap hOn)++hs.flatMap hHn)++(ts.take j).flatMap hTn).length+(hTn ⟨sz,iz,dz,hz,mz,nz,yz,qz⟩).length≤140737488355328):=zh (roomT HTz.out HT5.out HLT_.out)
             have HTR:Hid (∀W,Grew wr W→Calls Tryz.prog 42 #[tv sz iz dz hz mz nz pbz yz.length cbz qz] W fun e w'=>e=.returned (.string ⟨(trT iz hz.data.toList mz.data.toList nz).toArray⟩)∧Grew W w'):=zh (fun W hW=>trigP_any sz iz dz hz mz nz pbz yz.length cbz qz W hcapz hmaxz hbz.2.1 hbz.2.2 hi0 hn0 ((HE.out.wrote HWj.out).grew hW).env)
             have HOPx:Hid (∀W,Grew wr W→Calls Tryz.prog 43 #[.string ⟨#[100,101,97,100,108,105,110,101]⟩,.int .i64 dz] W fun e w'=>e=.returned (.string ⟨(optT [100,101,97,100,108,105,110,101] dz).toArray⟩)∧Grew W w'):=zh (fun W hW=>optP_any ⟨#[100,101,97,100,108,105,110,101]⟩ (by decide) dz (by omega) W ((HE.out.wrote HWj.out).grew hW).env)
             have HOY:=zh c3_
             have HDY:Hid (0+1+dSs yz≤1000):=zh (by have:=HDT.out;omega)
             have HSZ:=zh hbz
             obtain ⟨TR,hTR⟩:∃Z,trT iz hz.data.toList mz.data.toList nz=Z:=⟨_,rfl⟩
             obtain ⟨OT,hOT⟩:∃Z,optT [100,101,97,100,108,105,110,101] dz=Z:=⟨_,rfl⟩
             rw [hTR] at HTR
             rw [hOT] at HOPx
             have HTT5:Hid (hTn ⟨sz,iz,dz,hz,mz,nz,yz,qz⟩=([116,97,115,107,32]++(sz.data.toList++(TR++(OT++([32,123]++[10])))))++(linL yz (sp 1)++([125]++[10]))):=zh (by rw [← hTR,← hOT];rfl)
             clear hokz hdz c1_ c2_ c3_ c4_ hi0 hn0 hTR hOT hmz hb0z hbz
             go_upto_region 32 with fail
             have hb1_:Blk wr.heap.size [.string sz,.int .i64 iz,.int .i64 dz,.string hz,.string mz,.int .i64 nz,.slice pbz yz.length cbz,.int .i64 qz] 42 (wr.alloc (Obj.cells #[.string sz,.int .i64 iz,.int .i64 dz,.string hz,.string mz,.int .i64 nz,.slice pbz yz.length cbz,.int .i64 qz] 42)):=Blk.new wr _ _
             have hgV:Grew wr (wr.alloc (Obj.cells #[.string sz,.int .i64 iz,.int .i64 dz,.string hz,.string mz,.int .i64 nz,.slice pbz yz.length cbz,.int .i64 qz] 42)):=(Grew.refl wr).alloc _
             have hne2_:wr.heap.size≠b:=by have:=HBj.out.lt;omega
             generalize (wr.alloc (Obj.cells #[.string sz,.int .i64 iz,.int .i64 dz,.string hz,.string mz,.int .i64 nz,.slice pbz yz.length cbz,.int .i64 qz] 42))=V at hb1_ hgV ⊢
             generalize wr.heap.size=T2 at hb1_ hne2_ ⊢
             have HGV:=zh hgV
             have HBV:=zh (HBj.out.grew hgV)
             have HWV:=zh (HWj.out.grew hgV HNw.out)
             have HNV:=zh (Nat.le_trans HNj.out hgV.sz)
             have HXV:=zh (HXj.out.grew hgV)
             have HB2:=zh hb1_
             have HNE2:=zh hne2_
             have d0:Atv ⟨T2,0,none⟩ (.string sz) V.drew:=(hb1_.grew (Grew.refl _).drw).atv 0 rfl
             have d1:Atv ⟨T2,1,none⟩ (.int .i64 iz) V.drew:=(hb1_.grew (Grew.refl _).drw).atv 1 rfl
             have d2:Atv ⟨T2,2,none⟩ (.int .i64 dz) V.drew:=(hb1_.grew (Grew.refl _).drw).atv 2 rfl
             have d3:Atv ⟨T2,3,none⟩ (.string hz) V.drew:=(hb1_.grew (Grew.refl _).drw).atv 3 rfl
             have d4:Atv ⟨T2,4,none⟩ (.string mz) V.drew:=(hb1_.grew (Grew.refl _).drw).atv 4 rfl
             have d5:Atv ⟨T2,5,none⟩ (.int .i64 nz) V.drew:=(hb1_.grew (Grew.refl _).drw).atv 5 rfl
             have d6:Atv ⟨T2,6,none⟩ (.slice pbz yz.length cbz) V.drew:=(hb1_.grew (Grew.refl _).drw).atv 6 rfl
             have d7:Atv ⟨T2,7,none⟩ (.int .i64 qz) V.drew:=(hb1_.grew (Grew.refl _).drw).atv 7 rfl
             clear hb1_ hgV hne2_ cz0 cz1 cz2 cz3 cz4 cz5 cz6 cz7
             refine wp_grew_tail 8 [some 89,some 90,some 91,some 92,some 93,some 94,some 95,some 96] (Zfg (Zfg (Zfe (Zfd (Zfa (Ztd (Zfd (Zfa [])))))))) [fun v _=>v=.pointer (some ⟨T2,0,none⟩),fun v _=>v=.string sz,fun v _=>v=.agg #[.string sz,.int .i64 (iz),.int .i64 (dz),.string hz,.string mz,.int .i64 (nz),.slice pbz (yz.length) (cbz),.int .i64 (qz)],fun v _=>v=.string ⟨(TR).toArray⟩,fun v _=>v=.pointer (some ⟨T2,2,none⟩),fun v _=>v=.int .i64 (dz),fun v _=>v=.string ⟨(OT).toArray⟩,fun v w=>∃g_,v=.slice (some ⟨g_,0,none⟩) 5 5∧V.drew.heap.size≤g_∧Blk g_ [.string ⟨#[116,97,115,107,32]⟩,.string sz,.string ⟨TR.toArray⟩,.string ⟨OT.toArray⟩,.string ⟨#[32,123]⟩] 9 w] (by kernel_rfl) (by kernel_rfl) (by kernel_rfl) rfl ?_ ⟨?_,?_,?_,?_,?_,?_,?_,?_,trivial⟩ ?_
             ·exact⟨Zi,Zi,Zi,Zi,Zi,Zi,Zi,fun _ _ _ hg ⟨S,h1,h2,h3⟩=>⟨S,h1,h2,h3.grew hg⟩,trivial⟩
             ·intro u w hR hd;exact rn_fld_42_0 (ev rfl) Zr
             ·intro u w hR hd;exact rn_ld_9 (ev (hd.1 rfl)) (d0.kept hR) Zr
             ·intro u w hR hd;exact rn_ld_42 (ev rfl) (d0.kept hR) (d1.kept hR) (d2.kept hR) (d3.kept hR) (d4.kept hR) (d5.kept hR) (d6.kept hR) (d7.kept hR) Zr
             ·intro u w hR hd;exact runs_c1 en_tr (ev (hd.1 rfl)) (callp (fun _ e=>e) (HTR.out _ (HGV.out.trans ((Grew.refl _).drw.trans hR))))
             ·intro u w hR hd;exact rn_fld_42_2 (ev rfl) Zr
             ·intro u w hR hd;exact rn_ld_3 (ev (hd.1 rfl)) (d2.kept hR) Zr
             ·intro u w hR hd;exact runs_c2 en_op rfl (ev (hd.1 rfl)) (callp (fun _ e=>e) (HOPx.out _ (HGV.out.trans ((Grew.refl _).drw.trans hR))))
             ·intro u w hR hd;exact rn_bs_116_97_115_107_32_90_92_95_32_123 (ev (hd.1 rfl)) (ev (hd.2.1 rfl)) (ev (hd.2.2.1 rfl)) ⟨(Grew.refl _).alloc _,⟨_,rfl,hR.sz,heap_alloc_new _ _⟩⟩
             ·intro u w5 hR h
              have g5:Grew V w5:=(Grew.refl V).drw.trans hR
              have HB5:=zh (HBV.out.grew g5)
              have HN5:=zh (Nat.le_trans HNV.out g5.sz)
              have HW5:=zh (HWV.out.grew g5 HNw.out)
              have HX5:=zh (HXV.out.grew g5)
              have HB25:=zh (HB2.out.grew g5)
              obtain ⟨g_,hs_,hge,hbk⟩:∃g_,u 96=.slice (some ⟨g_,0,none⟩) 5 5∧V.drew.heap.size≤g_∧Blk g_ [.string ⟨#[116,97,115,107,32]⟩,.string sz,.string ⟨TR.toArray⟩,.string ⟨OT.toArray⟩,.string ⟨#[32,123]⟩] 9 w5:=h 7 (by decide)
              have hgb:g_≠b:=by have h1:=HBV.out.lt;have h2:V.drew.heap.size=V.heap.size:=rfl;omega
              refine wpAny_one (i:=8) (some 97) (by kernel_rfl) rfl rfl rfl (runs_c2 en_ln (ev rfl) (ev hs_) ((lineN_any N b 0 (((((cs.flatMap hCn++gs.flatMap hGn)++ss.flatMap hSn)++os.flatMap hOn)++hs.flatMap hHn)++(ts.take j).flatMap hTn) [(⟨#[116,97,115,107,32]⟩:ByteArray),sz,⟨TR.toArray⟩,⟨OT.toArray⟩,(⟨#[32,123]⟩:ByteArray)] _ 5 g_ w5 HB5.out HN5.out (by decide) hbk rfl rfl hgb (by have h_:=HRM.out;rw [HTT5.out] at h_;simp [flat,sp] at h_ ⊢;omega) (by decide)).mono ?_))
              rintro e_ w6 ⟨rfl,hb_,hw_⟩
              refine⟨_,rfl,?_⟩
              refine wpAny_done (by kernel_rfl) ?_ _
              simp only [zz1,zz2,zz3,Act.put,mixA,mixL,zz9,zz0,zz4,zz5,zz6]
              try simp only [Nat.zero_add,Nat.reduceAdd]
              generalize u 89=z89
              generalize u 90=z90
              generalize u 91=z91
              generalize u 92=z92
              generalize u 93=z93
              generalize u 94=z94
              generalize u 95=z95
              generalize u 96=z96
              have HBa:=zh hb_
              have HWa:=zh (HW5.out.trans hw_)
              have HNa:=zh (Nat.le_trans HN5.out hw_.bel.size)
              have HXa:=zh (HX5.out.wrote hw_ HNE.out (by decide))
              have HB2a:=zh (HB25.out.wrote hw_ HNE2.out (by decide))
              clear hs_ hbk hb_ hw_ h hR g5
              have y6:w6.cell? ⟨T2,6,none⟩=some (.slice pbz yz.length cbz):=HB2a.out.cell 6
              go_wp2_with (first
               | (go_at_call 44;(with_reducible refine(bodyP_any yz N b 0 _ B w6 pbz cbz HBa.out HNa.out HBN.out (HYz.out.below HBN.out HWa.out.bel) (HE.out.wrote HWa.out) HOY.out HDY.out (by have h_:=HRM.out;rw [HTT5.out] at h_;simp [flat,sp] at h_ ⊢;omega)).mono ?_);rintro e w7 ⟨rfl,hb_,hw_⟩;have HBb:=zh hb_;have HWb:=zh (HWa.out.trans hw_);have HNb:=zh (Nat.le_trans HNa.out hw_.bel.size);have HXb:=zh (HXa.out.wrote hw_ HNE.out (by decide));clear hb_ hw_)
               | (go_at_call 39;(with_reducible refine(lineN_any N b 0 _ [⟨#[125]⟩] [.string ⟨#[125]⟩] 1 w7.heap.size (w7.alloc (Obj.cells #[.string ⟨#[125]⟩] 9)) (HBb.out.grew ((Grew.refl _).alloc _)) (Nat.le_trans HNb.out ((Grew.refl w7).alloc _).sz) (by decide) (Blk.new _ _ _) rfl rfl (by have h1:=HBb.out.lt;omega) (by have h_:=HRM.out;rw [HTT5.out] at h_;simp [flat,sp] at h_ ⊢;omega) (by decide)).mono ?_);rintro e w8 ⟨rfl,hb_,hw_⟩;have HB6:=zh hb_;have HW6:=zh ((HWb.out.grew ((Grew.refl w7).alloc _) HNw.out).trans hw_);have HN6:=zh (Nat.le_trans (Nat.le_trans HNb.out ((Grew.refl w7).alloc _).sz) hw_.bel.size);have HX6:=zh ((HXb.out.grew ((Grew.refl w7).alloc _)).wrote hw_ HNE.out (by decide));clear hb_ hw_))
              go_roundg (ts.length - (j+1))
              case measure=>have:=HLz.out;omega
              case rel=>exact⟨j+1,by go_num,HLz.out,rfl,zh (by rw [flatMap_snoc HTz.out,HTT5.out];have h_:=HB6.out;simpa [flat,sp] using h_),HW6,HN6,HX6,zh (fun hh=>by rw [flatMap_snoc HTz.out,HTT5.out] at hh;simp at hh)⟩
            ·obtain rfl:j=ts.length:=by omega
             rw [List.take_length] at HBj HNLj
             have HBs:Hid (BldT 72 [.int .i64 ((0:Nat):Int)] N b (((((cs.flatMap hCn++gs.flatMap hGn)++ss.flatMap hSn)++os.flatMap hOn)++hs.flatMap hHn)++ts.flatMap hTn) wr):=zh (by simpa using HBj.out)
             have HNLs:Hid ((((((cs.flatMap hCn++gs.flatMap hGn)++ss.flatMap hSn)++os.flatMap hOn)++hs.flatMap hHn)++ts.flatMap hTn)=[]→wr.cell? ⟨b,1,none⟩=some (.slice none 0 0)):=zh (fun hh=>HNLj.out (by simpa using hh))
             have HWs:=HWj
             have HNs:=HNj
             have HXs:=HXj
             clear HBj HNLj
             rw [HT6.out] at HBs HNLs
             by_cases hnil:TT=[]
             ·subst hnil
              have HST:=zh (strP_nil b wr (HNLs.out rfl))
              go_wp2_with (go_at_call 45;(with_reducible refine(HST.out).mono ?_);rintro e w9 ⟨rfl,g_⟩;have HW9:=zh (HWs.out.grew g_ HNw.out);clear g_)
              go_ret
              exact⟨rfl,by have h_:=HW9.out.bel;rwa [← HNS.out] at h_⟩
             ·have HST:=zh (strP_any N b TT wr HBs.out hnil)
              go_wp2_with (go_at_call 45;(with_reducible refine(HST.out).mono ?_);rintro e w9 ⟨rfl,g_⟩;have HW9:=zh (HWs.out.bel.trans g_);clear g_)
              go_ret
              exact⟨rfl,by have h_:=HW9.out;rwa [← HNS.out] at h_⟩
set_option maxHeartbeats 8000000 in
theorem fmtP_no (P:Pg) (B:Nat→Prop) (w:World) (cp gp sp_ op hp tp:Option Addr) (cc gc sc oc hc tc:Nat) (hpg:PgIn B w P cp gp sp_ op hp tp cc gc sc oc hc tc) (hE0:Env w) (hok:okP P=false) :
 Calls Tryz.prog 13 #[pgv P cp gp sp_ op hp tp cc gc sc oc hc tc] w fun e w'=>e=.returned (.string ⟨#[]⟩)∧Grew w w':=by
 obtain ⟨hcaps,hmaxs⟩:=hpg.caps
 have HWF:=zh (fun W (hW:Grew w W)=>form_any P B W cp gp sp_ op hp tp cc gc sc oc hc tc (hpg.kept hW) (hE0.grew hW))
 rw [hok] at HWF
 obtain ⟨cs,gs,ss,os,hs,ts⟩:=P
 dsimp only at hcaps HWF
 have HG1:=zh ((Grew.refl w).alloc (Obj.cells #[.slice cp cs.length cc,.slice gp gs.length gc,.slice sp_ ss.length sc,.slice op os.length oc,.slice hp hs.length hc,.slice tp ts.length tc] 28))
 clear hE0 hok hpg
 show Calls Tryz.prog 13 #[.agg #[.slice cp cs.length cc,.slice gp gs.length gc,.slice sp_ ss.length sc,.slice op os.length oc,.slice hp hs.length hc,.slice tp ts.length tc]] w fun e w'=>e=.returned (.string ⟨#[]⟩)∧Grew w w'
 go_enter Tryz.func13,Tryz.ntmps13
 go_wp2_with (go_at_call 18;(with_reducible refine(HWF.out _ HG1.out).mono ?_);rintro e w1 ⟨rfl,g1⟩;have HG:=zh (HG1.out.trans g1);clear g1)
 go_ret
 exact⟨rfl,HG.out⟩
theorem fmtP_any (P:Pg) (B:Nat→Prop) (w:World) (cp gp sp_ op hp tp:Option Addr) (cc gc sc oc hc tc:Nat) (hB:∀i,B i→i < w.heap.size) (hpg:PgIn B w P cp gp sp_ op hp tp cc gc sc oc hc tc) (hE0:Env w) (hsm:smallP P=true) :
 Calls Tryz.prog 13 #[pgv P cp gp sp_ op hp tp cc gc sc oc hc tc] w fun e w'=>e=.returned (.string (if okP P=true then ⟨(fmT P).toArray⟩ else ⟨#[]⟩))∧Grew w w':=by
 cases hok:okP P with
 | true =>
   rw [if_pos rfl]
   exact fmtP_ok P B w cp gp sp_ op hp tp cc gc sc oc hc tc hB hpg hE0 hok hsm
 | false =>
   rw [if_neg (by simp)]
   exact fmtP_no P B w cp gp sp_ op hp tp cc gc sc oc hc tc hpg hE0 hok
end Go.Proofs.YtcknpcbkofgdoaaGreatDoor
