/-
  THE REFERENCE OF LAYER 16: head; simple and head of whatever statement.
  THE REFERENCE OF LAYER 16: line.
  THE REFERENCE OF LAYER 16: lines.
  THE REFERENCE OF LAYER 16: option, task.
  THE REFERENCE OF LAYER 16: Format.
  EQUALITY OF TREES (layer 16).
  EQUALITY OF STATEMENTS (layer 16).
  THE REFERENCE OF LAYER 16: Format of whatever program, Expr.
  THE REFERENCE OF LAYER 16: EqualStmts.
  THE REFERENCE OF LAYER 16: names.
  TOKENS OF CANONICAL TEXTS (layers 16, 17): what the lexer makes of the text of a well-formed tree. Nothing of the program stands here.
  A READER OF TOKENS (layers 16, 17): the grammar of the language as a function over tokens of whatever kind; it gives back the tree whose tokens it reads. Nothing of the program stands here.
  A READER OF TOKENS: programs (layers 16, 17). Nothing of the program stands here.
-/
import Derived.Test.YtcknpcbkofgdoaaGreatDoorZaShort
import Derived.Test.YtcknpcbkofgdoaaGreatDoorZa03
import Derived.Test.YtcknpcbkofgdoaaGreatDoorZa00
import Derived.Deep.LoopGhost
import Derived.Deep.Cut
import Derived.Test.YtcknpcbkofgdoaaGreatDoorZa01
namespace Go.Proofs.YtcknpcbkofgdoaaGreatDoor
open Go Go.RowKit Go.IntWalk
set_option linter.unusedSimpArgs false
set_option linter.unusedVariables false
set_option maxRecDepth 8000
section
variable {dst:Option Tmp}{ty:TypeId}{pos:String}{after:Array Edge}{g:Option (Nat × Bool)}{a:Act}{w:World}{T:Value→World→Prop}
end
set_option maxHeartbeats 8000000 in
theorem head_4 (s:ByteArray) (n q:Int) (a:Xp) (B:Nat→Prop) (w:World) (p:Option Addr) (c:Nat) (bp ep:Option Addr) (bn bc en ec:Nat) (hx:XL B w p c [a]) (hoka:okX a=true) (hn:nXs [a]≤1048576) :
 Calls Tryz.prog 163 #[sv 4 s n p 1 c bp bn bc ep en ec q] w fun e w'=>e=.returned (.string ⟨(hedT 4 n (agT [a] 0)).toArray⟩)∧Grew w w':=by
 have HX:=Lib.hid hx
 have hcap:=hx.cap.1
 have hmax:=hx.cap.2.1
 rw [nXs] at hn
 obtain ⟨b1a,o1a,pa,ca,hpa,hba,hxa,hca⟩:=HX.out.get 0 (by simp)
 obtain ⟨ka,sa,va,oa,ra,qa⟩:=a
 replace hxa:XL B w pa ca ra:=hxa
 replace hba:B b1a∧sa.size≤1048576∧va≤32767:=hba
 replace hca:∀i_ u_,(xdc ⟨ka,sa,va,oa,pa,ra.length,ca,qa⟩)[i_]?=some u_→w.cell? ⟨b1a,o1a+0 * 6+i_,none⟩=some u_:=hca
 obtain ⟨Ta,hTa⟩:∃t,txX ⟨ka,sa,va,oa,ra,qa⟩=t:=⟨_,rfl⟩
 have lTa:=txX_len ⟨ka,sa,va,oa,ra,qa⟩ hoka (XL.fitX (x:=⟨ka,sa,va,oa,ra,qa⟩) hba.2.2 hxa)
 rw [hTa] at lTa
 have HTa:=Lib.hid (fun W (hW:Grew w W)=>(show Calls Tryz.prog 51 #[xv ka sa va oa pa ra.length ca qa] W fun e w'=>e=.returned (.string ⟨(Ta).toArray⟩)∧Grew W w' from hTa ▸ text_any ⟨ka,sa,va,oa,ra,qa⟩ B W pa ca hba.2 (hxa.kept hW) hoka (by omega)))
 rw [show hedT 4 n (agT [⟨ka,sa,va,oa,ra,qa⟩] 0)=(([105,102,32])++(Ta))++([32,123]) from by rw [← hTa];rfl]
 subst hpa
 go_enter Tryz.func163,Tryz.ntmps163
 go_upto_region 3 with fail
 have hb0:Blk w.heap.size [.int .i64 4,.string s,.int .i64 n,.slice (some ⟨b1a,o1a,none⟩) 1 c,.slice bp bn bc,.slice ep en ec,.int .i64 q] 49 (w.alloc (Obj.cells #[.int .i64 4,.string s,.int .i64 n,.slice (some ⟨b1a,o1a,none⟩) 1 c,.slice bp bn bc,.slice ep en ec,.int .i64 q] 49)):=Blk.new w _ _
 have hgV:Grew w (w.alloc (Obj.cells #[.int .i64 4,.string s,.int .i64 n,.slice (some ⟨b1a,o1a,none⟩) 1 c,.slice bp bn bc,.slice ep en ec,.int .i64 q] 49)):=(Grew.refl w).alloc _
 generalize (w.alloc (Obj.cells #[.int .i64 4,.string s,.int .i64 n,.slice (some ⟨b1a,o1a,none⟩) 1 c,.slice bp bn bc,.slice ep en ec,.int .i64 q] 49))=V at hb0 hgV ⊢
 generalize w.heap.size=S at hb0 ⊢
 have HGV:=Lib.hid hgV
 have hbd:=hb0
 have d1:Atv ⟨S,1,none⟩ (.string s) V:=hbd.atv 1 rfl
 have d2:Atv ⟨S,2,none⟩ (.int .i64 n) V:=hbd.atv 2 rfl
 have d3:Atv ⟨S,3,none⟩ (.slice (some ⟨b1a,o1a,none⟩) 1 c) V:=hbd.atv 3 rfl
 have e0:Atv ⟨b1a,o1a+0 * 6,none⟩ (.int .i64 ka) V:=Atv.kept (hca 0 _ rfl) HGV.out
 have e1:Atv ⟨b1a,o1a+0 * 6+1,none⟩ (.string sa) V:=Atv.kept (hca 1 _ rfl) HGV.out
 have e2:Atv ⟨b1a,o1a+0 * 6+2,none⟩ (.int .i16 va) V:=Atv.kept (hca 2 _ rfl) HGV.out
 have e3:Atv ⟨b1a,o1a+0 * 6+3,none⟩ (.int .i64 oa) V:=Atv.kept (hca 3 _ rfl) HGV.out
 have e4:Atv ⟨b1a,o1a+0 * 6+4,none⟩ (.slice pa ra.length ca) V:=Atv.kept (hca 4 _ rfl) HGV.out
 have e5:Atv ⟨b1a,o1a+0 * 6+5,none⟩ (.int .i64 qa) V:=Atv.kept (hca 5 _ rfl) HGV.out
 clear hb0 hgV hbd hca
 refine wp_postsL [some 7,some 8,some 9,some 10,some 11,some 12,some 13,some 2] [Zf,Zf,Zt,Zf,Zf,Zf,Zf,Zt,Zt,Zt,Zt,Zt,Zt,Zt,Zf,Zf,Zf,Zf,Zf,Zf,Zf,Zf,Zf,Zf,Zf,Zf,Zf,Zf,Zf,Zf,Zf,Zf,Zf,Zf,Zf,Zf,Zf,Zf,Zf,Zf,Zf,Zf,Zf,Zf] [fun v _=>v=.pointer (some ⟨S,3,none⟩),fun v _=>v=.slice (some ⟨b1a,o1a,none⟩) (1) (c),fun v _=>v=.pointer (some ⟨b1a,o1a+0 * 6,none⟩),fun v _=>v=.agg #[.int .i64 (ka),.string sa,.int .i16 (va),.int .i64 (oa),.slice pa ra.length ca,.int .i64 (qa)],fun v _=>v=.string ⟨(Ta).toArray⟩,fun v _=>v=.string ⟨(([105,102,32])++(Ta)).toArray⟩,fun v _=>v=.string ⟨((([105,102,32])++(Ta))++([32,123])).toArray⟩,fun v _=>v=.string ⟨((([105,102,32])++(Ta))++([32,123])).toArray⟩] (by kernel_rfl) rfl ?_ ⟨?_,?_,?_,?_,?_,?_,?_,?_,trivial⟩ ?_
 ·exact⟨Zi,Zi,Zi,Zi,Zi,Zi,Zi,Zi,trivial⟩
 ·intro u w hR hd;exact rn_fld_49_3 (ev rfl) Zr
 ·intro u w hR hd;exact rn_ld_33 (ev (hd.1 rfl)) (d3.kept hR) Zr
 ·intro u w hR hd;exact rn_idx_33 (0) (ev (hd.1 rfl)) rfl (by omega) Zr
 ·intro u w hR hd;exact rn_ld_35 (ev (hd.1 rfl)) (e0.kept hR) (e1.kept hR) (e2.kept hR) (e3.kept hR) (e4.kept hR) (e5.kept hR) Zr
 ·intro u w hR hd;exact runs_c1 enters_tx (ev (hd.1 rfl)) (callp (fun _ e=>e) (HTa.out _ (HGV.out.trans hR)))
 ·intro u w hR hd;exact rn_cat_9 rfl (ev (hd.1 rfl)) (by first | omega | (simp <;> omega)) Zr
 ·intro u w hR hd;exact rn_cat_9 (ev (hd.1 rfl)) rfl (by first | omega | (simp <;> omega)) Zr
 ·intro u w hR hd;exact runs_mva (ev (hd.1 rfl)) Zr
 ·intro u w4 hR h
  have he:u 2=.string ⟨((([105,102,32])++(Ta))++([32,123])).toArray⟩:=h 7 (by decide)
  have HG4:=Lib.hid (HGV.out.trans hR)
  simp only [mixA,mixL,zz9,zz0,he]
  clear h he hR
  go_wp2
  go_ret
  exact⟨rfl,HG4.out⟩
set_option maxHeartbeats 8000000 in
theorem head_6 (s:ByteArray) (n q:Int) (a:Xp) (B:Nat→Prop) (w:World) (p:Option Addr) (c:Nat) (bp ep:Option Addr) (bn bc en ec:Nat) (hx:XL B w p c [a]) (hoka:okX a=true) (hn:nXs [a]≤1048576) :
 Calls Tryz.prog 163 #[sv 6 s n p 1 c bp bn bc ep en ec q] w fun e w'=>e=.returned (.string ⟨(hedT 6 n (agT [a] 0)).toArray⟩)∧Grew w w':=by
 have HX:=Lib.hid hx
 have hcap:=hx.cap.1
 have hmax:=hx.cap.2.1
 rw [nXs] at hn
 obtain ⟨b1a,o1a,pa,ca,hpa,hba,hxa,hca⟩:=HX.out.get 0 (by simp)
 obtain ⟨ka,sa,va,oa,ra,qa⟩:=a
 replace hxa:XL B w pa ca ra:=hxa
 replace hba:B b1a∧sa.size≤1048576∧va≤32767:=hba
 replace hca:∀i_ u_,(xdc ⟨ka,sa,va,oa,pa,ra.length,ca,qa⟩)[i_]?=some u_→w.cell? ⟨b1a,o1a+0 * 6+i_,none⟩=some u_:=hca
 obtain ⟨Ta,hTa⟩:∃t,txX ⟨ka,sa,va,oa,ra,qa⟩=t:=⟨_,rfl⟩
 have lTa:=txX_len ⟨ka,sa,va,oa,ra,qa⟩ hoka (XL.fitX (x:=⟨ka,sa,va,oa,ra,qa⟩) hba.2.2 hxa)
 rw [hTa] at lTa
 have HTa:=Lib.hid (fun W (hW:Grew w W)=>(show Calls Tryz.prog 51 #[xv ka sa va oa pa ra.length ca qa] W fun e w'=>e=.returned (.string ⟨(Ta).toArray⟩)∧Grew W w' from hTa ▸ text_any ⟨ka,sa,va,oa,ra,qa⟩ B W pa ca hba.2 (hxa.kept hW) hoka (by omega)))
 rw [show hedT 6 n (agT [⟨ka,sa,va,oa,ra,qa⟩] 0)=(([119,104,105,108,101,32])++(Ta))++([32,123]) from by rw [← hTa];rfl]
 subst hpa
 go_enter Tryz.func163,Tryz.ntmps163
 go_upto_region 5 with fail
 have hb0:Blk w.heap.size [.int .i64 6,.string s,.int .i64 n,.slice (some ⟨b1a,o1a,none⟩) 1 c,.slice bp bn bc,.slice ep en ec,.int .i64 q] 49 (w.alloc (Obj.cells #[.int .i64 6,.string s,.int .i64 n,.slice (some ⟨b1a,o1a,none⟩) 1 c,.slice bp bn bc,.slice ep en ec,.int .i64 q] 49)):=Blk.new w _ _
 have hgV:Grew w (w.alloc (Obj.cells #[.int .i64 6,.string s,.int .i64 n,.slice (some ⟨b1a,o1a,none⟩) 1 c,.slice bp bn bc,.slice ep en ec,.int .i64 q] 49)):=(Grew.refl w).alloc _
 generalize (w.alloc (Obj.cells #[.int .i64 6,.string s,.int .i64 n,.slice (some ⟨b1a,o1a,none⟩) 1 c,.slice bp bn bc,.slice ep en ec,.int .i64 q] 49))=V at hb0 hgV ⊢
 generalize w.heap.size=S at hb0 ⊢
 have HGV:=Lib.hid hgV
 have hbd:=hb0
 have d1:Atv ⟨S,1,none⟩ (.string s) V:=hbd.atv 1 rfl
 have d2:Atv ⟨S,2,none⟩ (.int .i64 n) V:=hbd.atv 2 rfl
 have d3:Atv ⟨S,3,none⟩ (.slice (some ⟨b1a,o1a,none⟩) 1 c) V:=hbd.atv 3 rfl
 have e0:Atv ⟨b1a,o1a+0 * 6,none⟩ (.int .i64 ka) V:=Atv.kept (hca 0 _ rfl) HGV.out
 have e1:Atv ⟨b1a,o1a+0 * 6+1,none⟩ (.string sa) V:=Atv.kept (hca 1 _ rfl) HGV.out
 have e2:Atv ⟨b1a,o1a+0 * 6+2,none⟩ (.int .i16 va) V:=Atv.kept (hca 2 _ rfl) HGV.out
 have e3:Atv ⟨b1a,o1a+0 * 6+3,none⟩ (.int .i64 oa) V:=Atv.kept (hca 3 _ rfl) HGV.out
 have e4:Atv ⟨b1a,o1a+0 * 6+4,none⟩ (.slice pa ra.length ca) V:=Atv.kept (hca 4 _ rfl) HGV.out
 have e5:Atv ⟨b1a,o1a+0 * 6+5,none⟩ (.int .i64 qa) V:=Atv.kept (hca 5 _ rfl) HGV.out
 clear hb0 hgV hbd hca
 refine wp_postsL [some 16,some 17,some 18,some 19,some 20,some 21,some 22,some 2] [Zf,Zf,Zt,Zf,Zf,Zf,Zf,Zf,Zf,Zf,Zf,Zf,Zf,Zf,Zf,Zf,Zt,Zt,Zt,Zt,Zt,Zt,Zt,Zf,Zf,Zf,Zf,Zf,Zf,Zf,Zf,Zf,Zf,Zf,Zf,Zf,Zf,Zf,Zf,Zf,Zf,Zf,Zf,Zf] [fun v _=>v=.pointer (some ⟨S,3,none⟩),fun v _=>v=.slice (some ⟨b1a,o1a,none⟩) (1) (c),fun v _=>v=.pointer (some ⟨b1a,o1a+0 * 6,none⟩),fun v _=>v=.agg #[.int .i64 (ka),.string sa,.int .i16 (va),.int .i64 (oa),.slice pa ra.length ca,.int .i64 (qa)],fun v _=>v=.string ⟨(Ta).toArray⟩,fun v _=>v=.string ⟨(([119,104,105,108,101,32])++(Ta)).toArray⟩,fun v _=>v=.string ⟨((([119,104,105,108,101,32])++(Ta))++([32,123])).toArray⟩,fun v _=>v=.string ⟨((([119,104,105,108,101,32])++(Ta))++([32,123])).toArray⟩] (by kernel_rfl) rfl ?_ ⟨?_,?_,?_,?_,?_,?_,?_,?_,trivial⟩ ?_
 ·exact⟨Zi,Zi,Zi,Zi,Zi,Zi,Zi,Zi,trivial⟩
 ·intro u w hR hd;exact rn_fld_49_3 (ev rfl) Zr
 ·intro u w hR hd;exact rn_ld_33 (ev (hd.1 rfl)) (d3.kept hR) Zr
 ·intro u w hR hd;exact rn_idx_33 (0) (ev (hd.1 rfl)) rfl (by omega) Zr
 ·intro u w hR hd;exact rn_ld_35 (ev (hd.1 rfl)) (e0.kept hR) (e1.kept hR) (e2.kept hR) (e3.kept hR) (e4.kept hR) (e5.kept hR) Zr
 ·intro u w hR hd;exact runs_c1 enters_tx (ev (hd.1 rfl)) (callp (fun _ e=>e) (HTa.out _ (HGV.out.trans hR)))
 ·intro u w hR hd;exact rn_cat_9 rfl (ev (hd.1 rfl)) (by first | omega | (simp <;> omega)) Zr
 ·intro u w hR hd;exact rn_cat_9 (ev (hd.1 rfl)) rfl (by first | omega | (simp <;> omega)) Zr
 ·intro u w hR hd;exact runs_mva (ev (hd.1 rfl)) Zr
 ·intro u w4 hR h
  have he:u 2=.string ⟨((([119,104,105,108,101,32])++(Ta))++([32,123])).toArray⟩:=h 7 (by decide)
  have HG4:=Lib.hid (HGV.out.trans hR)
  simp only [mixA,mixL,zz9,zz0,he]
  clear h he hR
  go_wp2
  go_ret
  exact⟨rfl,HG4.out⟩
set_option maxHeartbeats 8000000 in
theorem head_5 (s:ByteArray) (n q:Int) (w:World) (p:Option Addr) (c:Nat) (bp ep:Option Addr) (bn bc en ec:Nat) (hnn:0≤n∧n≤32767) :
 Calls Tryz.prog 163 #[sv 5 s n p 0 c bp bn bc ep en ec q] w fun e w'=>e=.returned (.string ⟨(hedT 5 n (agT [] 0)).toArray⟩)∧Grew w w':=by
 rw [show hedT 5 n (agT [] 0)=(([114,101,112,101,97,116,32])++(numZ n))++([32,123]) from rfl]
 have HNZ:=Lib.hid (fun W=>(numz_any n (by omega) W).mono fun e w' h=>(⟨h.1,h.2 ▸ Grew.refl _⟩:e=.returned (.string ⟨(numZ n).toArray⟩)∧Grew W w'))
 have lz:=numZ_len (z:=n) (by omega)
 go_enter Tryz.func163,Tryz.ntmps163
 go_upto_region 7 with fail
 have hb0:Blk w.heap.size [.int .i64 5,.string s,.int .i64 n,.slice p 0 c,.slice bp bn bc,.slice ep en ec,.int .i64 q] 49 (w.alloc (Obj.cells #[.int .i64 5,.string s,.int .i64 n,.slice p 0 c,.slice bp bn bc,.slice ep en ec,.int .i64 q] 49)):=Blk.new w _ _
 have hgV:Grew w (w.alloc (Obj.cells #[.int .i64 5,.string s,.int .i64 n,.slice p 0 c,.slice bp bn bc,.slice ep en ec,.int .i64 q] 49)):=(Grew.refl w).alloc _
 generalize (w.alloc (Obj.cells #[.int .i64 5,.string s,.int .i64 n,.slice p 0 c,.slice bp bn bc,.slice ep en ec,.int .i64 q] 49))=V at hb0 hgV ⊢
 generalize w.heap.size=S at hb0 ⊢
 have HGV:=Lib.hid hgV
 have hbd:=hb0
 have d1:Atv ⟨S,1,none⟩ (.string s) V:=hbd.atv 1 rfl
 have d2:Atv ⟨S,2,none⟩ (.int .i64 n) V:=hbd.atv 2 rfl
 have d3:Atv ⟨S,3,none⟩ (.slice p 0 c) V:=hbd.atv 3 rfl
 clear hb0 hgV hbd
 refine wp_postsL [some 25,some 26,some 27,some 28,some 29,some 2] [Zf,Zf,Zt,Zf,Zf,Zf,Zf,Zf,Zf,Zf,Zf,Zf,Zf,Zf,Zf,Zf,Zf,Zf,Zf,Zf,Zf,Zf,Zf,Zf,Zf,Zt,Zt,Zt,Zt,Zt,Zf,Zf,Zf,Zf,Zf,Zf,Zf,Zf,Zf,Zf,Zf,Zf,Zf,Zf] [fun v _=>v=.pointer (some ⟨S,2,none⟩),fun v _=>v=.int .i64 (n),fun v _=>v=.string ⟨(numZ n).toArray⟩,fun v _=>v=.string ⟨(([114,101,112,101,97,116,32])++(numZ n)).toArray⟩,fun v _=>v=.string ⟨((([114,101,112,101,97,116,32])++(numZ n))++([32,123])).toArray⟩,fun v _=>v=.string ⟨((([114,101,112,101,97,116,32])++(numZ n))++([32,123])).toArray⟩] (by kernel_rfl) rfl ?_ ⟨?_,?_,?_,?_,?_,?_,trivial⟩ ?_
 ·exact⟨Zi,Zi,Zi,Zi,Zi,Zi,trivial⟩
 ·intro u w hR hd;exact rn_fld_49_2 (ev rfl) Zr
 ·intro u w hR hd;exact rn_ld_3 (ev (hd.1 rfl)) (d2.kept hR) Zr
 ·intro u w hR hd;exact runs_c1 enters_nm (ev (hd.1 rfl)) (callp (fun _ e=>e) (HNZ.out _))
 ·intro u w hR hd;exact rn_cat_9 rfl (ev (hd.1 rfl)) (by first | omega | (simp <;> omega)) Zr
 ·intro u w hR hd;exact rn_cat_9 (ev (hd.1 rfl)) rfl (by first | omega | (simp <;> omega)) Zr
 ·intro u w hR hd;exact runs_mva (ev (hd.1 rfl)) Zr
 ·intro u w4 hR h
  have he:u 2=.string ⟨((([114,101,112,101,97,116,32])++(numZ n))++([32,123])).toArray⟩:=h 5 (by decide)
  have HG4:=Lib.hid (HGV.out.trans hR)
  simp only [mixA,mixL,zz9,zz0,he]
  clear h he hR
  go_wp2
  go_ret
  exact⟨rfl,HG4.out⟩
set_option maxHeartbeats 8000000 in
theorem head_10 (s:ByteArray) (n q:Int) (w:World) (p:Option Addr) (c:Nat) (bp ep:Option Addr) (bn bc en ec:Nat) (hnn:0≤n∧n≤32767) :
 Calls Tryz.prog 163 #[sv 10 s n p 0 c bp bn bc ep en ec q] w fun e w'=>e=.returned (.string ⟨(hedT 10 n (agT [] 0)).toArray⟩)∧Grew w w':=by
 rw [show hedT 10 n (agT [] 0)=(([102,114,101,115,104,32])++(numZ n))++([32,123]) from rfl]
 have HNZ:=Lib.hid (fun W=>(numz_any n (by omega) W).mono fun e w' h=>(⟨h.1,h.2 ▸ Grew.refl _⟩:e=.returned (.string ⟨(numZ n).toArray⟩)∧Grew W w'))
 have lz:=numZ_len (z:=n) (by omega)
 go_enter Tryz.func163,Tryz.ntmps163
 go_upto_region 9 with fail
 have hb0:Blk w.heap.size [.int .i64 10,.string s,.int .i64 n,.slice p 0 c,.slice bp bn bc,.slice ep en ec,.int .i64 q] 49 (w.alloc (Obj.cells #[.int .i64 10,.string s,.int .i64 n,.slice p 0 c,.slice bp bn bc,.slice ep en ec,.int .i64 q] 49)):=Blk.new w _ _
 have hgV:Grew w (w.alloc (Obj.cells #[.int .i64 10,.string s,.int .i64 n,.slice p 0 c,.slice bp bn bc,.slice ep en ec,.int .i64 q] 49)):=(Grew.refl w).alloc _
 generalize (w.alloc (Obj.cells #[.int .i64 10,.string s,.int .i64 n,.slice p 0 c,.slice bp bn bc,.slice ep en ec,.int .i64 q] 49))=V at hb0 hgV ⊢
 generalize w.heap.size=S at hb0 ⊢
 have HGV:=Lib.hid hgV
 have hbd:=hb0
 have d1:Atv ⟨S,1,none⟩ (.string s) V:=hbd.atv 1 rfl
 have d2:Atv ⟨S,2,none⟩ (.int .i64 n) V:=hbd.atv 2 rfl
 have d3:Atv ⟨S,3,none⟩ (.slice p 0 c) V:=hbd.atv 3 rfl
 clear hb0 hgV hbd
 refine wp_postsL [some 32,some 33,some 34,some 35,some 36,some 2] [Zf,Zf,Zt,Zf,Zf,Zf,Zf,Zf,Zf,Zf,Zf,Zf,Zf,Zf,Zf,Zf,Zf,Zf,Zf,Zf,Zf,Zf,Zf,Zf,Zf,Zf,Zf,Zf,Zf,Zf,Zf,Zf,Zt,Zt,Zt,Zt,Zt,Zf,Zf,Zf,Zf,Zf,Zf,Zf] [fun v _=>v=.pointer (some ⟨S,2,none⟩),fun v _=>v=.int .i64 (n),fun v _=>v=.string ⟨(numZ n).toArray⟩,fun v _=>v=.string ⟨(([102,114,101,115,104,32])++(numZ n)).toArray⟩,fun v _=>v=.string ⟨((([102,114,101,115,104,32])++(numZ n))++([32,123])).toArray⟩,fun v _=>v=.string ⟨((([102,114,101,115,104,32])++(numZ n))++([32,123])).toArray⟩] (by kernel_rfl) rfl ?_ ⟨?_,?_,?_,?_,?_,?_,trivial⟩ ?_
 ·exact⟨Zi,Zi,Zi,Zi,Zi,Zi,trivial⟩
 ·intro u w hR hd;exact rn_fld_49_2 (ev rfl) Zr
 ·intro u w hR hd;exact rn_ld_3 (ev (hd.1 rfl)) (d2.kept hR) Zr
 ·intro u w hR hd;exact runs_c1 enters_nm (ev (hd.1 rfl)) (callp (fun _ e=>e) (HNZ.out _))
 ·intro u w hR hd;exact rn_cat_9 rfl (ev (hd.1 rfl)) (by first | omega | (simp <;> omega)) Zr
 ·intro u w hR hd;exact rn_cat_9 (ev (hd.1 rfl)) rfl (by first | omega | (simp <;> omega)) Zr
 ·intro u w hR hd;exact runs_mva (ev (hd.1 rfl)) Zr
 ·intro u w4 hR h
  have he:u 2=.string ⟨((([102,114,101,115,104,32])++(numZ n))++([32,123])).toArray⟩:=h 5 (by decide)
  have HG4:=Lib.hid (HGV.out.trans hR)
  simp only [mixA,mixL,zz9,zz0,he]
  clear h he hR
  go_wp2
  go_ret
  exact⟨rfl,HG4.out⟩
set_option maxHeartbeats 8000000 in
theorem head_11 (s:ByteArray) (n q:Int) (w:World) (p:Option Addr) (c:Nat) (bp ep:Option Addr) (bn bc en ec:Nat) (hnn:0≤n∧n≤32767) :
 Calls Tryz.prog 163 #[sv 11 s n p 0 c bp bn bc ep en ec q] w fun e w'=>e=.returned (.string ⟨(hedT 11 n (agT [] 0)).toArray⟩)∧Grew w w':=by
 rw [show hedT 11 n (agT [] 0)=(([116,111,103,101,116,104,101,114,32])++(numZ n))++([32,123]) from rfl]
 have HNZ:=Lib.hid (fun W=>(numz_any n (by omega) W).mono fun e w' h=>(⟨h.1,h.2 ▸ Grew.refl _⟩:e=.returned (.string ⟨(numZ n).toArray⟩)∧Grew W w'))
 have lz:=numZ_len (z:=n) (by omega)
 go_enter Tryz.func163,Tryz.ntmps163
 go_upto_region 11 with fail
 have hb0:Blk w.heap.size [.int .i64 11,.string s,.int .i64 n,.slice p 0 c,.slice bp bn bc,.slice ep en ec,.int .i64 q] 49 (w.alloc (Obj.cells #[.int .i64 11,.string s,.int .i64 n,.slice p 0 c,.slice bp bn bc,.slice ep en ec,.int .i64 q] 49)):=Blk.new w _ _
 have hgV:Grew w (w.alloc (Obj.cells #[.int .i64 11,.string s,.int .i64 n,.slice p 0 c,.slice bp bn bc,.slice ep en ec,.int .i64 q] 49)):=(Grew.refl w).alloc _
 generalize (w.alloc (Obj.cells #[.int .i64 11,.string s,.int .i64 n,.slice p 0 c,.slice bp bn bc,.slice ep en ec,.int .i64 q] 49))=V at hb0 hgV ⊢
 generalize w.heap.size=S at hb0 ⊢
 have HGV:=Lib.hid hgV
 have hbd:=hb0
 have d1:Atv ⟨S,1,none⟩ (.string s) V:=hbd.atv 1 rfl
 have d2:Atv ⟨S,2,none⟩ (.int .i64 n) V:=hbd.atv 2 rfl
 have d3:Atv ⟨S,3,none⟩ (.slice p 0 c) V:=hbd.atv 3 rfl
 clear hb0 hgV hbd
 refine wp_postsL [some 39,some 40,some 41,some 42,some 43,some 2] [Zf,Zf,Zt,Zf,Zf,Zf,Zf,Zf,Zf,Zf,Zf,Zf,Zf,Zf,Zf,Zf,Zf,Zf,Zf,Zf,Zf,Zf,Zf,Zf,Zf,Zf,Zf,Zf,Zf,Zf,Zf,Zf,Zf,Zf,Zf,Zf,Zf,Zf,Zf,Zt,Zt,Zt,Zt,Zt] [fun v _=>v=.pointer (some ⟨S,2,none⟩),fun v _=>v=.int .i64 (n),fun v _=>v=.string ⟨(numZ n).toArray⟩,fun v _=>v=.string ⟨(([116,111,103,101,116,104,101,114,32])++(numZ n)).toArray⟩,fun v _=>v=.string ⟨((([116,111,103,101,116,104,101,114,32])++(numZ n))++([32,123])).toArray⟩,fun v _=>v=.string ⟨((([116,111,103,101,116,104,101,114,32])++(numZ n))++([32,123])).toArray⟩] (by kernel_rfl) rfl ?_ ⟨?_,?_,?_,?_,?_,?_,trivial⟩ ?_
 ·exact⟨Zi,Zi,Zi,Zi,Zi,Zi,trivial⟩
 ·intro u w hR hd;exact rn_fld_49_2 (ev rfl) Zr
 ·intro u w hR hd;exact rn_ld_3 (ev (hd.1 rfl)) (d2.kept hR) Zr
 ·intro u w hR hd;exact runs_c1 enters_nm (ev (hd.1 rfl)) (callp (fun _ e=>e) (HNZ.out _))
 ·intro u w hR hd;exact rn_cat_9 rfl (ev (hd.1 rfl)) (by first | omega | (simp <;> omega)) Zr
 ·intro u w hR hd;exact rn_cat_9 (ev (hd.1 rfl)) rfl (by first | omega | (simp <;> omega)) Zr
 ·intro u w hR hd;exact runs_mva (ev (hd.1 rfl)) Zr
 ·intro u w4 hR h
  have he:u 2=.string ⟨((([116,111,103,101,116,104,101,114,32])++(numZ n))++([32,123])).toArray⟩:=h 5 (by decide)
  have HG4:=Lib.hid (HGV.out.trans hR)
  simp only [mixA,mixL,zz9,zz0,he]
  clear h he hR
  go_wp2
  go_ret
  exact⟨rfl,HG4.out⟩
theorem head_1 (s:ByteArray) (n q:Int) (w:World) (p:Option Addr) (na c:Nat) (bp ep:Option Addr) (bn bc en ec:Nat) :
 Calls Tryz.prog 163 #[sv 1 s n p na c bp bn bc ep en ec q] w fun e w'=>e=.returned (.string ⟨([]:List UInt8).toArray⟩)∧Grew w w':=by
 go_enter Tryz.func163,Tryz.ntmps163
 go_wp2
 go_ret
 exact⟨rfl,(Grew.refl w).alloc _⟩
theorem head_2 (s:ByteArray) (n q:Int) (w:World) (p:Option Addr) (na c:Nat) (bp ep:Option Addr) (bn bc en ec:Nat) :
 Calls Tryz.prog 163 #[sv 2 s n p na c bp bn bc ep en ec q] w fun e w'=>e=.returned (.string ⟨([]:List UInt8).toArray⟩)∧Grew w w':=by
 go_enter Tryz.func163,Tryz.ntmps163
 go_wp2
 go_ret
 exact⟨rfl,(Grew.refl w).alloc _⟩
theorem head_3 (s:ByteArray) (n q:Int) (w:World) (p:Option Addr) (na c:Nat) (bp ep:Option Addr) (bn bc en ec:Nat) :
 Calls Tryz.prog 163 #[sv 3 s n p na c bp bn bc ep en ec q] w fun e w'=>e=.returned (.string ⟨([]:List UInt8).toArray⟩)∧Grew w w':=by
 go_enter Tryz.func163,Tryz.ntmps163
 go_wp2
 go_ret
 exact⟨rfl,(Grew.refl w).alloc _⟩
theorem head_7 (s:ByteArray) (n q:Int) (w:World) (p:Option Addr) (na c:Nat) (bp ep:Option Addr) (bn bc en ec:Nat) :
 Calls Tryz.prog 163 #[sv 7 s n p na c bp bn bc ep en ec q] w fun e w'=>e=.returned (.string ⟨([]:List UInt8).toArray⟩)∧Grew w w':=by
 go_enter Tryz.func163,Tryz.ntmps163
 go_wp2
 go_ret
 exact⟨rfl,(Grew.refl w).alloc _⟩
theorem head_8 (s:ByteArray) (n q:Int) (w:World) (p:Option Addr) (na c:Nat) (bp ep:Option Addr) (bn bc en ec:Nat) :
 Calls Tryz.prog 163 #[sv 8 s n p na c bp bn bc ep en ec q] w fun e w'=>e=.returned (.string ⟨([]:List UInt8).toArray⟩)∧Grew w w':=by
 go_enter Tryz.func163,Tryz.ntmps163
 go_wp2
 go_ret
 exact⟨rfl,(Grew.refl w).alloc _⟩
theorem head_9 (s:ByteArray) (n q:Int) (w:World) (p:Option Addr) (na c:Nat) (bp ep:Option Addr) (bn bc en ec:Nat) :
 Calls Tryz.prog 163 #[sv 9 s n p na c bp bn bc ep en ec q] w fun e w'=>e=.returned (.string ⟨([]:List UInt8).toArray⟩)∧Grew w w':=by
 go_enter Tryz.func163,Tryz.ntmps163
 go_wp2
 go_ret
 exact⟨rfl,(Grew.refl w).alloc _⟩
theorem head_12 (s:ByteArray) (n q:Int) (w:World) (p:Option Addr) (na c:Nat) (bp ep:Option Addr) (bn bc en ec:Nat) :
 Calls Tryz.prog 163 #[sv 12 s n p na c bp bn bc ep en ec q] w fun e w'=>e=.returned (.string ⟨([]:List UInt8).toArray⟩)∧Grew w w':=by
 go_enter Tryz.func163,Tryz.ntmps163
 go_wp2
 go_ret
 exact⟨rfl,(Grew.refl w).alloc _⟩
theorem head_13 (s:ByteArray) (n q:Int) (w:World) (p:Option Addr) (na c:Nat) (bp ep:Option Addr) (bn bc en ec:Nat) :
 Calls Tryz.prog 163 #[sv 13 s n p na c bp bn bc ep en ec q] w fun e w'=>e=.returned (.string ⟨([]:List UInt8).toArray⟩)∧Grew w w':=by
 go_enter Tryz.func163,Tryz.ntmps163
 go_wp2
 go_ret
 exact⟨rfl,(Grew.refl w).alloc _⟩
theorem simple_12 (s:ByteArray) (n q:Int) (w:World) (p:Option Addr) (na c:Nat) (bp ep:Option Addr) (bn bc en ec:Nat) :
 Calls Tryz.prog 164 #[sv 12 s n p na c bp bn bc ep en ec q] w fun e w'=>e=.returned (.string ⟨([99,104,101,99,107,112,111,105,110,116,59]).toArray⟩)∧Grew w w':=by
 go_enter Tryz.func164,Tryz.ntmps164
 go_wp2
 go_ret
 exact⟨rfl,(Grew.refl w).alloc _⟩
theorem simple_13 (s:ByteArray) (n q:Int) (w:World) (p:Option Addr) (na c:Nat) (bp ep:Option Addr) (bn bc en ec:Nat) :
 Calls Tryz.prog 164 #[sv 13 s n p na c bp bn bc ep en ec q] w fun e w'=>e=.returned (.string ⟨([114,101,116,117,114,110,59]).toArray⟩)∧Grew w w':=by
 go_enter Tryz.func164,Tryz.ntmps164
 go_wp2
 go_ret
 exact⟨rfl,(Grew.refl w).alloc _⟩
theorem head_any {k n q:Int}{s:ByteArray}{ar:List Xp}{b e:List Sm}(hok:okS ⟨k,s,n,ar,b,e,q⟩=true) (B:Nat→Prop) (w:World) (p:Option Addr) (c:Nat) (bp ep:Option Addr) (bn bc en ec:Nat) (hx:XL B w p c ar) (hn:nXs ar≤1048576) :
 Calls Tryz.prog 163 #[sv k s n p ar.length c bp bn bc ep en ec q] w fun e w'=>e=.returned (.string ⟨(hedT k n (agT ar 0)).toArray⟩)∧Grew w w':=by
 obtain ⟨h1,h2,h3,h⟩:=okS_cases hok
 rcases h with ⟨hk,⟨a,rfl⟩,_⟩ | ⟨rfl,⟨a,c',rfl⟩,_⟩ | ⟨rfl,⟨a,rfl⟩,_⟩ | ⟨hk,rfl,_,hm,_⟩ | ⟨rfl,⟨a,rfl⟩,_⟩ | ⟨rfl,⟨a,rfl⟩,_⟩ | ⟨hk,rfl,_⟩
 ·rcases hk with rfl | rfl | rfl | rfl
  ·exact head_1 s n q w p 1 c bp ep bn bc en ec
  ·exact head_2 s n q w p 1 c bp ep bn bc en ec
  ·exact head_7 s n q w p 1 c bp ep bn bc en ec
  ·exact head_9 s n q w p 1 c bp ep bn bc en ec
 ·exact head_3 s n q w p 2 c bp ep bn bc en ec
 ·exact head_4 s n q a B w p c bp ep bn bc en ec hx (okXs_all.1 h1 a (by simp)) hn
 ·rcases hk with rfl | rfl | rfl
  ·exact head_5 s n q w p c bp ep bn bc en ec hm
  ·exact head_10 s n q w p c bp ep bn bc en ec hm
  ·exact head_11 s n q w p c bp ep bn bc en ec hm
 ·exact head_6 s n q a B w p c bp ep bn bc en ec hx (okXs_all.1 h1 a (by simp)) hn
 ·exact head_8 s n q w p 1 c bp ep bn bc en ec
 ·rcases hk with rfl | rfl
  ·exact head_12 s n q w p 0 c bp ep bn bc en ec
  ·exact head_13 s n q w p 0 c bp ep bn bc en ec
theorem simple_any {k n q:Int}{s:ByteArray}{ar:List Xp}{b e:List Sm}(hok:okS ⟨k,s,n,ar,b,e,q⟩=true) (hh:hedT k n (agT ar 0)=[]) (B:Nat→Prop) (w:World) (p:Option Addr) (c:Nat) (bp ep:Option Addr) (bn bc en ec:Nat) (hx:XL B w p c ar) (hn:nXs ar≤1048576) :
 Calls Tryz.prog 164 #[sv k s n p ar.length c bp bn bc ep en ec q] w fun e w'=>e=.returned (.string ⟨(simT k s.data.toList (agT ar 0) (agT ar 1)).toArray⟩)∧Grew w w':=by
 obtain ⟨h1,h2,h3,h⟩:=okS_cases hok
 have hs:=idn_size (okS_nm hok).1
 have no:∀(x y z:List UInt8),x++y++z=[]→z=[]:=fun x y z h=>(List.append_eq_nil_iff.1 h).2
 rcases h with ⟨hk,⟨a,rfl⟩,_⟩ | ⟨rfl,⟨a,c',rfl⟩,_⟩ | ⟨rfl,⟨a,rfl⟩,_⟩ | ⟨hk,rfl,_,hm,_⟩ | ⟨rfl,⟨a,rfl⟩,_⟩ | ⟨rfl,⟨a,rfl⟩,_⟩ | ⟨hk,rfl,_⟩
 ·have ha:=okXs_all.1 h1 a (by simp)
  rcases hk with rfl | rfl | rfl | rfl
  ·exact simple_1 s n q a B w p c bp ep bn bc en ec hs hx ha hn
  ·exact simple_2 s n q a B w p c bp ep bn bc en ec hs hx ha hn
  ·exact simple_7 s n q a B w p c bp ep bn bc en ec hs hx ha hn
  ·exact simple_9 s n q a B w p c bp ep bn bc en ec hs hx ha hn
 ·exact simple_3 s n q a c' B w p c bp ep bn bc en ec hs hx (okXs_all.1 h1 a (by simp)) (okXs_all.1 h1 c' (by simp)) hn
 ·exact absurd (no _ _ _ hh) (by simp)
 ·rcases hk with rfl | rfl | rfl
  ·exact absurd (no _ _ _ hh) (by simp)
  ·exact absurd (no _ _ _ hh) (by simp)
  ·exact absurd (no _ _ _ hh) (by simp)
 ·exact absurd (no _ _ _ hh) (by simp)
 ·exact simple_8 s n q a B w p c bp ep bn bc en ec hs hx (okXs_all.1 h1 a (by simp)) hn
 ·rcases hk with rfl | rfl
  ·exact simple_12 s n q w p 0 c bp ep bn bc en ec
  ·exact simple_13 s n q w p 0 c bp ep bn bc en ec
end Go.Proofs.YtcknpcbkofgdoaaGreatDoor
namespace Go.Proofs.YtcknpcbkofgdoaaGreatDoor
open Go Go.RowKit Go.IntWalk
set_option linter.unusedSimpArgs false
set_option linter.unusedVariables false
set_option maxRecDepth 8000
def LineC (x:Sm):Prop:=∀(B:Nat→Prop) (w:World) (ap bp ep:Option Addr) (ac bc ec:Nat) (i:List UInt8),okS x=true→nS x≤1048576→mS x≤1048576→i.length+4 * dS x≤400→XL B w ap ac x.ar→SL B w bp bc x.b→SL B w ep ec x.e →
 Calls Tryz.prog 141 #[sv x.k x.s x.n ap x.ar.length ac bp x.b.length bc ep x.e.length ec x.q,.string ⟨i.toArray⟩] w fun e w'=>e=.returned (.string ⟨(linS x i).toArray⟩)∧Grew w w'
def LinesC (l:List Sm):Prop:=∀(B:Nat→Prop) (w:World) (p:Option Addr) (c:Nat) (i:List UInt8),okSs l=true→nSs l≤1048576→mSs l≤1048576→i.length+4 * dSs l≤400→SL B w p c l →
 Calls Tryz.prog 98 #[.slice p l.length c,.string ⟨i.toArray⟩] w fun e w'=>e=.returned (.string ⟨(linL l i).toArray⟩)∧Grew w w'
theorem SL_fit {B:Nat→Prop}{w:World}:∀(n:Nat) (p:Option Addr) (c:Nat) (xs:List Sm),nSs xs < n→SL B w p c xs→fitSs xs:=by
 intro n
 induction n with
 | zero=>intro _ _ _ h;exact absurd h (Nat.not_lt_zero _)
 | succ n ih =>
   intro p c xs hn hx
   obtain ⟨-,L,-,h2⟩:=hx
   induction xs generalizing L with
   | nil=>rw [fitSs];trivial
   | cons x xs ihx =>
     rw [SsAt] at h2
     rw [nSs] at hn
     obtain ⟨d,L',rfl,h3,h4⟩:=h2
     rw [SAt_iff] at h3
     obtain ⟨ap,ac,bp,bc,ep,ec,_,_,h5,h6,h7⟩:=h3
     rw [fitSs]
     rw [nS_be] at hn
     refine⟨?_,ihx (by omega) L' h4⟩
     rw [x.eta,fitS]
     exact⟨h5.fit,ih bp bc x.b (by omega) h6,ih ep ec x.e (by omega) h7⟩
theorem SL.fit {B:Nat→Prop}{w:World}{p:Option Addr}{c:Nat}{xs:List Sm}(h:SL B w p c xs):fitSs xs:=SL_fit _ _ _ _ (Nat.lt_succ_self _) h
theorem str_emp {l:List UInt8}(h:l≠[]):¬ (⟨l.toArray⟩:ByteArray).toList=[]∧(⟨l.toArray⟩:ByteArray).toList.isEmpty=false:=by
 rw [ByteArray.toList_eq]
 simpa using h
theorem in4_str (i:List UInt8):(⟨i.toArray⟩:ByteArray)++⟨#[32,32,32,32]⟩=⟨(in4 i).toArray⟩:=str_append i [32,32,32,32]
theorem lsz (l:List UInt8):(⟨l.toArray⟩:ByteArray).size=l.length:=List.size_toArray
set_option maxHeartbeats 16000000 in
theorem line_step (x:Sm) (ihL:∀l,nSs l < nS x→LinesC l) (ihS:∀y,nS y < nS x→LineC y):LineC x:=by
 obtain ⟨k,s,n,ar,b,e,q⟩:=x
 intro B w ap bp ep ac bc ec i hok hn hm hi hxa hxb hxe
 replace hxa:XL B w ap ac ar:=hxa
 replace hxb:SL B w bp bc b:=hxb
 replace hxe:SL B w ep ec e:=hxe
 have hcap:ar.length≤ac∧b.length≤bc∧e.length≤ec:=⟨hxa.cap.1,hxb.cap.1,hxe.cap.1⟩
 have hmax:=And.intro hxa.cap.2.1 (And.intro hxb.cap.2.1 hxe.cap.2.1)
 show Calls Tryz.prog 141 #[sv k s n ap ar.length ac bp b.length bc ep e.length ec q,.string ⟨i.toArray⟩] w _
 have hcs:=okS_cases hok
 obtain ⟨hnm,hnn⟩:=okS_nm hok
 rw [nS] at ihL ihS
 rw [nS] at hn
 rw [mS] at hm
 rw [dS] at hi
 have hi4:(in4 i).length=i.length+4:=by rw [in4,List.length_append];rfl
 have HHD:=Lib.hid (fun W (hW:Grew w W)=>head_any hok B W ap ac bp ep b.length bc e.length ec (hxa.kept hW) (by omega))
 have lh:=hedT_len k n (agT ar 0) hnn
 have la:=agT_two hcs.1 hxa.fit
 have lIs:(⟨i.toArray⟩:ByteArray).size≤400:=by rw [lsz];omega
 by_cases hh:hedT k n (agT ar 0)=[]
 ·have hl:linS ⟨k,s,n,ar,b,e,q⟩ i=simT k s.data.toList (agT ar 0) (agT ar 1)++[10]:=by rw [linS,if_pos hh]
  have HSI:=Lib.hid (fun W (hW:Grew w W)=>simple_any hok hh B W ap ac bp ep b.length bc e.length ec (hxa.kept hW) (by omega))
  have ls:=simT_len k s.data.toList (agT ar 0) (agT ar 1)
  have hsz:=idn_size hnm
  rw [hl]
  rw [hh] at HHD
  have HE:Hid ((⟨(simT k s.data.toList (agT ar 0) (agT ar 1)).toArray⟩:ByteArray)++⟨#[10]⟩=⟨(simT k s.data.toList (agT ar 0) (agT ar 1)++[10]).toArray⟩):=Lib.hid (str_append _ [10])
  have l1:(⟨(simT k s.data.toList (agT ar 0) (agT ar 1)).toArray⟩:ByteArray).size≤100000000:=by rw [lsz];omega
  generalize (⟨(simT k s.data.toList (agT ar 0) (agT ar 1)++[10]).toArray⟩:ByteArray)=R at HE ⊢
  generalize (⟨(simT k s.data.toList (agT ar 0) (agT ar 1)).toArray⟩:ByteArray)=T1 at HE HSI l1
  generalize (⟨i.toArray⟩:ByteArray)=I at lIs ⊢
  clear ihL ihS hcs hnm hnn hxa hxb hxe hn hm hi hi4 lh la ls hsz hh hok
  go_enter Tryz.func141,Tryz.ntmps141
  go_wp2_with (first
   | (go_at_call 163;(with_reducible refine(HHD.out _ ((Grew.refl w).alloc _)).mono ?_);rintro e_ w1 ⟨rfl,g1⟩;have HG1:=Lib.hid (((Grew.refl w).alloc _).trans g1);have HB1:=Lib.hid ((Blk.new w [.int .i64 k,.string s,.int .i64 n,.slice ap ar.length ac,.slice bp b.length bc,.slice ep e.length ec,.int .i64 q] 49).grew g1);have hbx:=HB1.out;have r0:=hbx.cell 0;have r1:=hbx.cell 1;have r2:=hbx.cell 2;have r3:=hbx.cell 3;have r4:=hbx.cell 4;have r5:=hbx.cell 5;have r6:=hbx.cell 6;simp only [zz7,zz8] at r0 r1 r2 r3 r4 r5 r6;clear g1 hbx)
   | (go_at_call 164;(with_reducible refine(HSI.out _ HG1.out).mono ?_);rintro e_ w2 ⟨rfl,g2⟩;have HG2:=Lib.hid (HG1.out.trans g2);clear g2))
  go_ret
  exact⟨ret_string HE.out,HG2.out⟩
 ·have hl:linS ⟨k,s,n,ar,b,e,q⟩ i=(((hedT k n (agT ar 0)++[10])++linL b (in4 i))++i)++elsT e i:=by rw [linS,if_neg hh]
  have HBD:=Lib.hid (fun W (hW:Grew w W)=>(show Calls Tryz.prog 98 #[.slice bp b.length bc,.string ((⟨i.toArray⟩:ByteArray)++⟨#[32,32,32,32]⟩)] W fun e w'=>e=.returned (.string ⟨(linL b (in4 i)).toArray⟩)∧Grew W w' from by
   rw [in4_str]
   exact ihL b (by omega) B W bp bc (in4 i) hcs.2.1 (by omega) (by omega) (by omega) (hxb.kept hW)))
  have lb:=linL_len b (in4 i) hcs.2.1 hxb.fit (by omega)
  obtain ⟨hne1,hne2⟩:=str_emp hh
  have l1:(⟨(hedT k n (agT ar 0)).toArray⟩:ByteArray).size≤100000000:=by rw [lsz];omega
  have l2:(⟨(linL b (in4 i)).toArray⟩:ByteArray).size≤10000000000:=by rw [lsz];omega
  rw [hl]
  have HE0:Hid ((⟨(hedT k n (agT ar 0)).toArray⟩:ByteArray)++⟨#[10]⟩++⟨(linL b (in4 i)).toArray⟩++⟨i.toArray⟩=⟨(((hedT k n (agT ar 0)++[10])++linL b (in4 i))++i).toArray⟩):=Lib.hid (by
   rw [show (⟨#[10]⟩:ByteArray)=⟨([10]:List UInt8).toArray⟩ from rfl,str_append,str_append,str_append])
  by_cases he0:e=[]
  ·subst he0
   have HE:Hid ((⟨(hedT k n (agT ar 0)).toArray⟩:ByteArray)++⟨#[10]⟩++⟨(linL b (in4 i)).toArray⟩++⟨i.toArray⟩++⟨#[125,10]⟩=⟨((((hedT k n (agT ar 0)++[10])++linL b (in4 i))++i)++elsT [] i).toArray⟩):=Lib.hid (by rw [HE0.out,elsT];exact str_append _ [125,10])
   generalize (⟨((((hedT k n (agT ar 0)++[10])++linL b (in4 i))++i)++elsT [] i).toArray⟩:ByteArray)=R at HE ⊢
   generalize (⟨(linL b (in4 i)).toArray⟩:ByteArray)=T2 at HE HBD l2
   generalize (⟨(hedT k n (agT ar 0)).toArray⟩:ByteArray)=H at HE HHD l1 hne1 hne2
   generalize (⟨i.toArray⟩:ByteArray)=I at lIs HE HBD ⊢
   replace HHD:Hid (∀W,Grew w W→Calls Tryz.prog 163 #[sv k s n ap ar.length ac bp b.length bc ep 0 ec q] W fun e w'=>e=.returned (.string H)∧Grew W w'):=HHD
   clear ihL ihS hcs hnm hnn hxa hxb hxe hn hm hi hi4 lh la lb hh hok HE0 hl
   go_enter Tryz.func141,Tryz.ntmps141
   go_wp2_with (first
    | (go_at_call 163;(with_reducible refine(HHD.out _ ((Grew.refl w).alloc _)).mono ?_);rintro e_ w1 ⟨rfl,g1⟩;have HG1:=Lib.hid (((Grew.refl w).alloc _).trans g1);have HB1:=Lib.hid ((Blk.new w [.int .i64 k,.string s,.int .i64 n,.slice ap ar.length ac,.slice bp b.length bc,.slice ep 0 ec,.int .i64 q] 49).grew g1);have hbx:=HB1.out;have r0:=hbx.cell 0;have r1:=hbx.cell 1;have r2:=hbx.cell 2;have r3:=hbx.cell 3;have r4:=hbx.cell 4;have r5:=hbx.cell 5;have r6:=hbx.cell 6;simp only [zz7,zz8] at r0 r1 r2 r3 r4 r5 r6;clear g1 hbx)
    | (go_at_call 98;(with_reducible refine(HBD.out _ HG1.out).mono ?_);rintro e_ w2 ⟨rfl,g2⟩;clear r0 r1 r2 r3 r4 r5 r6;have HG2:=Lib.hid (HG1.out.trans g2);have HB2:=Lib.hid (HB1.out.grew g2);have hbx:=HB2.out;have r0:=hbx.cell 0;have r1:=hbx.cell 1;have r2:=hbx.cell 2;have r3:=hbx.cell 3;have r4:=hbx.cell 4;have r5:=hbx.cell 5;have r6:=hbx.cell 6;simp only [zz7,zz8] at r0 r1 r2 r3 r4 r5 r6;clear g2 hbx))
   go_ret
   exact⟨ret_string HE.out,HG2.out⟩
  ·by_cases hif:∃y,e=[y]∧y.k=4
   ·obtain ⟨y,rfl,hy⟩:=hif
    have hoky:=okSs_all.1 hcs.2.2.1 y (by simp)
    have lxe:=hxe.fit
    rw [fitSs] at lxe
    rw [nSs,nSs] at hn ihS ihL
    rw [mSs,mSs] at hm
    rw [dSs,dSs] at hi
    have lz:=linS_len y i hoky lxe.1 (by omega)
    have l3:(⟨(linS y i).toArray⟩:ByteArray).size≤10000000000:=by rw [lsz];omega
    obtain ⟨b9,o9,pa9,ca9,pb9,cb9,pe9,ce9,rfl,hbb,hA9,hB9,hE9,hc9⟩:=hxe.get 0 (by simp)
    have HE:Hid ((⟨(hedT k n (agT ar 0)).toArray⟩:ByteArray)++⟨#[10]⟩++⟨(linL b (in4 i)).toArray⟩++⟨i.toArray⟩++⟨#[125,32,101,108,115,101,32]⟩++⟨(linS y i).toArray⟩=⟨((((hedT k n (agT ar 0)++[10])++linL b (in4 i))++i)++elsT [y] i).toArray⟩):=Lib.hid (by
     rw [HE0.out,elsT_if y i hy,show (⟨#[125,32,101,108,115,101,32]⟩:ByteArray)=⟨([125,32,101,108,115,101,32]:List UInt8).toArray⟩ from rfl,str_append,str_append,List.append_assoc])
    have ih0:=ihS y (by omega)
    obtain ⟨k9,s9,n9,r9,y9,e9,q9⟩:=y
    replace hy:k9=4:=hy
    replace hA9:XL B w pa9 ca9 r9:=hA9
    replace hB9:SL B w pb9 cb9 y9:=hB9
    replace hE9:SL B w pe9 ce9 e9:=hE9
    have hcap9:r9.length≤ca9∧y9.length≤cb9∧e9.length≤ce9:=⟨hA9.cap.1,hB9.cap.1,hE9.cap.1⟩
    have hmax9:=And.intro hA9.cap.2.1 (And.intro hB9.cap.2.1 hE9.cap.2.1)
    have hiy:i.length+4 * dS ⟨k9,s9,n9,r9,y9,e9,q9⟩≤400:=by omega
    have HL0:=Lib.hid (fun W (hW:Grew w W)=>(show Calls Tryz.prog 141 #[sv k9 s9 n9 pa9 r9.length ca9 pb9 y9.length cb9 pe9 e9.length ce9 q9,.string ⟨i.toArray⟩] W fun e w'=>e=.returned (.string ⟨(linS ⟨k9,s9,n9,r9,y9,e9,q9⟩ i).toArray⟩)∧Grew W w' from ih0 B W pa9 pb9 pe9 ca9 cb9 ce9 i hoky (by omega) (by omega) hiy (hA9.kept hW) (hB9.kept hW) (hE9.kept hW)))
    replace hc9:∀i_ u_,(sdc ⟨k9,s9,n9,pa9,r9.length,ca9,pb9,y9.length,cb9,pe9,e9.length,ce9,q9⟩)[i_]?=some u_→w.cell? ⟨b9,o9+0 * 7+i_,none⟩=some u_:=hc9
    have HC9:Hid (∀W,Grew w W→(W.cell? ⟨b9,o9,none⟩=some (.int .i64 k9)∧W.cell? ⟨b9,o9+1,none⟩=some (.string s9)∧W.cell? ⟨b9,o9+2,none⟩=some (.int .i64 n9)∧W.cell? ⟨b9,o9+3,none⟩=some (.slice pa9 r9.length ca9)∧W.cell? ⟨b9,o9+4,none⟩=some (.slice pb9 y9.length cb9)∧W.cell? ⟨b9,o9+5,none⟩=some (.slice pe9 e9.length ce9)∧W.cell? ⟨b9,o9+6,none⟩=some (.int .i64 q9))):=Lib.hid (fun W hW=>by
     have f:=fun i_ u_ h_=>Atv.kept (hc9 i_ u_ h_) hW
     simp only [Nat.zero_mul,Nat.add_zero] at f
     exact⟨f 0 _ rfl,f 1 _ rfl,f 2 _ rfl,f 3 _ rfl,f 4 _ rfl,f 5 _ rfl,f 6 _ rfl⟩)
    subst hy
    generalize (⟨((((hedT k n (agT ar 0)++[10])++linL b (in4 i))++i)++elsT [(⟨4,s9,n9,r9,y9,e9,q9⟩:Sm)] i).toArray⟩:ByteArray)=R at HE ⊢
    generalize (⟨(linL b (in4 i)).toArray⟩:ByteArray)=T2 at HE HBD l2
    generalize (⟨(hedT k n (agT ar 0)).toArray⟩:ByteArray)=H at HE HHD l1 hne1 hne2
    generalize (⟨(linS ⟨4,s9,n9,r9,y9,e9,q9⟩ i).toArray⟩:ByteArray)=T3 at HE HL0 l3
    generalize (⟨i.toArray⟩:ByteArray)=I at lIs HE HBD HL0 ⊢
    replace HHD:Hid (∀W,Grew w W→Calls Tryz.prog 163 #[sv k s n ap ar.length ac bp b.length bc (some ⟨b9,o9,none⟩) 1 ec q] W fun e w'=>e=.returned (.string H)∧Grew W w'):=HHD
    clear ihL ihS hcs hnm hnn hxa hxb hxe hn hm hi hi4 lh la lb hh hok HE0 hl he0 hoky lxe lz ih0 hA9 hB9 hE9 hiy hc9 hbb
    go_enter Tryz.func141,Tryz.ntmps141
    go_wp2_with (first
     | (go_at_call 163;(with_reducible refine(HHD.out _ ((Grew.refl w).alloc _)).mono ?_);rintro e_ w1 ⟨rfl,g1⟩;have HG1:=Lib.hid (((Grew.refl w).alloc _).trans g1);have HB1:=Lib.hid ((Blk.new w [.int .i64 k,.string s,.int .i64 n,.slice ap ar.length ac,.slice bp b.length bc,.slice (some ⟨b9,o9,none⟩) 1 ec,.int .i64 q] 49).grew g1);have hbx:=HB1.out;have r0:=hbx.cell 0;have r1:=hbx.cell 1;have r2:=hbx.cell 2;have r3:=hbx.cell 3;have r4:=hbx.cell 4;have r5:=hbx.cell 5;have r6:=hbx.cell 6;simp only [zz7,zz8] at r0 r1 r2 r3 r4 r5 r6;clear g1 hbx)
     | (go_at_call 98;(with_reducible refine(HBD.out _ HG1.out).mono ?_);rintro e_ w2 ⟨rfl,g2⟩;clear r0 r1 r2 r3 r4 r5 r6;have HG2:=Lib.hid (HG1.out.trans g2);have HB2:=Lib.hid (HB1.out.grew g2);have hbx:=HB2.out;have r0:=hbx.cell 0;have r1:=hbx.cell 1;have r2:=hbx.cell 2;have r3:=hbx.cell 3;have r4:=hbx.cell 4;have r5:=hbx.cell 5;have r6:=hbx.cell 6;simp only [zz7,zz8] at r0 r1 r2 r3 r4 r5 r6;obtain ⟨t0,t1,t2,t3,t4,t5,t6⟩:=HC9.out w2 HG2.out;clear g2 hbx)
     | (go_at_call 141;(with_reducible refine(HL0.out _ HG2.out).mono ?_);rintro e_ w3 ⟨rfl,g3⟩;have HG3:=Lib.hid (HG2.out.trans g3);clear g3))
    go_ret
    exact⟨ret_string HE.out,HG3.out⟩
   ·have hne:∀y,e=[y]→y.k≠4:=fun y h1 h2=>hif ⟨y,h1,h2⟩
    have HEL:=Lib.hid (fun W (hW:Grew w W)=>(show Calls Tryz.prog 98 #[.slice ep e.length ec,.string ((⟨i.toArray⟩:ByteArray)++⟨#[32,32,32,32]⟩)] W fun e_ w'=>e_=.returned (.string ⟨(linL e (in4 i)).toArray⟩)∧Grew W w' from by
     rw [in4_str]
     exact ihL e (by omega) B W ep ec (in4 i) hcs.2.2.1 (by omega) (by omega) (by omega) (hxe.kept hW)))
    have le:=linL_len e (in4 i) hcs.2.2.1 hxe.fit (by omega)
    have l3:(⟨(linL e (in4 i)).toArray⟩:ByteArray).size≤10000000000:=by rw [lsz];omega
    have HE:Hid ((⟨(hedT k n (agT ar 0)).toArray⟩:ByteArray)++⟨#[10]⟩++⟨(linL b (in4 i)).toArray⟩++⟨i.toArray⟩++⟨#[125,32,101,108,115,101,32,123,10]⟩++⟨(linL e (in4 i)).toArray⟩++⟨i.toArray⟩++⟨#[125,10]⟩=⟨((((hedT k n (agT ar 0)++[10])++linL b (in4 i))++i)++elsT e i).toArray⟩):=Lib.hid (by
     rw [HE0.out,elsT_else i he0 hne,show (⟨#[125,32,101,108,115,101,32,123,10]⟩:ByteArray)=⟨([125,32,101,108,115,101,32,123,10]:List UInt8).toArray⟩ from rfl,show (⟨#[125,10]⟩:ByteArray)=⟨([125,10]:List UInt8).toArray⟩ from rfl,str_append,str_append,str_append,str_append]
     simp only [List.append_assoc])
    have hep:0 < e.length:=List.length_pos_iff.2 he0
    have b0:((e.length:Int)==0)=false:=by simpa using he0
    -- one element that is no if,or more than one
    have HC9:Hid ((e.length=1→∃b9 o9 k9,ep=some ⟨b9,o9,none⟩∧k9≠4∧∀W,Grew w W→W.cell? ⟨b9,o9,none⟩=some (.int .i64 k9))):=Lib.hid (fun h1=>by
     obtain ⟨y,rfl⟩:=List.length_eq_one_iff.1 h1
     obtain ⟨b9,o9,pa9,ca9,pb9,cb9,pe9,ce9,rfl,hbb,hA9,hB9,hE9,hc9⟩:=hxe.get 0 (by simp)
     refine⟨b9,o9,y.k,rfl,hne y rfl,fun W hW=>?_⟩
     have f:=Atv.kept (hc9 0 _ rfl) hW
     simpa using f)
    generalize (⟨((((hedT k n (agT ar 0)++[10])++linL b (in4 i))++i)++elsT e i).toArray⟩:ByteArray)=R at HE ⊢
    generalize (⟨(linL b (in4 i)).toArray⟩:ByteArray)=T2 at HE HBD l2
    generalize (⟨(hedT k n (agT ar 0)).toArray⟩:ByteArray)=H at HE HHD l1 hne1 hne2
    generalize (⟨(linL e (in4 i)).toArray⟩:ByteArray)=T3 at HE HEL l3
    generalize (⟨i.toArray⟩:ByteArray)=I at lIs HE HBD HEL ⊢
    clear ihL ihS hcs hnm hnn hxa hxb hxe hn hm hi hi4 lh la lb hh hok HE0 hl hif hne le he0
    by_cases h1:e.length=1
    ·obtain ⟨b9,o9,k9,rfl,h9,hw9⟩:=HC9.out h1
     have HC9b:=Lib.hid hw9
     have b4:(k9==4)=false:=by simpa using h9
     rw [h1] at HHD HEL hcap ⊢
     clear HC9 hw9 h9 b0 hep
     go_enter Tryz.func141,Tryz.ntmps141
     go_wp2_with (first
      | (go_at_call 163;(with_reducible refine(HHD.out _ ((Grew.refl w).alloc _)).mono ?_);rintro e_ w1 ⟨rfl,g1⟩;have HG1:=Lib.hid (((Grew.refl w).alloc _).trans g1);have HB1:=Lib.hid ((Blk.new w [.int .i64 k,.string s,.int .i64 n,.slice ap ar.length ac,.slice bp b.length bc,.slice (some ⟨b9,o9,none⟩) 1 ec,.int .i64 q] 49).grew g1);have hbx:=HB1.out;have r0:=hbx.cell 0;have r1:=hbx.cell 1;have r2:=hbx.cell 2;have r3:=hbx.cell 3;have r4:=hbx.cell 4;have r5:=hbx.cell 5;have r6:=hbx.cell 6;simp only [zz7,zz8] at r0 r1 r2 r3 r4 r5 r6;clear g1 hbx)
      | (go_at_call 98;(with_reducible refine(HBD.out _ HG1.out).mono ?_);rintro e_ w2 ⟨rfl,g2⟩;clear r0 r1 r2 r3 r4 r5 r6;have HG2:=Lib.hid (HG1.out.trans g2);have HB2:=Lib.hid (HB1.out.grew g2);have hbx:=HB2.out;have r0:=hbx.cell 0;have r1:=hbx.cell 1;have r2:=hbx.cell 2;have r3:=hbx.cell 3;have r4:=hbx.cell 4;have r5:=hbx.cell 5;have r6:=hbx.cell 6;simp only [zz7,zz8] at r0 r1 r2 r3 r4 r5 r6;have t0:=HC9b.out w2 HG2.out;clear g2 hbx)
      | (go_at_call 98;(with_reducible refine(HEL.out _ HG2.out).mono ?_);rintro e_ w3 ⟨rfl,g3⟩;have HG3:=Lib.hid (HG2.out.trans g3);clear g3))
     go_ret
     exact⟨ret_string HE.out,HG3.out⟩
    ·have b1:((e.length:Int)==1)=false:=by rw [beq_eq_false_iff_ne];omega
     clear HC9 h1
     go_enter Tryz.func141,Tryz.ntmps141
     go_wp2_with (first
      | (go_at_call 163;(with_reducible refine(HHD.out _ ((Grew.refl w).alloc _)).mono ?_);rintro e_ w1 ⟨rfl,g1⟩;have HG1:=Lib.hid (((Grew.refl w).alloc _).trans g1);have HB1:=Lib.hid ((Blk.new w [.int .i64 k,.string s,.int .i64 n,.slice ap ar.length ac,.slice bp b.length bc,.slice ep e.length ec,.int .i64 q] 49).grew g1);have hbx:=HB1.out;have r0:=hbx.cell 0;have r1:=hbx.cell 1;have r2:=hbx.cell 2;have r3:=hbx.cell 3;have r4:=hbx.cell 4;have r5:=hbx.cell 5;have r6:=hbx.cell 6;simp only [zz7,zz8] at r0 r1 r2 r3 r4 r5 r6;clear g1 hbx)
      | (go_at_call 98;(with_reducible refine(HBD.out _ HG1.out).mono ?_);rintro e_ w2 ⟨rfl,g2⟩;clear r0 r1 r2 r3 r4 r5 r6;have HG2:=Lib.hid (HG1.out.trans g2);have HB2:=Lib.hid (HB1.out.grew g2);have hbx:=HB2.out;have r0:=hbx.cell 0;have r1:=hbx.cell 1;have r2:=hbx.cell 2;have r3:=hbx.cell 3;have r4:=hbx.cell 4;have r5:=hbx.cell 5;have r6:=hbx.cell 6;simp only [zz7,zz8] at r0 r1 r2 r3 r4 r5 r6;clear g2 hbx)
      | (go_at_call 98;(with_reducible refine(HEL.out _ HG2.out).mono ?_);rintro e_ w3 ⟨rfl,g3⟩;have HG3:=Lib.hid (HG2.out.trans g3);clear g3))
     go_ret
     exact⟨ret_string HE.out,HG3.out⟩
end Go.Proofs.YtcknpcbkofgdoaaGreatDoor
namespace Go.Proofs.YtcknpcbkofgdoaaGreatDoor
open Go Go.RowKit Go.IntWalk
set_option linter.unusedSimpArgs false
set_option linter.unusedVariables false
set_option maxRecDepth 8000
theorem dSs_mem {x:Sm}:∀{l:List Sm},x ∈ l→dS x≤dSs l
 | y :: l,h=>by
   rw [dSs]
   rcases List.mem_cons.1 h with rfl | h
   ·omega
   ·have:=dSs_mem h;omega
theorem fitSs_mem {x:Sm}:∀{l:List Sm},fitSs l→x ∈ l→fitS x
 | y :: l,hf,h=>by
   rw [fitSs] at hf
   rcases List.mem_cons.1 h with rfl | h
   ·exact hf.1
   ·exact fitSs_mem hf.2 h
theorem linL_take (l:List Sm) (i:List UInt8) (hok:okSs l=true) (hf:fitSs l) (hi:i.length+4 * dSs l≤400) (j:Nat):(linL (l.take j) i).length≤3000 * nSs l+64 * mSs l:=by
 have h:=linL_append (l.take j) (l.drop j) i
 rw [List.take_append_drop] at h
 have h1:=congrArg List.length h
 rw [List.length_append] at h1
 have h2:=linL_len l i hok hf hi
 omega
set_option maxHeartbeats 16000000 in
theorem lines_step (l:List Sm) (ih:∀x ∈ l,LineC x):LinesC l:=by
 intro B w p c i hok hn hm hi hx
 have HX:Hid (SL B w p c l):=Lib.hid hx
 have hcap:l.length≤c:=hx.cap.1
 have hmax:=hx.cap.2.1
 have hfit:=hx.fit
 have lIs:(⟨i.toArray⟩:ByteArray).size≤400:=by rw [lsz];omega
 obtain ⟨I,hI⟩:∃I:ByteArray,⟨i.toArray⟩=I:=⟨_,rfl⟩
 have HI:=Lib.hid hI
 have HFT:=Lib.hid (fun j=>linL_take l i hok hfit hi j)
 rw [hI] at lIs ⊢
 clear hx hI
 go_enter Tryz.func98,Tryz.ntmps98
 go_wp2
 go_loopg [5,7,10] l.length (fun gg sv_ bv iv wr=>∃(j:Nat) (O:ByteArray),sv_=.string O∧iv=.int .i64 (j:Int)∧j≤l.length∧gg=l.length - j∧O.size≤10000000000∧Hid (O=⟨(linL (l.take j) i).toArray⟩)∧Hid (Grew w wr))
 case atStart=>exact⟨0,⟨#[]⟩,rfl,rfl,Nat.zero_le _,rfl,by decide,Lib.hid (by rw [List.take_zero,linL]),Lib.hid (Grew.refl _)⟩
 case round =>
  obtain ⟨j,O,rfl,rfl,hj,rfl,hos,HO,HG⟩:=hrel
  by_cases hlt:j < l.length
  ·have hmm:=mSs_mem (List.getElem_mem hlt)
   have hdm:=dSs_mem (List.getElem_mem hlt)
   have hoka:=okSs_all.1 hok _ (List.getElem_mem hlt)
   have hfa:=fitSs_mem hfit (List.getElem_mem hlt)
   obtain ⟨ba,oa,paa,caa,pba,cba,pea,cea,rfl,hba,haa,hboa,hela,hca⟩:=HX.out.get j hlt
   have hma:=List.getElem_mem hlt
   have hna:=nSs_mem hma
   have hta:=List.take_succ_eq_append_getElem hlt
   have HLa:=Lib.hid (Nat.succ_le_of_lt hlt)
   have hih:=ih _ hma B
   generalize l[j]=xa at *
   obtain ⟨ka,sa,na,ra,ya,ea,qa⟩:=xa
   replace hba:sa.size≤1048576:=hba.2
   have HTa:=Lib.hid hta
   have HAa:Hid (XL B w paa caa ra):=Lib.hid haa
   have HYa:Hid (SL B w pba cba ya):=Lib.hid hboa
   have HEa:Hid (SL B w pea cea ea):=Lib.hid hela
   have hcapa:ra.length≤caa∧ya.length≤cba∧ea.length≤cea:=⟨haa.cap.1,hboa.cap.1,hela.cap.1⟩
   have hmaxa:=And.intro haa.cap.2.1 (And.intro hboa.cap.2.1 hela.cap.2.1)
   replace hca:∀i_ u_,(sdc ⟨ka,sa,na,paa,ra.length,caa,pba,ya.length,cba,pea,ea.length,cea,qa⟩)[i_]?=some u_→wr.cell? ⟨ba,oa+j * 7+i_,none⟩=some u_:=fun i_ u_ h_=>Atv.kept (hca i_ u_ h_) HG.out
   have ca0:wr.cell? ⟨ba,oa+j * 7,none⟩=some (.int .i64 ka):=by simpa using hca 0 _ rfl
   have ca1:wr.cell? ⟨ba,oa+j * 7+1,none⟩=some (.string sa):=hca 1 _ rfl
   have ca2:wr.cell? ⟨ba,oa+j * 7+2,none⟩=some (.int .i64 na):=hca 2 _ rfl
   have ca3:wr.cell? ⟨ba,oa+j * 7+3,none⟩=some (.slice paa ra.length caa):=hca 3 _ rfl
   have ca4:wr.cell? ⟨ba,oa+j * 7+4,none⟩=some (.slice pba ya.length cba):=hca 4 _ rfl
   have ca5:wr.cell? ⟨ba,oa+j * 7+5,none⟩=some (.slice pea ea.length cea):=hca 5 _ rfl
   have ca6:wr.cell? ⟨ba,oa+j * 7+6,none⟩=some (.int .i64 qa):=hca 6 _ rfl
   clear hca haa hboa hela hta
   have lz:=linS_len _ i hoka hfa (by omega)
   have l3:(⟨(linS ⟨ka,sa,na,ra,ya,ea,qa⟩ i).toArray⟩:ByteArray).size≤10000000000:=by rw [lsz];omega
   have HIH:=Lib.hid (fun W (hW:Grew w W)=>(show Calls Tryz.prog 141 #[sv ka sa na paa ra.length caa pba ya.length cba pea ea.length cea qa,.string ⟨i.toArray⟩] W fun e w'=>e=.returned (.string ⟨(linS ⟨ka,sa,na,ra,ya,ea,qa⟩ i).toArray⟩)∧Grew W w' from hih W paa pba pea caa cba cea i hoka (by omega) (by omega) (by omega) (HAa.out.kept hW) (HYa.out.kept hW) (HEa.out.kept hW)))
   rw [HI.out] at HIH
   have HON:Hid (O++I++⟨(linS ⟨ka,sa,na,ra,ya,ea,qa⟩ i).toArray⟩=⟨(linL (l.take (j+1)) i).toArray⟩):=Lib.hid (by rw [HO.out,← HI.out,str_append,str_append,linL_snoc i HTa.out])
   have hnx:(linL (l.take (j+1)) i).length≤10000000000:=by have:=HFT.out (j+1);omega
   have HSZ:Hid ((O++I++⟨(linS ⟨ka,sa,na,ra,ya,ea,qa⟩ i).toArray⟩:ByteArray).size≤10000000000):=Lib.hid (by rw [HON.out,lsz];exact hnx)
   generalize (⟨(linS ⟨ka,sa,na,ra,ya,ea,qa⟩ i).toArray⟩:ByteArray)=T3 at HON HIH l3 HSZ
   clear hih hma hna hmm hdm hoka hfa lz hnx
   go_wp2_with (go_at_call 141;(with_reducible refine(HIH.out _ (HG.out.alloc _)).mono ?_);rintro e_ w5 ⟨rfl,g5⟩;have HG5:=Lib.hid ((HG.out.alloc _).trans g5);clear g5)
   go_roundg (l.length - (j+1))
   case measure=>have:=HLa.out;omega
   case rel=>exact⟨j+1,_,rfl,by go_num,HLa.out,rfl,HSZ.out,HON,HG5⟩
  ·obtain rfl:j=l.length:=by omega
   rw [List.take_length] at HO
   go_wp2
   go_ret
   exact⟨ret_string HO.out,HG.out⟩
theorem lines_all:∀n,(∀x,nS x≤n→LineC x)∧(∀l,nSs l≤n→LinesC l):=by
 intro n
 induction n with
 | zero=>exact⟨fun x h=>absurd (nS_pos x) (by omega),fun l h=>lines_step l fun x hx=>absurd (nSs_mem hx) (by have:=nS_pos x;omega)⟩
 | succ n ih =>
   have h1:∀x,nS x≤n+1→LineC x:=fun x hx=>line_step x (fun l hl=>ih.2 l (by omega)) (fun y hy=>ih.1 y (by omega))
   exact⟨h1,fun l hl=>lines_step l fun x hx=>h1 x (by have:=nSs_mem hx;omega)⟩
theorem lines_any (l:List Sm):LinesC l:=(lines_all _).2 l (Nat.le_refl _)
end Go.Proofs.YtcknpcbkofgdoaaGreatDoor
namespace Go.Proofs.YtcknpcbkofgdoaaGreatDoor
open Go Go.RowKit Go.IntWalk
set_option linter.unusedSimpArgs false
set_option linter.unusedVariables false
set_option maxRecDepth 8000
section
variable {dst:Option Tmp}{ty:TypeId}{pos:String}{after:Array Edge}{g:Option (Nat × Bool)}{a:Act}{w:World}{T:Value→World→Prop}
end
theorem enters_ot:Enters Tryz.prog 97:=fun args w=>by go_simp
theorem enters_ls:Enters Tryz.prog 98:=fun args w=>by go_simp
theorem option_any (u:List UInt8) (n:Int) (hu:u.length≤100) (hn:0≤n∧n≤32767) (w:World):Calls Tryz.prog 97 #[.string ⟨u.toArray⟩,.int .i64 n] w fun e w'=>e=.returned (.string ⟨(optT u n).toArray⟩)∧Grew w w':=by
 by_cases h0:n=0
 ·subst h0
  go_enter Tryz.func97,Tryz.ntmps97
  go_wp2
  go_ret
  exact⟨rfl,Grew.refl _⟩
 ·have b0:(n==0)=false:=by simpa using h0
  have HN:=Lib.hid (fun W=>numz_any n (by omega) W)
  have lz:=numZ_len (z:=n) (by omega)
  have HE:Hid ((⟨#[32]⟩:ByteArray)++⟨u.toArray⟩++⟨#[32]⟩++⟨(numZ n).toArray⟩=⟨(optT u n).toArray⟩):=Lib.hid (by
   rw [optT,if_neg h0,show (⟨#[32]⟩:ByteArray)=⟨([32]:List UInt8).toArray⟩ from rfl,str_append,str_append,str_append])
  have l1:(⟨(numZ n).toArray⟩:ByteArray).size≤6:=by rw [lsz];exact lz
  have l2:(⟨u.toArray⟩:ByteArray).size≤100:=by rw [lsz];exact hu
  generalize (⟨(optT u n).toArray⟩:ByteArray)=R at HE ⊢
  generalize (⟨(numZ n).toArray⟩:ByteArray)=T1 at HE HN l1
  generalize (⟨u.toArray⟩:ByteArray)=U at HE l2 ⊢
  clear h0 lz hu
  go_enter Tryz.func97,Tryz.ntmps97
  go_wp2_with (go_at_call 46;(with_reducible refine(HN.out _).mono ?_);rintro e w2 ⟨rfl,rfl⟩)
  go_ret
  exact⟨ret_string HE.out,Grew.refl _⟩
set_option maxHeartbeats 16000000 in
theorem task_any (s:ByteArray) (i d:Int) (h m:ByteArray) (n:Int) (y:List Sm) (q:Int) (B:Nat→Prop) (w:World) (bp:Option Addr) (bc:Nat) (hok:okT ⟨s,i,d,h,m,n,y,q⟩=true) (hn:nSs y≤1048576) (hm1:mSs y≤1048576) (hdp:4+4 * dSs y≤400) (hy:SL B w bp bc y) :
 Calls Tryz.prog 47 #[tv s i d h m n bp y.length bc q] w fun e w'=>e=.returned (.string ⟨(tskT ⟨s,i,d,h,m,n,y,q⟩).toArray⟩)∧Grew w w':=by
 obtain ⟨c1,c2,c3,c4⟩:=okT_cases hok
 dsimp only at c1 c2 c3 c4
 have hcap:=hy.cap.1
 have hmax:=hy.cap.2.1
 have ls:=idn_len c1
 have ls2:s.size≤32:=ls
 have lln:=linL_len y [32,32,32,32] c3 hy.fit (by simpa using hdp)
 have HLS0:=Lib.hid (fun W (hW:Grew w W)=>(show Calls Tryz.prog 98 #[.slice bp y.length bc,.string ⟨#[32,32,32,32]⟩] W fun e w'=>e=.returned (.string ⟨(linL y [32,32,32,32]).toArray⟩)∧Grew W w' from lines_any y B W bp bc [32,32,32,32] c3 hn hm1 (by simpa using hdp) (hy.kept hW)))
 obtain ⟨Y,hY⟩:∃t,linL y [32,32,32,32]=t:=⟨_,rfl⟩
 have htx:tskT ⟨s,i,d,h,m,n,y,q⟩=tskF (tskH ⟨s,i,d,h,m,n,y,q⟩) Y d:=by rw [tskT,hY]
 rw [hY] at HLS0 lln
 rw [htx]
 have HTO:Hid ((⟨#[116,97,115,107,32]⟩:ByteArray)++s=⟨(tskO s).toArray⟩):=Lib.hid (by rw [tskO,← str_append])
 obtain ⟨O1,hO1⟩:∃t,tskO s=t:=⟨_,rfl⟩
 have lO1:O1.length≤37:=by rw [← hO1,tskO,List.length_append];simp only [List.length_cons,List.length_nil];omega
 rw [hO1] at HTO
 clear hy hok hY htx
 have HBX:Hid (∀w1,Grew (w.alloc (Obj.cells #[.string s,.int .i64 i,.int .i64 d,.string h,.string m,.int .i64 n,.slice bp y.length bc,.int .i64 q] 42)) w1→Blk w.heap.size [.string s,.int .i64 i,.int .i64 d,.string h,.string m,.int .i64 n,.slice bp y.length bc,.int .i64 q] 42 w1):=Lib.hid (fun w1 h=>(Blk.new w _ _).grew h)
 rcases c4 with ⟨c4,c5,c6,c7⟩ | ⟨c4,-,-,-⟩
 ·subst c4
  have lh:=idn_len c5
  have lm:=idn_len c6
  have lh2:h.size≤32:=lh
  have lm2:m.size≤32:=lm
  have lh3:h.data.size≤32:=lh
  have lm3:m.data.size≤32:=lm
  have low:=optT_len [119,105,116,104,105,110] n c7
  have lod:=optT_len [100,101,97,100,108,105,110,101] d c2
  simp only [List.length_cons,List.length_nil] at low lod
  rw [show tskH ⟨s,0,d,h,m,n,y,q⟩=tskC O1 h m n from by rw [tskH,if_pos rfl,hO1]]
  go_enter Tryz.func47,Tryz.ntmps47
  go_upto_region 4 with fail
  rw [HTO.out]
  have hgV:Grew w (w.alloc (Obj.cells #[.string s,.int .i64 0,.int .i64 d,.string h,.string m,.int .i64 n,.slice bp y.length bc,.int .i64 q] 42)):=(Grew.refl w).alloc _
  have HGH:Hid (Grew (w.alloc (Obj.cells #[.string s,.int .i64 0,.int .i64 d,.string h,.string m,.int .i64 n,.slice bp y.length bc,.int .i64 q] 42)) (w.alloc (Obj.cells #[.string s,.int .i64 0,.int .i64 d,.string h,.string m,.int .i64 n,.slice bp y.length bc,.int .i64 q] 42))):=Lib.hid (Grew.refl _)
  generalize (w.alloc (Obj.cells #[.string s,.int .i64 0,.int .i64 d,.string h,.string m,.int .i64 n,.slice bp y.length bc,.int .i64 q] 42))=V at hgV HBX HGH ⊢
  generalize w.heap.size=T at HBX ⊢
  have HGV:=Lib.hid hgV
  have HB0:=Lib.hid (HBX.out V HGH.out)
  have hbd:=HB0.out.grew (Grew.refl V).drw
  have d0:Atv ⟨T,0,none⟩ (.string s) V.drew:=(hbd).atv 0 rfl
  have d1:Atv ⟨T,1,none⟩ (.int .i64 0) V.drew:=(hbd).atv 1 rfl
  have d2:Atv ⟨T,2,none⟩ (.int .i64 d) V.drew:=(hbd).atv 2 rfl
  have d3:Atv ⟨T,3,none⟩ (.string h) V.drew:=(hbd).atv 3 rfl
  have d4:Atv ⟨T,4,none⟩ (.string m) V.drew:=(hbd).atv 4 rfl
  have d5:Atv ⟨T,5,none⟩ (.int .i64 n) V.drew:=(hbd).atv 5 rfl
  have d6:Atv ⟨T,6,none⟩ (.slice bp y.length bc) V.drew:=(hbd).atv 6 rfl
  clear hgV hbd HBX HGH
  refine wp_grew_tail 14 [some 16,some 17,some 18,some 19,some 20,some 21,some 22,some 23,some 24,some 25,some 26,some 27,some 28,some 29] [Zf,Zf,Zf,Zf,Zf,Zf,Zf,Zf,Zf,Zf,Zf,Zf,Zf,Zf,Zf,Zf,Zt,Zt,Zt,Zt,Zt,Zt,Zt,Zt,Zt,Zt,Zt,Zt,Zt,Zt,Zf,Zf,Zf,Zf,Zf,Zf,Zf,Zf,Zf,Zf,Zf] [fun v _=>v=.string ⟨(O1).toArray⟩,fun v _=>v=.string ⟨((O1)++([32,111,110,32])).toArray⟩,fun v _=>v=.pointer (some ⟨T,3,none⟩),fun v _=>v=.string ⟨(h.data.toList).toArray⟩,fun v _=>v=.string ⟨(((O1)++([32,111,110,32]))++(h.data.toList)).toArray⟩,fun v _=>v=.string ⟨((((O1)++([32,111,110,32]))++(h.data.toList))++([40])).toArray⟩,fun v _=>v=.pointer (some ⟨T,4,none⟩),fun v _=>v=.string ⟨(m.data.toList).toArray⟩,fun v _=>v=.string ⟨(((((O1)++([32,111,110,32]))++(h.data.toList))++([40]))++(m.data.toList)).toArray⟩,fun v _=>v=.string ⟨((((((O1)++([32,111,110,32]))++(h.data.toList))++([40]))++(m.data.toList))++([41])).toArray⟩,fun v _=>v=.pointer (some ⟨T,5,none⟩),fun v _=>v=.int .i64 (n),fun v _=>v=.string ⟨(optT [119,105,116,104,105,110] n).toArray⟩,fun v _=>v=.string ⟨(((((((O1)++([32,111,110,32]))++(h.data.toList))++([40]))++(m.data.toList))++([41]))++(optT [119,105,116,104,105,110] n)).toArray⟩] (by kernel_rfl) (by kernel_rfl) (by kernel_rfl) rfl ?_ ⟨?_,?_,?_,?_,?_,?_,?_,?_,?_,?_,?_,?_,?_,?_,trivial⟩ ?_
  ·exact⟨Zi,Zi,Zi,Zi,Zi,Zi,Zi,Zi,Zi,Zi,Zi,Zi,Zi,Zi,trivial⟩
  ·intro u w hR hd;exact runs_mv (ev rfl) Zr
  ·intro u w hR hd;exact rn_cat_9 (ev (hd.1 rfl)) rfl (by first | omega | (simp <;> omega)) Zr
  ·intro u w hR hd;exact rn_fld_42_3 (ev rfl) Zr
  ·intro u w hR hd;exact rn_ld_9 (ev (hd.1 rfl)) (d3.kept hR) Zr
  ·intro u w hR hd;exact rn_cat_9 (ev (hd.1 rfl)) (ev (hd.2.1 rfl)) (by first | omega | (simp <;> omega)) Zr
  ·intro u w hR hd;exact rn_cat_9 (ev (hd.1 rfl)) rfl (by first | omega | (simp <;> omega)) Zr
  ·intro u w hR hd;exact rn_fld_42_4 (ev rfl) Zr
  ·intro u w hR hd;exact rn_ld_9 (ev (hd.1 rfl)) (d4.kept hR) Zr
  ·intro u w hR hd;exact rn_cat_9 (ev (hd.1 rfl)) (ev (hd.2.1 rfl)) (by first | omega | (simp <;> omega)) Zr
  ·intro u w hR hd;exact rn_cat_9 (ev (hd.1 rfl)) rfl (by first | omega | (simp <;> omega)) Zr
  ·intro u w hR hd;exact rn_fld_42_5 (ev rfl) Zr
  ·intro u w hR hd;exact rn_ld_3 (ev (hd.1 rfl)) (d5.kept hR) Zr
  ·intro u w hR hd;exact runs_c2 enters_ot rfl (ev (hd.1 rfl)) (callp (fun _ e=>e) ((option_any [119,105,116,104,105,110] n (by decide) (by omega) _)))
  ·intro u w hR hd;exact rn_cat_9 (ev (hd.1 rfl)) (ev (hd.2.1 rfl)) (by first | omega | (simp <;> omega)) Zr
  ·intro u w4 hR hh
   have he:u 29=.string ⟨(((((((O1)++([32,111,110,32]))++(h.data.toList))++([40]))++(m.data.toList))++([41]))++(optT [119,105,116,104,105,110] n)).toArray⟩:=hh 13 (by decide)
   refine wpAny_one (i:=14) (some 3) (by kernel_rfl) rfl rfl rfl (runs_mva (ev he) ?_)
   refine wpAny_done (by kernel_rfl) ?_ _
   simp only [zz1,zz2,zz3,Act.put,mixA,mixL,zz9,zz0,zz4,zz5,zz6]
   have HG4:=Lib.hid (HGV.out.trans ((Grew.refl V).drw.trans hR))
   have HB4:=Lib.hid (HB0.out.grew ((Grew.refl V).drw.trans hR))
   clear hh he hR d0 d1 d2 d3 d4 d5 d6
   obtain ⟨O,hO⟩:∃t,tskC O1 h m n=t:=⟨_,rfl⟩
   have lO:O.length≤200:=by
    rw [← hO,tskC]
    simp only [List.length_append,List.length_cons,List.length_nil]
    omega
   rw [show (((((((O1)++([32,111,110,32]))++(h.data.toList))++([40]))++(m.data.toList))++([41]))++(optT [119,105,116,104,105,110] n))=O from hO]
   try rw [hO]
   go_upto_region 5 with fail
   have HLS:Hid (∀W,Grew w W→Calls Tryz.prog 98 #[.slice bp y.length bc,.string ⟨#[32,32,32,32]⟩] W fun e w'=>e=.returned (.string ⟨(Y).toArray⟩)∧Grew W w'):=Lib.hid HLS0.out
   have HGV:=Lib.hid HG4.out
   generalize w4=V at HGV HB4 HG4 ⊢
   have hbd:=HB4.out.grew (Grew.refl V).drw
   have d0:Atv ⟨T,0,none⟩ (.string s) V.drew:=(hbd).atv 0 rfl
   have d1:Atv ⟨T,1,none⟩ (.int .i64 0) V.drew:=(hbd).atv 1 rfl
   have d2:Atv ⟨T,2,none⟩ (.int .i64 d) V.drew:=(hbd).atv 2 rfl
   have d3:Atv ⟨T,3,none⟩ (.string h) V.drew:=(hbd).atv 3 rfl
   have d4:Atv ⟨T,4,none⟩ (.string m) V.drew:=(hbd).atv 4 rfl
   have d5:Atv ⟨T,5,none⟩ (.int .i64 n) V.drew:=(hbd).atv 5 rfl
   have d6:Atv ⟨T,6,none⟩ (.slice bp y.length bc) V.drew:=(hbd).atv 6 rfl
   clear hbd HG4
   refine wp_posts [some 30,some 31,some 32,some 33,some 34,some 35,some 36,some 37,some 38,some 39,some 40,some 2] zD2 [fun v _=>v=.string ⟨(O).toArray⟩,fun v _=>v=.pointer (some ⟨T,2,none⟩),fun v _=>v=.int .i64 (d),fun v _=>v=.string ⟨(optT [100,101,97,100,108,105,110,101] d).toArray⟩,fun v _=>v=.string ⟨((O)++(optT [100,101,97,100,108,105,110,101] d)).toArray⟩,fun v _=>v=.string ⟨(((O)++(optT [100,101,97,100,108,105,110,101] d))++([32,123,10])).toArray⟩,fun v _=>v=.pointer (some ⟨T,6,none⟩),fun v _=>v=.slice bp (y.length) (bc),fun v _=>v=.string ⟨(Y).toArray⟩,fun v _=>v=.string ⟨((((O)++(optT [100,101,97,100,108,105,110,101] d))++([32,123,10]))++(Y)).toArray⟩,fun v _=>v=.string ⟨(((((O)++(optT [100,101,97,100,108,105,110,101] d))++([32,123,10]))++(Y))++([125,10])).toArray⟩,fun v _=>v=.string ⟨(((((O)++(optT [100,101,97,100,108,105,110,101] d))++([32,123,10]))++(Y))++([125,10])).toArray⟩] (by kernel_rfl) (by kernel_rfl) rfl ?_ ⟨?_,?_,?_,?_,?_,?_,?_,?_,?_,?_,?_,?_,trivial⟩ ?_
   ·exact⟨Zi,Zi,Zi,Zi,Zi,Zi,Zi,Zi,Zi,Zi,Zi,Zi,trivial⟩
   ·intro u w hR hd;exact runs_mv (ev rfl) Zr
   ·intro u w hR hd;exact rn_fld_42_2 (ev rfl) Zr
   ·intro u w hR hd;exact rn_ld_3 (ev (hd.1 rfl)) (d2.kept hR) Zr
   ·intro u w hR hd;exact runs_c2 enters_ot rfl (ev (hd.1 rfl)) (callp (fun _ e=>e) ((option_any [100,101,97,100,108,105,110,101] d (by decide) (by omega) _)))
   ·intro u w hR hd;exact rn_cat_9 (ev (hd.1 rfl)) (ev (hd.2.1 rfl)) (by first | omega | (simp <;> omega)) Zr
   ·intro u w hR hd;exact rn_cat_9 (ev (hd.1 rfl)) rfl (by first | omega | (simp <;> omega)) Zr
   ·intro u w hR hd;exact rn_fld_42_6 (ev rfl) Zr
   ·intro u w hR hd;exact rn_ld_40 (ev (hd.1 rfl)) (d6.kept hR) Zr
   ·intro u w hR hd;exact runs_c2 enters_ls (ev (hd.1 rfl)) rfl (callp (fun _ e=>e) (HLS.out _ (HGV.out.trans ((Grew.refl _).drw.trans hR))))
   ·intro u w hR hd;exact rn_cat_9 (ev (hd.1 rfl)) (ev (hd.2.1 rfl)) (by first | omega | (simp <;> omega)) Zr
   ·intro u w hR hd;exact rn_cat_9 (ev (hd.1 rfl)) rfl (by first | omega | (simp <;> omega)) Zr
   ·intro u w hR hd;exact runs_mva (ev (hd.1 rfl)) Zr
   ·intro u w5 hR hh
    have he:u 2=.string ⟨(((((O)++(optT [100,101,97,100,108,105,110,101] d))++([32,123,10]))++(Y))++([125,10])).toArray⟩:=hh 11 (by decide)
    have HG5:=Lib.hid (HGV.out.trans ((Grew.refl V).drw.trans hR))
    simp only [mixA,mixL,zz9,zz0,he]
    clear hh he hR
    go_wp2
    go_ret
    exact⟨by rw [hO];rfl,HG5.out⟩
 ·have ni:(i != 0)=true:=by rw [bne_iff_ne];omega
  have HN:=Lib.hid (fun W=>numz_any i (by omega) W)
  have lz:=numZ_len (z:=i) (by omega)
  have lod:=optT_len [100,101,97,100,108,105,110,101] d c2
  simp only [List.length_cons,List.length_nil] at lod
  have hsE:tskH ⟨s,i,d,h,m,n,y,q⟩=tskE O1 i:=by rw [tskH,if_neg (by show ¬ i=0;omega),hO1]
  rw [hsE]
  obtain ⟨O,hO⟩:∃t,tskE O1 i=t:=⟨_,rfl⟩
  have lO:O.length≤200:=by
   rw [← hO,tskE]
   simp only [List.length_append,List.length_cons,List.length_nil]
   omega
  have HEO:Hid ((⟨#[116,97,115,107,32]⟩:ByteArray)++s++⟨#[32,101,118,101,114,121,32]⟩++⟨(numZ i).toArray⟩=⟨O.toArray⟩):=Lib.hid (by rw [HTO.out,← hO,tskE,← str_append,← str_append])
  have l1:(⟨(numZ i).toArray⟩:ByteArray).size≤6:=by rw [lsz];exact lz
  rw [hO]
  generalize (⟨(numZ i).toArray⟩:ByteArray)=T1 at HEO HN l1
  go_enter Tryz.func47,Tryz.ntmps47
  go_upto_region 5 with (go_at_call 46;(with_reducible refine(HN.out _).mono ?_);rintro e w2 ⟨rfl,rfl⟩)
  rw [HEO.out]
  have HG4:Hid (Grew w (w.alloc (Obj.cells #[.string s,.int .i64 i,.int .i64 d,.string h,.string m,.int .i64 n,.slice bp y.length bc,.int .i64 q] 42))):=Lib.hid ((Grew.refl w).alloc _)
  have HB4:=Lib.hid (HBX.out _ (Grew.refl _))
  generalize (w.alloc (Obj.cells #[.string s,.int .i64 i,.int .i64 d,.string h,.string m,.int .i64 n,.slice bp y.length bc,.int .i64 q] 42))=w4 at HG4 HB4 ⊢
  generalize w.heap.size=T at HB4 ⊢
  clear HBX
  have HLS:Hid (∀W,Grew w W→Calls Tryz.prog 98 #[.slice bp y.length bc,.string ⟨#[32,32,32,32]⟩] W fun e w'=>e=.returned (.string ⟨(Y).toArray⟩)∧Grew W w'):=Lib.hid HLS0.out
  have HGV:=Lib.hid HG4.out
  generalize w4=V at HGV HB4 HG4 ⊢
  have hbd:=HB4.out.grew (Grew.refl V).drw
  have d0:Atv ⟨T,0,none⟩ (.string s) V.drew:=(hbd).atv 0 rfl
  have d1:Atv ⟨T,1,none⟩ (.int .i64 i) V.drew:=(hbd).atv 1 rfl
  have d2:Atv ⟨T,2,none⟩ (.int .i64 d) V.drew:=(hbd).atv 2 rfl
  have d3:Atv ⟨T,3,none⟩ (.string h) V.drew:=(hbd).atv 3 rfl
  have d4:Atv ⟨T,4,none⟩ (.string m) V.drew:=(hbd).atv 4 rfl
  have d5:Atv ⟨T,5,none⟩ (.int .i64 n) V.drew:=(hbd).atv 5 rfl
  have d6:Atv ⟨T,6,none⟩ (.slice bp y.length bc) V.drew:=(hbd).atv 6 rfl
  clear hbd HG4
  refine wp_posts [some 30,some 31,some 32,some 33,some 34,some 35,some 36,some 37,some 38,some 39,some 40,some 2] zD2 [fun v _=>v=.string ⟨(O).toArray⟩,fun v _=>v=.pointer (some ⟨T,2,none⟩),fun v _=>v=.int .i64 (d),fun v _=>v=.string ⟨(optT [100,101,97,100,108,105,110,101] d).toArray⟩,fun v _=>v=.string ⟨((O)++(optT [100,101,97,100,108,105,110,101] d)).toArray⟩,fun v _=>v=.string ⟨(((O)++(optT [100,101,97,100,108,105,110,101] d))++([32,123,10])).toArray⟩,fun v _=>v=.pointer (some ⟨T,6,none⟩),fun v _=>v=.slice bp (y.length) (bc),fun v _=>v=.string ⟨(Y).toArray⟩,fun v _=>v=.string ⟨((((O)++(optT [100,101,97,100,108,105,110,101] d))++([32,123,10]))++(Y)).toArray⟩,fun v _=>v=.string ⟨(((((O)++(optT [100,101,97,100,108,105,110,101] d))++([32,123,10]))++(Y))++([125,10])).toArray⟩,fun v _=>v=.string ⟨(((((O)++(optT [100,101,97,100,108,105,110,101] d))++([32,123,10]))++(Y))++([125,10])).toArray⟩] (by kernel_rfl) (by kernel_rfl) rfl ?_ ⟨?_,?_,?_,?_,?_,?_,?_,?_,?_,?_,?_,?_,trivial⟩ ?_
  ·exact⟨Zi,Zi,Zi,Zi,Zi,Zi,Zi,Zi,Zi,Zi,Zi,Zi,trivial⟩
  ·intro u w hR hd;exact runs_mv (ev rfl) Zr
  ·intro u w hR hd;exact rn_fld_42_2 (ev rfl) Zr
  ·intro u w hR hd;exact rn_ld_3 (ev (hd.1 rfl)) (d2.kept hR) Zr
  ·intro u w hR hd;exact runs_c2 enters_ot rfl (ev (hd.1 rfl)) (callp (fun _ e=>e) ((option_any [100,101,97,100,108,105,110,101] d (by decide) (by omega) _)))
  ·intro u w hR hd;exact rn_cat_9 (ev (hd.1 rfl)) (ev (hd.2.1 rfl)) (by first | omega | (simp <;> omega)) Zr
  ·intro u w hR hd;exact rn_cat_9 (ev (hd.1 rfl)) rfl (by first | omega | (simp <;> omega)) Zr
  ·intro u w hR hd;exact rn_fld_42_6 (ev rfl) Zr
  ·intro u w hR hd;exact rn_ld_40 (ev (hd.1 rfl)) (d6.kept hR) Zr
  ·intro u w hR hd;exact runs_c2 enters_ls (ev (hd.1 rfl)) rfl (callp (fun _ e=>e) (HLS.out _ (HGV.out.trans ((Grew.refl _).drw.trans hR))))
  ·intro u w hR hd;exact rn_cat_9 (ev (hd.1 rfl)) (ev (hd.2.1 rfl)) (by first | omega | (simp <;> omega)) Zr
  ·intro u w hR hd;exact rn_cat_9 (ev (hd.1 rfl)) rfl (by first | omega | (simp <;> omega)) Zr
  ·intro u w hR hd;exact runs_mva (ev (hd.1 rfl)) Zr
  ·intro u w5 hR hh
   have he:u 2=.string ⟨(((((O)++(optT [100,101,97,100,108,105,110,101] d))++([32,123,10]))++(Y))++([125,10])).toArray⟩:=hh 11 (by decide)
   have HG5:=Lib.hid (HGV.out.trans ((Grew.refl V).drw.trans hR))
   simp only [mixA,mixL,zz9,zz0,he]
   clear hh he hR
   go_wp2
   go_ret
   exact⟨rfl,HG5.out⟩
end Go.Proofs.YtcknpcbkofgdoaaGreatDoor
namespace Go.Proofs.YtcknpcbkofgdoaaGreatDoor
open Go Go.RowKit Go.IntWalk
set_option linter.unusedSimpArgs false
set_option linter.unusedVariables false
set_option maxRecDepth 8000
section
variable {dst:Option Tmp}{ty:TypeId}{pos:String}{after:Array Edge}{g:Option (Nat × Bool)}{a:Act}{w:World}{T:Value→World→Prop}
theorem rn_cv_32_3 {x:Operand}{z:Int}(hx:a.eval x=.int .i16 z) (hb:-9223372036854775808≤z∧z≤9223372036854775807) (h:T (.int .i64 z) w):Runs Tryz.prog ⟨dst,.convert 32 3 x,ty,pos,after,g⟩ a w T:=by
 refine Runs.value (v:=.int .i64 z) (w':=w) ?_ h
 have hw:IntKind.i64.wrap z=z:=IntWalk.i64_in _ hb
 simp only [execOp,hx]
 go_simp
end
theorem dT_mem {x:Ta}:∀{l:List Ta},x ∈ l→dSs x.b≤dT l
 | y :: l,h=>by
   rw [dT]
   rcases List.mem_cons.1 h with rfl | h
   ·omega
   ·have:=dT_mem h;omega
theorem tskT_len (t:Ta) (h:okT t=true) (hf:fitSs t.b) (hd:4+4 * dSs t.b≤400):(tskT t).length≤3000 * nSs t.b+64 * mSs t.b+400:=by
 obtain ⟨c1,c2,c3,c4⟩:=okT_cases h
 have l1:=linL_len t.b [32,32,32,32] c3 hf (by simpa using hd)
 have ls:=idn_len c1
 have lod:=optT_len [100,101,97,100,108,105,110,101] t.d c2
 simp only [List.length_cons,List.length_nil] at lod
 have lO:(tskO t.s).length≤37:=by rw [tskO,List.length_append];simp only [List.length_cons,List.length_nil];omega
 have lH:(tskH t).length≤200:=by
  rw [tskH]
  rcases c4 with ⟨c4,c5,c6,c7⟩ | ⟨c4,-,-,-⟩
  ·rw [if_pos c4,tskC]
   have lh:=idn_len c5
   have lm:=idn_len c6
   have low:=optT_len [119,105,116,104,105,110] t.w c7
   simp only [List.length_cons,List.length_nil] at low
   simp only [List.length_append,List.length_cons,List.length_nil]
   omega
  ·rw [if_neg (by omega),tskE]
   have lz:=numZ_len (z:=t.p) (by omega)
   simp only [List.length_append,List.length_cons,List.length_nil]
   omega
 rw [tskT,tskF]
 simp only [List.length_append,List.length_cons,List.length_nil]
 omega
set_option maxHeartbeats 16000000 in
theorem format_ok (P:Pg) (B:Nat→Prop) (w:World) (cp gp sp op hp tp:Option Addr) (cc gc sc oc hc tc:Nat) (hB:∀b,B b→b < w.heap.size) (hpg:PgIn B w P cp gp sp op hp tp cc gc sc oc hc tc) (hok:okP P=true) (hsm:smallP P=true) :
 Calls Tryz.prog 14 #[pgv P cp gp sp op hp tp cc gc sc oc hc tc] w fun e w'=>e=.returned (.string ⟨(fmT P).toArray⟩)∧Grew w w':=by
 obtain ⟨hcaps,hmaxs⟩:=hpg.caps
 simp only [smallP,Bool.and_eq_true,decide_eq_true_eq] at hsm
 have HWF:=Lib.hid (fun W (hW:Grew w W)=>hok ▸ wf_any P B W cp gp sp op hp tp cc gc sc oc hc tc (fun b hb=>Nat.lt_of_lt_of_le (hB b hb) hW.sz) (hpg.kept hW) (by omega))
 simp only [okP,Bool.and_eq_true] at hok
 obtain ⟨cs,gs,ss,os,hs,ts⟩:=P
 have HPG:=Lib.hid (hpg.kept ((Grew.refl w).alloc (Obj.cells #[.slice cp cs.length cc,.slice gp gs.length gc,.slice sp ss.length sc,.slice op os.length oc,.slice hp hs.length hc,.slice tp ts.length tc] 28)))
 have HSZ:=Lib.hid hpg.sz
 obtain ⟨okc,okg,okn,okh,okt⟩:=hok
 dsimp only at hcaps HSZ hsm okc okg okn okh okt ⊢
 clear hpg hB
 go_enter Tryz.func14,Tryz.ntmps14
 go_wp2_with (go_at_call 19;(with_reducible refine(HWF.out _ ((Grew.refl w).alloc _)).mono ?_);rintro e w2 ⟨rfl,g2⟩;have HG2:=Lib.hid g2;have hbx:=(Blk.new w [.slice cp cs.length cc,.slice gp gs.length gc,.slice sp ss.length sc,.slice op os.length oc,.slice hp hs.length hc,.slice tp ts.length tc] 28).grew g2;have r0:=hbx.cell 0;have r1:=hbx.cell 1;have r2:=hbx.cell 2;have r3:=hbx.cell 3;have r4:=hbx.cell 4;have r5:=hbx.cell 5;simp only [zz7,zz8] at r0 r1 r2 r3 r4 r5;have HBX:=Lib.hid hbx;clear g2 hbx)
 clear r0 r1 r2 r3 r4 r5
 have HG0:Hid (Grew w w2):=Lib.hid (((Grew.refl w).alloc _).trans HG2.out)
 replace HPG:=Lib.hid (HPG.out.kept HG2.out)
 clear HG2
 generalize w2=w1 at HBX HG0 HPG ⊢
 generalize w.heap.size=Sp at HBX ⊢
 have HXC:=Lib.hid HPG.out.cs.2
 have HXG:=Lib.hid HPG.out.gs.2
 have HSS:=Lib.hid HPG.out.ss.2
 have HOS:=Lib.hid HPG.out.os.2
 have HXH:=Lib.hid HPG.out.hs.2
 have HXT:=Lib.hid HPG.out.ts
 have HGA:Hid (Grew w1 w1):=Lib.hid (Grew.refl _)
 have okns:okNs ss=true:=by rw [okNs,List.all_append,Bool.and_eq_true] at okn;exact okn.1
 have okno:okNs os=true:=by rw [okNs,List.all_append,Bool.and_eq_true] at okn;exact okn.2
 clear HPG okn
 obtain ⟨XA,hXA⟩:∃t,([]:List UInt8)=t:=⟨_,rfl⟩
 have HXA:=Lib.hid hXA
 have lXA:XA.length≤0:=by rw [← hXA];simp
 clear hXA
 go_loopg [3,5,22] cs.length (fun gg ov s0_ iv wr=>∃(j:Nat) (O:List UInt8),ov=.string ⟨O.toArray⟩∧iv=.int .i64 (j:Int)∧j≤cs.length∧gg=cs.length - j∧O.length≤XA.length+60 * j∧Hid (O=fCs XA (cs.take j))∧Hid (Grew w1 wr))
 case atStart=>exact⟨0,XA,by rw [← HXA.out],rfl,Nat.zero_le _,rfl,by omega,Lib.hid rfl,HGA⟩
 case round =>
  obtain ⟨j,O,rfl,rfl,hj,rfl,hOl,HO,HG⟩:=hrel
  by_cases hlt:j < cs.length
  ·obtain ⟨b1,o1,rfl,hcc⟩:=HXC.out.getF j hlt
   have hm:=List.getElem_mem hlt
   have htk:=List.take_succ_eq_append_getElem hlt
   have HLT:=Lib.hid (Nat.succ_le_of_lt hlt)
   have hsz:=HSZ.out.1 _ hm
   have hok:=okC_of (List.all_eq_true.1 okc _ hm)
   generalize cs[j]=x at hcc hm htk hsz hok
   obtain ⟨s,z,q⟩:=x
   try dsimp only at hsz hok
   replace hcc:∀i_ u_,([.string s,.int .i16 z,.int .i64 q]:List Value)[i_]?=some u_→wr.cell? ⟨b1,o1+j * 3+i_,none⟩=some u_:=fun i_ u_ h_=>Atv.kept (hcc i_ u_ h_) HG.out
   have q0:wr.cell? ⟨b1,o1+j * 3,none⟩=some (.string s):=by simpa using hcc 0 _ rfl
   have q1:wr.cell? ⟨b1,o1+j * 3+1,none⟩=some (.int .i16 z):=hcc 1 _ rfl
   have q2:wr.cell? ⟨b1,o1+j * 3+2,none⟩=some (.int .i64 q):=hcc 2 _ rfl
   have HTK:=Lib.hid htk
   clear hcc hm htk
   have hs:=idn_len hok.1
   have hs2:s.size≤32:=hs
   have hs3:s.data.size≤32:=hs
   have lz:=numZ_len (z:=z) (by omega)
   go_upto_region 7 with fail
   have hb1:Blk wr.heap.size [.string s,.int .i16 z,.int .i64 q] 60 (wr.alloc (Obj.cells #[.string s,.int .i16 z,.int .i64 q] 60)):=Blk.new wr _ _
   have hgV:Grew w1 (wr.alloc (Obj.cells #[.string s,.int .i16 z,.int .i64 q] 60)):=HG.out.alloc _
   generalize (wr.alloc (Obj.cells #[.string s,.int .i16 z,.int .i64 q] 60))=V at hb1 hgV ⊢
   generalize wr.heap.size=T at hb1 ⊢
   have HGV:=Lib.hid hgV
   have hbd:=hb1.grew (Grew.refl V).drw
   have d0:Atv ⟨T,0,none⟩ (.string s) V.drew:=hbd.atv 0 rfl
   have d1:Atv ⟨T,1,none⟩ (.int .i16 z) V.drew:=hbd.atv 1 rfl
   clear hb1 hbd hgV q0 q1 q2 HG
   refine wp_grew_tail 12 [some 26,some 27,some 28,some 29,some 30,some 31,some 32,some 33,some 34,some 35,some 36,some 37] [Zf,Zf,Zf,Zf,Zf,Zf,Zf,Zf,Zf,Zf,Zf,Zf,Zf,Zf,Zf,Zf,Zf,Zf,Zf,Zf,Zf,Zf,Zf,Zf,Zf,Zf,Zt,Zt,Zt,Zt,Zt,Zt,Zt,Zt,Zt,Zt,Zt,Zt,Zf,Zf,Zf,Zf,Zf,Zf,Zf,Zf,Zf,Zf,Zf,Zf,Zf,Zf,Zf,Zf,Zf,Zf,Zf,Zf,Zf,Zf,Zf,Zf,Zf,Zf,Zf,Zf,Zf,Zf,Zf,Zf,Zf,Zf,Zf,Zf,Zf,Zf,Zf,Zf,Zf,Zf,Zf,Zf,Zf,Zf,Zf,Zf,Zf,Zf,Zf,Zf,Zf,Zf,Zf,Zf,Zf,Zf,Zf,Zf,Zf,Zf,Zf,Zf,Zf,Zf,Zf,Zf,Zf,Zf,Zf,Zf,Zf,Zf,Zf,Zf,Zf,Zf,Zf,Zf,Zf,Zf,Zf,Zf,Zf,Zf,Zf,Zf,Zf,Zf,Zf,Zf,Zf,Zf] [fun v _=>v=.string ⟨(O).toArray⟩,fun v _=>v=.string ⟨((O)++([99,111,110,115,116,32])).toArray⟩,fun v _=>v=.pointer (some ⟨T,0,none⟩),fun v _=>v=.string ⟨(s.data.toList).toArray⟩,fun v _=>v=.string ⟨(((O)++([99,111,110,115,116,32]))++(s.data.toList)).toArray⟩,fun v _=>v=.string ⟨((((O)++([99,111,110,115,116,32]))++(s.data.toList))++([32,61,32])).toArray⟩,fun v _=>v=.pointer (some ⟨T,1,none⟩),fun v _=>v=.int .i16 (z),fun v _=>v=.int .i64 (z),fun v _=>v=.string ⟨(numZ z).toArray⟩,fun v _=>v=.string ⟨(((((O)++([99,111,110,115,116,32]))++(s.data.toList))++([32,61,32]))++(numZ z)).toArray⟩,fun v _=>v=.string ⟨((((((O)++([99,111,110,115,116,32]))++(s.data.toList))++([32,61,32]))++(numZ z))++([59,10])).toArray⟩] (by kernel_rfl) (by kernel_rfl) (by kernel_rfl) rfl ?_ ⟨?_,?_,?_,?_,?_,?_,?_,?_,?_,?_,?_,?_,trivial⟩ ?_
   ·exact⟨Zi,Zi,Zi,Zi,Zi,Zi,Zi,Zi,Zi,Zi,Zi,Zi,trivial⟩
   ·intro u w hR hd;exact runs_mv (ev rfl) Zr
   ·intro u w hR hd;exact rn_cat_9 (ev (hd.1 rfl)) rfl (by first | omega | (simp <;> omega)) Zr
   ·intro u w hR hd;exact rn_fld_60_0 (ev rfl) Zr
   ·intro u w hR hd;exact rn_ld_9 (ev (hd.1 rfl)) (d0.kept hR) Zr
   ·intro u w hR hd;exact rn_cat_9 (ev (hd.1 rfl)) (ev (hd.2.1 rfl)) (by first | omega | (simp <;> omega)) Zr
   ·intro u w hR hd;exact rn_cat_9 (ev (hd.1 rfl)) rfl (by first | omega | (simp <;> omega)) Zr
   ·intro u w hR hd;exact rn_fld_60_1 (ev rfl) Zr
   ·intro u w hR hd;exact rn_ld_32 (ev (hd.1 rfl)) (d1.kept hR) Zr
   ·intro u w hR hd;exact rn_cv_32_3 (ev (hd.1 rfl)) (by omega) Zr
   ·intro u w hR hd;exact runs_c1 enters_nm (ev (hd.1 rfl)) (callp (fun _ e=>e) ((numz_any z (by omega) _).mono fun e w9 h=>(⟨h.1,h.2 ▸ Grew.refl _⟩)))
   ·intro u w hR hd;exact rn_cat_9 (ev (hd.1 rfl)) (ev (hd.2.1 rfl)) (by first | omega | (simp <;> omega)) Zr
   ·intro u w hR hd;exact rn_cat_9 (ev (hd.1 rfl)) rfl (by first | omega | (simp <;> omega)) Zr
   ·intro u w4 hR hh
    have he:u 37=.string ⟨((((((O)++([99,111,110,115,116,32]))++(s.data.toList))++([32,61,32]))++(numZ z))++([59,10])).toArray⟩:=hh 11 (by decide)
    refine wpAny_one (i:=12) (some 3) (by kernel_rfl) rfl rfl rfl (runs_mva (ev he) ?_)
    refine wpAny_done (by kernel_rfl) ?_ _
    simp only [zz1,zz2,zz3,Act.put,mixA,mixL,zz9,zz0,zz4,zz5,zz6]
    have HG4:Hid (Grew w1 w4):=Lib.hid (HGV.out.trans ((Grew.refl V).drw.trans hR))
    clear hh he hR d0 d1
    have HNL:Hid (fCs XA (cs.take (j+1))=lnC O s z):=Lib.hid (by rw [HO.out];exact fold_snoc HTK.out)
    obtain ⟨N,hN⟩:∃t,lnC O s z=t:=⟨_,rfl⟩
    have hNl:N.length≤O.length+60:=by rw [← hN,lnC];simp only [List.length_append,List.length_cons,List.length_nil];omega
    rw [hN] at HNL
    rw [show ((((((O)++([99,111,110,115,116,32]))++(s.data.toList))++([32,61,32]))++(numZ z))++([59,10]))=N from hN]
    go_wp2
    go_roundg (cs.length - (j+1))
    case measure=>have:=HLT.out;omega
    case rel=>exact⟨j+1,N,rfl,by go_num,HLT.out,rfl,by omega,Lib.hid HNL.out.symm,HG4⟩
  ·obtain rfl:j=cs.length:=by omega
   rw [List.take_length] at HO
   have HOA:=Lib.hid HO.out
   have hOlA:=hOl
   have HGnA:Hid (Grew w1 wr):=Lib.hid HG.out
   have hbx:=HBX.out.grew HG.out
   have r0:=hbx.cell 0
   have r1:=hbx.cell 1
   have r2:=hbx.cell 2
   have r3:=hbx.cell 3
   have r4:=hbx.cell 4
   have r5:=hbx.cell 5
   simp only [zz7,zz8] at r0 r1 r2 r3 r4 r5
   clear hbx HO hOl HG
   go_wp2
   clear r0 r1 r2 r3 r4 r5
   obtain ⟨XB,hXB⟩:∃t,O=t:=⟨_,rfl⟩
   have HXB:=Lib.hid hXB
   have lXB:XB.length≤1200:=by rw [← hXB];omega
   clear hXB
   go_loopg [3,7,42] gs.length (fun gg ov s0_ iv wr=>∃(j:Nat) (O:List UInt8),ov=.string ⟨O.toArray⟩∧iv=.int .i64 (j:Int)∧j≤gs.length∧gg=gs.length - j∧O.length≤XB.length+60 * j∧Hid (O=fGs XB (gs.take j))∧Hid (Grew w1 wr))
   case atStart=>exact⟨0,XB,by rw [← HXB.out],rfl,Nat.zero_le _,rfl,by omega,Lib.hid rfl,HGnA⟩
   case round =>
    obtain ⟨j,O,rfl,rfl,hj,rfl,hOl,HO,HG⟩:=hrel
    by_cases hlt:j < gs.length
    ·obtain ⟨b1,o1,rfl,hcc⟩:=HXG.out.getF j hlt
     have hm:=List.getElem_mem hlt
     have htk:=List.take_succ_eq_append_getElem hlt
     have HLT:=Lib.hid (Nat.succ_le_of_lt hlt)
     have hsz:=HSZ.out.2.1 _ hm
     have hok:=okG_of (List.all_eq_true.1 okg _ hm)
     generalize gs[j]=x at hcc hm htk hsz hok
     obtain ⟨s,l,i,q⟩:=x
     try dsimp only at hsz hok
     replace hcc:∀i_ u_,([.string s,.int .i64 l,.int .i16 i,.int .i64 q]:List Value)[i_]?=some u_→wr.cell? ⟨b1,o1+j * 4+i_,none⟩=some u_:=fun i_ u_ h_=>Atv.kept (hcc i_ u_ h_) HG.out
     have q0:wr.cell? ⟨b1,o1+j * 4,none⟩=some (.string s):=by simpa using hcc 0 _ rfl
     have q1:wr.cell? ⟨b1,o1+j * 4+1,none⟩=some (.int .i64 l):=hcc 1 _ rfl
     have q2:wr.cell? ⟨b1,o1+j * 4+2,none⟩=some (.int .i16 i):=hcc 2 _ rfl
     have q3:wr.cell? ⟨b1,o1+j * 4+3,none⟩=some (.int .i64 q):=hcc 3 _ rfl
     have HTK:=Lib.hid htk
     clear hcc hm htk
     obtain ⟨hsi,hl,hi,hli⟩:=hok
     have hs1:=idn_len hsi
     have hs2:s.size≤32:=hs1
     have lzl:=numZ_len (z:=l) (by omega)
     have lzi:=numZ_len (z:=i) (by omega)
     obtain ⟨OB,hOB⟩:∃t:ByteArray,⟨O.toArray⟩=t:=⟨_,rfl⟩
     have lOB:OB.size≤10000:=by rw [← hOB,lsz];omega
     have HNL:Hid (fGs XB (gs.take (j+1))=lnG O s l i):=Lib.hid (by rw [HO.out];exact fold_snoc HTK.out)
     obtain ⟨N,hN⟩:∃t,lnG O s l i=t:=⟨_,rfl⟩
     have hNl:N.length≤O.length+60:=by
      rw [← hN,lnG,lnG2,lnG1]
      (repeat' split) <;> simp only [List.length_append,List.length_cons,List.length_nil] <;> omega
     rw [hN] at HNL
     by_cases h0:0 < l
     ·have HN:=Lib.hid (fun W=>numz_any l (by omega) W)
      have l1:(⟨(numZ l).toArray⟩:ByteArray).size≤6:=by rw [lsz];exact numZ_len (by omega)
      have HE:Hid (OB++⟨#[118,97,114,32]⟩++s++⟨#[91]⟩++⟨(numZ l).toArray⟩++⟨#[93]⟩++⟨#[59,10]⟩=⟨N.toArray⟩):=Lib.hid (by
       rw [← hN,← hOB,lnG,lnG2,if_pos h0,lnG1]
       simp only [← str_append]
       try rfl)
      generalize (⟨(numZ l).toArray⟩:ByteArray)=T1 at HE HN l1
      rw [hOB]
      clear hN hOB
      go_wp2_with (go_at_call 46;(with_reducible refine(HN.out _).mono ?_);rintro e w2 ⟨rfl,rfl⟩)
      go_roundg (gs.length - (j+1))
      case measure=>have:=HLT.out;omega
      case rel=>exact⟨j+1,N,by rw [HE.out],by go_num,HLT.out,rfl,by omega,Lib.hid HNL.out.symm,Lib.hid (HG.out.alloc _)⟩
     ·have h0b:¬ 0 < l:=h0
      by_cases h1:i=0
      ·have b1:(i != 0)=false:=by rw [h1];rfl
       have HE:Hid (OB++⟨#[118,97,114,32]⟩++s++⟨#[59,10]⟩=⟨N.toArray⟩):=Lib.hid (by
        rw [← hN,← hOB,lnG,lnG2,if_neg h0b,if_neg (by simpa using h1),lnG1]
        simp only [← str_append]
        try rfl)

       rw [hOB]
       clear hN hOB
       go_wp2
       go_roundg (gs.length - (j+1))
       case measure=>have:=HLT.out;omega
       case rel=>exact⟨j+1,N,by rw [HE.out],by go_num,HLT.out,rfl,by omega,Lib.hid HNL.out.symm,Lib.hid (HG.out.alloc _)⟩
      ·have b1:(i != 0)=true:=by simpa using h1
       have hwi:wrap64 i=i:=wrap64_in _ (by omega)
       have HN:=Lib.hid (fun W=>numz_any i (by omega) W)
       have l1:(⟨(numZ i).toArray⟩:ByteArray).size≤6:=by rw [lsz];exact numZ_len (by omega)
       have HE:Hid (OB++⟨#[118,97,114,32]⟩++s++⟨#[32,61,32]⟩++⟨(numZ i).toArray⟩++⟨#[59,10]⟩=⟨N.toArray⟩):=Lib.hid (by
        rw [← hN,← hOB,lnG,lnG2,if_neg h0b,if_pos h1,lnG1]
        simp only [← str_append]
        try rfl)
       generalize (⟨(numZ i).toArray⟩:ByteArray)=T1 at HE HN l1
       rw [hOB]
       clear hN hOB
       go_wp2_with (go_at_call 46;(with_reducible refine(HN.out _).mono ?_);rintro e w2 ⟨rfl,rfl⟩)
       go_roundg (gs.length - (j+1))
       case measure=>have:=HLT.out;omega
       case rel=>exact⟨j+1,N,by rw [HE.out],by go_num,HLT.out,rfl,by omega,Lib.hid HNL.out.symm,Lib.hid (HG.out.alloc _)⟩
    ·obtain rfl:j=gs.length:=by omega
     rw [List.take_length] at HO
     have HOB:=Lib.hid HO.out
     have hOlB:=hOl
     have HGnB:Hid (Grew w1 wr):=Lib.hid HG.out
     have hbx:=HBX.out.grew HG.out
     have r0:=hbx.cell 0
     have r1:=hbx.cell 1
     have r2:=hbx.cell 2
     have r3:=hbx.cell 3
     have r4:=hbx.cell 4
     have r5:=hbx.cell 5
     simp only [zz7,zz8] at r0 r1 r2 r3 r4 r5
     clear hbx HO hOl HG
     go_wp2
     clear r0 r1 r2 r3 r4 r5
     obtain ⟨XC_,hXC_⟩:∃t,O=t:=⟨_,rfl⟩
     have HXC_:=Lib.hid hXC_
     have lXC_:XC_.length≤2400:=by rw [← hXC_];omega
     clear hXC_
     go_loopg [3,9,77] ss.length (fun gg ov s0_ iv wr=>∃(j:Nat) (O:List UInt8),ov=.string ⟨O.toArray⟩∧iv=.int .i64 (j:Int)∧j≤ss.length∧gg=ss.length - j∧O.length≤XC_.length+60 * j∧Hid (O=fSs XC_ (ss.take j))∧Hid (Grew w1 wr))
     case atStart=>exact⟨0,XC_,by rw [← HXC_.out],rfl,Nat.zero_le _,rfl,by omega,Lib.hid rfl,HGnB⟩
     case round =>
      obtain ⟨j,O,rfl,rfl,hj,rfl,hOl,HO,HG⟩:=hrel
      by_cases hlt:j < ss.length
      ·obtain ⟨b1,o1,rfl,hcc⟩:=HSS.out.getF j hlt
       have hm:=List.getElem_mem hlt
       have htk:=List.take_succ_eq_append_getElem hlt
       have HLT:=Lib.hid (Nat.succ_le_of_lt hlt)
       have hsz:=HSZ.out.2.2.1 _ hm
       have hok:= (List.all_eq_true.1 okns _ hm)
       generalize ss[j]=x at hcc hm htk hsz hok
       rename_i s_;obtain ⟨s,rfl⟩:∃s,s=x:=⟨_,rfl⟩
       try dsimp only at hsz hok
       replace hcc:∀i_ u_,([.string s]:List Value)[i_]?=some u_→wr.cell? ⟨b1,o1+j * 1+i_,none⟩=some u_:=fun i_ u_ h_=>Atv.kept (hcc i_ u_ h_) HG.out
       have q0:wr.cell? ⟨b1,o1+j,none⟩=some (.string s):=by simpa using hcc 0 _ rfl
       have HTK:=Lib.hid htk
       clear hcc hm htk
       have hs1:=idn_len hok
       have hs2:s.size≤32:=hs1
       obtain ⟨OB,hOB⟩:∃t:ByteArray,⟨O.toArray⟩=t:=⟨_,rfl⟩
       have lOB:OB.size≤10000:=by rw [← hOB,lsz];omega
       have HNL:Hid (fSs XC_ (ss.take (j+1))=lnS O s):=Lib.hid (by rw [HO.out];exact fold_snoc HTK.out)
       obtain ⟨N,hN⟩:∃t,lnS O s=t:=⟨_,rfl⟩
       have hNl:N.length≤O.length+60:=by
        rw [← hN,lnS]
        simp only [List.length_append,List.length_cons,List.length_nil]
        omega
       rw [hN] at HNL
       have HE:Hid (OB++⟨#[115,101,110,115,111,114,32]⟩++s++⟨#[59,10]⟩=⟨N.toArray⟩):=Lib.hid (by
        rw [← hN,← hOB,lnS]
        simp only [← str_append]
        try rfl)
       rw [hOB]
       clear hN hOB
       go_wp2
       go_roundg (ss.length - (j+1))
       case measure=>have:=HLT.out;omega
       case rel=>exact⟨j+1,N,by rw [HE.out],by go_num,HLT.out,rfl,by omega,Lib.hid HNL.out.symm,HG⟩
      ·obtain rfl:j=ss.length:=by omega
       rw [List.take_length] at HO
       have HOC:=Lib.hid HO.out
       have hOlC:=hOl
       have HGnC:Hid (Grew w1 wr):=Lib.hid HG.out
       have hbx:=HBX.out.grew HG.out
       have r0:=hbx.cell 0
       have r1:=hbx.cell 1
       have r2:=hbx.cell 2
       have r3:=hbx.cell 3
       have r4:=hbx.cell 4
       have r5:=hbx.cell 5
       simp only [zz7,zz8] at r0 r1 r2 r3 r4 r5
       clear hbx HO hOl HG
       go_wp2
       clear r0 r1 r2 r3 r4 r5
       obtain ⟨XD,hXD⟩:∃t,O=t:=⟨_,rfl⟩
       have HXD:=Lib.hid hXD
       have lXD:XD.length≤3600:=by rw [← hXD];omega
       clear hXD
       go_loopg [3,11,90] os.length (fun gg ov s0_ iv wr=>∃(j:Nat) (O:List UInt8),ov=.string ⟨O.toArray⟩∧iv=.int .i64 (j:Int)∧j≤os.length∧gg=os.length - j∧O.length≤XD.length+60 * j∧Hid (O=fOs XD (os.take j))∧Hid (Grew w1 wr))
       case atStart=>exact⟨0,XD,by rw [← HXD.out],rfl,Nat.zero_le _,rfl,by omega,Lib.hid rfl,HGnC⟩
       case round =>
        obtain ⟨j,O,rfl,rfl,hj,rfl,hOl,HO,HG⟩:=hrel
        by_cases hlt:j < os.length
        ·obtain ⟨b1,o1,rfl,hcc⟩:=HOS.out.getF j hlt
         have hm:=List.getElem_mem hlt
         have htk:=List.take_succ_eq_append_getElem hlt
         have HLT:=Lib.hid (Nat.succ_le_of_lt hlt)
         have hsz:=HSZ.out.2.2.2.1 _ hm
         have hok:= (List.all_eq_true.1 okno _ hm)
         generalize os[j]=x at hcc hm htk hsz hok
         rename_i s_;obtain ⟨s,rfl⟩:∃s,s=x:=⟨_,rfl⟩
         try dsimp only at hsz hok
         replace hcc:∀i_ u_,([.string s]:List Value)[i_]?=some u_→wr.cell? ⟨b1,o1+j * 1+i_,none⟩=some u_:=fun i_ u_ h_=>Atv.kept (hcc i_ u_ h_) HG.out
         have q0:wr.cell? ⟨b1,o1+j,none⟩=some (.string s):=by simpa using hcc 0 _ rfl
         have HTK:=Lib.hid htk
         clear hcc hm htk
         have hs1:=idn_len hok
         have hs2:s.size≤32:=hs1
         obtain ⟨OB,hOB⟩:∃t:ByteArray,⟨O.toArray⟩=t:=⟨_,rfl⟩
         have lOB:OB.size≤10000:=by rw [← hOB,lsz];omega
         have HNL:Hid (fOs XD (os.take (j+1))=lnO O s):=Lib.hid (by rw [HO.out];exact fold_snoc HTK.out)
         obtain ⟨N,hN⟩:∃t,lnO O s=t:=⟨_,rfl⟩
         have hNl:N.length≤O.length+60:=by
          rw [← hN,lnO]
          simp only [List.length_append,List.length_cons,List.length_nil]
          omega
         rw [hN] at HNL
         have HE:Hid (OB++⟨#[111,117,116,112,117,116,32]⟩++s++⟨#[59,10]⟩=⟨N.toArray⟩):=Lib.hid (by
          rw [← hN,← hOB,lnO]
          simp only [← str_append]
          try rfl)
         rw [hOB]
         clear hN hOB
         go_wp2
         go_roundg (os.length - (j+1))
         case measure=>have:=HLT.out;omega
         case rel=>exact⟨j+1,N,by rw [HE.out],by go_num,HLT.out,rfl,by omega,Lib.hid HNL.out.symm,HG⟩
        ·obtain rfl:j=os.length:=by omega
         rw [List.take_length] at HO
         have HOD:=Lib.hid HO.out
         have hOlD:=hOl
         have HGnD:Hid (Grew w1 wr):=Lib.hid HG.out
         have hbx:=HBX.out.grew HG.out
         have r0:=hbx.cell 0
         have r1:=hbx.cell 1
         have r2:=hbx.cell 2
         have r3:=hbx.cell 3
         have r4:=hbx.cell 4
         have r5:=hbx.cell 5
         simp only [zz7,zz8] at r0 r1 r2 r3 r4 r5
         clear hbx HO hOl HG
         go_wp2
         clear r0 r1 r2 r3 r4 r5
         obtain ⟨XE,hXE⟩:∃t,O=t:=⟨_,rfl⟩
         have HXE:=Lib.hid hXE
         have lXE:XE.length≤4800:=by rw [← hXE];omega
         clear hXE
         go_loopg [3,13,103] hs.length (fun gg ov s0_ iv wr=>∃(j:Nat) (O:List UInt8),ov=.string ⟨O.toArray⟩∧iv=.int .i64 (j:Int)∧j≤hs.length∧gg=hs.length - j∧O.length≤XE.length+60 * j∧Hid (O=fHs XE (hs.take j))∧Hid (Grew w1 wr))
         case atStart=>exact⟨0,XE,by rw [← HXE.out],rfl,Nat.zero_le _,rfl,by omega,Lib.hid rfl,HGnD⟩
         case round =>
          obtain ⟨j,O,rfl,rfl,hj,rfl,hOl,HO,HG⟩:=hrel
          by_cases hlt:j < hs.length
          ·obtain ⟨b1,o1,rfl,hcc⟩:=HXH.out.getF j hlt
           have hm:=List.getElem_mem hlt
           have htk:=List.take_succ_eq_append_getElem hlt
           have HLT:=Lib.hid (Nat.succ_le_of_lt hlt)
           have hsz:=HSZ.out.2.2.2.2 _ hm
           have hok:=okH_of (List.all_eq_true.1 okh _ hm)
           generalize hs[j]=x at hcc hm htk hsz hok
           obtain ⟨s,z,q⟩:=x
           try dsimp only at hsz hok
           replace hcc:∀i_ u_,([.string s,.int .i64 z,.int .i64 q]:List Value)[i_]?=some u_→wr.cell? ⟨b1,o1+j * 3+i_,none⟩=some u_:=fun i_ u_ h_=>Atv.kept (hcc i_ u_ h_) HG.out
           have q0:wr.cell? ⟨b1,o1+j * 3,none⟩=some (.string s):=by simpa using hcc 0 _ rfl
           have q1:wr.cell? ⟨b1,o1+j * 3+1,none⟩=some (.int .i64 z):=hcc 1 _ rfl
           have q2:wr.cell? ⟨b1,o1+j * 3+2,none⟩=some (.int .i64 q):=hcc 2 _ rfl
           have HTK:=Lib.hid htk
           clear hcc hm htk
           have hsi:=idn_len hok.1
           have hs2:s.size≤32:=hsi
           have hs3:s.data.size≤32:=hsi
           have lz:=numZ_len (z:=z) (by omega)
           go_upto_region 32 with fail
           have hb1:Blk wr.heap.size [.string s,.int .i64 z,.int .i64 q] 64 (wr.alloc (Obj.cells #[.string s,.int .i64 z,.int .i64 q] 64)):=Blk.new wr _ _
           have hgV:Grew w1 (wr.alloc (Obj.cells #[.string s,.int .i64 z,.int .i64 q] 64)):=HG.out.alloc _
           generalize (wr.alloc (Obj.cells #[.string s,.int .i64 z,.int .i64 q] 64))=V at hb1 hgV ⊢
           generalize wr.heap.size=T at hb1 ⊢
           have HGV:=Lib.hid hgV
           have hbd:=hb1.grew (Grew.refl V).drw
           have d0:Atv ⟨T,0,none⟩ (.string s) V.drew:=hbd.atv 0 rfl
           have d1:Atv ⟨T,1,none⟩ (.int .i64 z) V.drew:=hbd.atv 1 rfl
           clear hb1 hbd hgV q0 q1 q2 HG
           refine wp_grew_tail 11 [some 107,some 108,some 109,some 110,some 111,some 112,some 113,some 114,some 115,some 116,some 117] [Zf,Zf,Zf,Zf,Zf,Zf,Zf,Zf,Zf,Zf,Zf,Zf,Zf,Zf,Zf,Zf,Zf,Zf,Zf,Zf,Zf,Zf,Zf,Zf,Zf,Zf,Zf,Zf,Zf,Zf,Zf,Zf,Zf,Zf,Zf,Zf,Zf,Zf,Zf,Zf,Zf,Zf,Zf,Zf,Zf,Zf,Zf,Zf,Zf,Zf,Zf,Zf,Zf,Zf,Zf,Zf,Zf,Zf,Zf,Zf,Zf,Zf,Zf,Zf,Zf,Zf,Zf,Zf,Zf,Zf,Zf,Zf,Zf,Zf,Zf,Zf,Zf,Zf,Zf,Zf,Zf,Zf,Zf,Zf,Zf,Zf,Zf,Zf,Zf,Zf,Zf,Zf,Zf,Zf,Zf,Zf,Zf,Zf,Zf,Zf,Zf,Zf,Zf,Zf,Zf,Zf,Zf,Zt,Zt,Zt,Zt,Zt,Zt,Zt,Zt,Zt,Zt,Zt,Zf,Zf,Zf,Zf,Zf,Zf,Zf,Zf,Zf,Zf,Zf,Zf,Zf,Zf] [fun v _=>v=.string ⟨(O).toArray⟩,fun v _=>v=.string ⟨((O)++([99,104,97,110,110,101,108,32])).toArray⟩,fun v _=>v=.pointer (some ⟨T,0,none⟩),fun v _=>v=.string ⟨(s.data.toList).toArray⟩,fun v _=>v=.string ⟨(((O)++([99,104,97,110,110,101,108,32]))++(s.data.toList)).toArray⟩,fun v _=>v=.string ⟨((((O)++([99,104,97,110,110,101,108,32]))++(s.data.toList))++([91])).toArray⟩,fun v _=>v=.pointer (some ⟨T,1,none⟩),fun v _=>v=.int .i64 (z),fun v _=>v=.string ⟨(numZ z).toArray⟩,fun v _=>v=.string ⟨(((((O)++([99,104,97,110,110,101,108,32]))++(s.data.toList))++([91]))++(numZ z)).toArray⟩,fun v _=>v=.string ⟨((((((O)++([99,104,97,110,110,101,108,32]))++(s.data.toList))++([91]))++(numZ z))++([93,59,10])).toArray⟩] (by kernel_rfl) (by kernel_rfl) (by kernel_rfl) rfl ?_ ⟨?_,?_,?_,?_,?_,?_,?_,?_,?_,?_,?_,trivial⟩ ?_
           ·exact⟨Zi,Zi,Zi,Zi,Zi,Zi,Zi,Zi,Zi,Zi,Zi,trivial⟩
           ·intro u w hR hd;exact runs_mv (ev rfl) Zr
           ·intro u w hR hd;exact rn_cat_9 (ev (hd.1 rfl)) rfl (by first | omega | (simp <;> omega)) Zr
           ·intro u w hR hd;exact rn_fld_64_0 (ev rfl) Zr
           ·intro u w hR hd;exact rn_ld_9 (ev (hd.1 rfl)) (d0.kept hR) Zr
           ·intro u w hR hd;exact rn_cat_9 (ev (hd.1 rfl)) (ev (hd.2.1 rfl)) (by first | omega | (simp <;> omega)) Zr
           ·intro u w hR hd;exact rn_cat_9 (ev (hd.1 rfl)) rfl (by first | omega | (simp <;> omega)) Zr
           ·intro u w hR hd;exact rn_fld_64_1 (ev rfl) Zr
           ·intro u w hR hd;exact rn_ld_3 (ev (hd.1 rfl)) (d1.kept hR) Zr
           ·intro u w hR hd;exact runs_c1 enters_nm (ev (hd.1 rfl)) (callp (fun _ e=>e) ((numz_any z (by omega) _).mono fun e w9 h=>(⟨h.1,h.2 ▸ Grew.refl _⟩)))
           ·intro u w hR hd;exact rn_cat_9 (ev (hd.1 rfl)) (ev (hd.2.1 rfl)) (by first | omega | (simp <;> omega)) Zr
           ·intro u w hR hd;exact rn_cat_9 (ev (hd.1 rfl)) rfl (by first | omega | (simp <;> omega)) Zr
           ·intro u w4 hR hh
            have he:u 117=.string ⟨((((((O)++([99,104,97,110,110,101,108,32]))++(s.data.toList))++([91]))++(numZ z))++([93,59,10])).toArray⟩:=hh 10 (by decide)
            refine wpAny_one (i:=11) (some 3) (by kernel_rfl) rfl rfl rfl (runs_mva (ev he) ?_)
            refine wpAny_done (by kernel_rfl) ?_ _
            simp only [zz1,zz2,zz3,Act.put,mixA,mixL,zz9,zz0,zz4,zz5,zz6]
            have HG4:Hid (Grew w1 w4):=Lib.hid (HGV.out.trans ((Grew.refl V).drw.trans hR))
            clear hh he hR d0 d1
            have HNL:Hid (fHs XE (hs.take (j+1))=lnH O s z):=Lib.hid (by rw [HO.out];exact fold_snoc HTK.out)
            obtain ⟨N,hN⟩:∃t,lnH O s z=t:=⟨_,rfl⟩
            have hNl:N.length≤O.length+60:=by rw [← hN,lnH];simp only [List.length_append,List.length_cons,List.length_nil];omega
            rw [hN] at HNL
            rw [show ((((((O)++([99,104,97,110,110,101,108,32]))++(s.data.toList))++([91]))++(numZ z))++([93,59,10]))=N from hN]
            go_wp2
            go_roundg (hs.length - (j+1))
            case measure=>have:=HLT.out;omega
            case rel=>exact⟨j+1,N,rfl,by go_num,HLT.out,rfl,by omega,Lib.hid HNL.out.symm,HG4⟩
          ·obtain rfl:j=hs.length:=by omega
           rw [List.take_length] at HO
           have HOE:=Lib.hid HO.out
           have hOlE:=hOl
           have HGnE:Hid (Grew w1 wr):=Lib.hid HG.out
           have hbx:=HBX.out.grew HG.out
           have r0:=hbx.cell 0
           have r1:=hbx.cell 1
           have r2:=hbx.cell 2
           have r3:=hbx.cell 3
           have r4:=hbx.cell 4
           have r5:=hbx.cell 5
           simp only [zz7,zz8] at r0 r1 r2 r3 r4 r5
           clear hbx HO hOl HG
           go_wp2
           clear r0 r1 r2 r3 r4 r5
           obtain ⟨XF,hXF⟩:∃t,O=t:=⟨_,rfl⟩
           have HXF:=Lib.hid hXF
           have lXF:XF.length≤6000:=by rw [← hXF];omega
           clear hXF
           go_loopg [3,15,122] ts.length (fun gg ov bv iv wr=>∃(j:Nat) (O:List UInt8),ov=.string ⟨O.toArray⟩∧iv=.int .i64 (j:Int)∧j≤ts.length∧gg=ts.length - j∧O.length≤XF.length+2000000 * j∧Hid (O=fTs XF (ts.take j))∧Hid (Grew w1 wr))
           case atStart=>exact⟨0,XF,by rw [← HXF.out],rfl,Nat.zero_le _,rfl,by omega,Lib.hid rfl,HGnE⟩
           case round =>
            obtain ⟨j,O,rfl,rfl,hj,rfl,hOl,HO,HG⟩:=hrel
            by_cases hlt:j < ts.length
            ·have hokt:=List.all_eq_true.1 okt _ (List.getElem_mem hlt)
             have hzm:=zT_mem (List.getElem_mem hlt)
             have hdm:=dT_mem (List.getElem_mem hlt)
             obtain ⟨ba,oa,pba,cba,rfl,hba,hboa,hca⟩:=HXT.out.get j hlt
             have hma:=List.getElem_mem hlt
             have hta:=List.take_succ_eq_append_getElem hlt
             have HLa:=Lib.hid (Nat.succ_le_of_lt hlt)
             generalize ts[j]=xa at *
             obtain ⟨sa,ia,da,ha,ma,na,ya,qa⟩:=xa
             replace hba:sa.size≤1048576∧ha.size≤1048576∧ma.size≤1048576:=hba.2
             have HTa:=Lib.hid hta
             have HYa:Hid (SL B w1 pba cba ya):=Lib.hid hboa
             have hcapa:ya.length≤cba:=hboa.cap.1
             have hmaxa:=hboa.cap.2.1
             replace hca:∀i_ u_,(tdc ⟨sa,ia,da,ha,ma,na,pba,ya.length,cba,qa⟩)[i_]?=some u_→wr.cell? ⟨ba,oa+j * 8+i_,none⟩=some u_:=fun i_ u_ h_=>Atv.kept (hca i_ u_ h_) HG.out
             have ca0:wr.cell? ⟨ba,oa+j * 8,none⟩=some (.string sa):=by simpa using hca 0 _ rfl
             have ca1:wr.cell? ⟨ba,oa+j * 8+1,none⟩=some (.int .i64 ia):=hca 1 _ rfl
             have ca2:wr.cell? ⟨ba,oa+j * 8+2,none⟩=some (.int .i64 da):=hca 2 _ rfl
             have ca3:wr.cell? ⟨ba,oa+j * 8+3,none⟩=some (.string ha):=hca 3 _ rfl
             have ca4:wr.cell? ⟨ba,oa+j * 8+4,none⟩=some (.string ma):=hca 4 _ rfl
             have ca5:wr.cell? ⟨ba,oa+j * 8+5,none⟩=some (.int .i64 na):=hca 5 _ rfl
             have ca6:wr.cell? ⟨ba,oa+j * 8+6,none⟩=some (.slice pba ya.length cba):=hca 6 _ rfl
             have ca7:wr.cell? ⟨ba,oa+j * 8+7,none⟩=some (.int .i64 qa):=hca 7 _ rfl
             clear hca hboa hta
             replace hzm:nSs ya+mSs ya≤zT ts:=hzm
             replace hdm:dSs ya≤dT ts:=hdm
             have htl:=tskT_len ⟨sa,ia,da,ha,ma,na,ya,qa⟩ hokt HYa.out.fit (by show 4+4 * dSs ya≤400;omega)
             replace htl:(tskT ⟨sa,ia,da,ha,ma,na,ya,qa⟩).length≤3000 * nSs ya+64 * mSs ya+400:=htl
             have HTA:=Lib.hid (fun W (hW:Grew w1 W)=>(show Calls Tryz.prog 47 #[tv sa ia da ha ma na pba ya.length cba qa] W fun e w'=>e=.returned (.string ⟨(tskT ⟨sa,ia,da,ha,ma,na,ya,qa⟩).toArray⟩)∧Grew W w' from task_any sa ia da ha ma na ya qa B W pba cba hokt (by omega) (by omega) (by omega) (HYa.out.kept hW)))
             have HNL:Hid (fTs XF (ts.take (j+1))=O++tskT ⟨sa,ia,da,ha,ma,na,ya,qa⟩):=Lib.hid (by rw [HO.out];exact fold_snoc HTa.out)
             obtain ⟨U,hU⟩:∃t,tskT ⟨sa,ia,da,ha,ma,na,ya,qa⟩=t:=⟨_,rfl⟩
             rw [hU] at HNL HTA htl
             have lU:(⟨U.toArray⟩:ByteArray).size≤2000000:=by rw [lsz];omega
             have lO:(⟨O.toArray⟩:ByteArray).size≤100000000:=by rw [lsz];omega
             have HE:Hid ((⟨O.toArray⟩:ByteArray)++⟨U.toArray⟩=⟨(O++U).toArray⟩):=Lib.hid (str_append _ _)
             have hUl:(O++U).length≤XF.length+2000000 * (j+1):=by rw [List.length_append];omega
             have HUL:=Lib.hid hUl
             generalize (⟨U.toArray⟩:ByteArray)=UB at HE HTA lU
             obtain ⟨OB,hOB⟩:∃t:ByteArray,⟨O.toArray⟩=t:=⟨_,rfl⟩
             rw [hOB] at lO HE ⊢
             clear hma hzm hdm hokt htl hU hUl hOB
             go_wp2_with (go_at_call 47;(with_reducible refine(HTA.out _ (HG.out.alloc _)).mono ?_);rintro e w6 ⟨rfl,g6⟩;have HG6:=Lib.hid ((HG.out.alloc _).trans g6);clear g6)
             go_roundg (ts.length - (j+1))
             case measure=>have:=HLa.out;omega
             case rel=>exact⟨j+1,O++U,by rw [HE.out],by go_num,HLa.out,rfl,HUL.out,Lib.hid HNL.out.symm,HG6⟩
            ·obtain rfl:j=ts.length:=by omega
             rw [List.take_length] at HO
             go_wp2
             go_ret
             refine⟨?_,HG0.out.trans HG.out⟩
             show Ending.returned (.string _)=_
             rw [HO.out,← HXF.out,HOE.out,← HXE.out,HOD.out,← HXD.out,HOC.out,← HXC_.out,HOB.out,← HXB.out,HOA.out,← HXA.out]
             rfl

end Go.Proofs.YtcknpcbkofgdoaaGreatDoor
namespace Go.Proofs.YtcknpcbkofgdoaaGreatDoor
open Go Go.RowKit Go.IntWalk
set_option linter.unusedSimpArgs false
set_option linter.unusedVariables false
set_option maxRecDepth 8000
def eqH (kx:Int) (sx:ByteArray) (vx ox:Int) (nx:Nat) (ky:Int) (sy:ByteArray) (vy oy:Int) (ny:Nat):Bool:=!((((((kx) != (ky))||(!decide ((sx)=(sy))))||((vx) != (vy)))||((ox) != (oy)))||((((nx:Nat):Int)) != (((ny:Nat):Int))))
mutual
def eqX:Xp→Xp→Bool
 | ⟨k,s,v,o,ar,_⟩,⟨k',s',v',o',ar',_⟩=>eqH k s v o ar.length k' s' v' o' ar'.length&&eqXs ar ar'
def eqXs:List Xp→List Xp→Bool
 | x :: xs,y :: ys=>eqX x y&&eqXs xs ys
 | _,_=>true
end
end Go.Proofs.YtcknpcbkofgdoaaGreatDoor
namespace Go.Proofs.YtcknpcbkofgdoaaGreatDoor
open Go Go.RowKit Go.IntWalk
set_option linter.unusedSimpArgs false
set_option linter.unusedVariables false
set_option maxRecDepth 8000
def eqHS (ka:Int) (sa:ByteArray) (na:Int) (na_:Nat) (kb:Int) (sb:ByteArray) (nb:Int) (nb_:Nat) (m1 m2:Bool):Bool:=!(((((((ka) != (kb))||(!decide ((sa)=(sb))))||((na) != (nb)))||((((na_:Nat):Int)) != (((nb_:Nat):Int))))||(!(m1)))||(!(m2)))
mutual
def eqS:Sm→Sm→Bool
 | ⟨k,s,n,ar,b,e,_⟩,⟨k',s',n',ar',b',e',_⟩=>eqHS k s n ar.length k' s' n' ar'.length (decide (b.length=b'.length)&&eqSz b b') (decide (e.length=e'.length)&&eqSz e e')&&eqXs ar ar'
def eqSz:List Sm→List Sm→Bool
 | x :: xs,y :: ys=>eqS x y&&eqSz xs ys
 | _,_=>true
end
def eqSs (a b:List Sm):Bool:=decide (a.length=b.length)&&eqSz a b
theorem eqS_eq (k n q k' n' q':Int) (s s':ByteArray) (ar ar':List Xp) (b e b' e':List Sm):eqS ⟨k,s,n,ar,b,e,q⟩ ⟨k',s',n',ar',b',e',q'⟩=(eqHS k s n ar.length k' s' n' ar'.length (eqSs b b') (eqSs e e')&&eqXs ar ar'):=by rw [eqS];rfl
end Go.Proofs.YtcknpcbkofgdoaaGreatDoor
namespace Go.Proofs.YtcknpcbkofgdoaaGreatDoor
open Go Go.RowKit Go.IntWalk
set_option linter.unusedSimpArgs false
set_option linter.unusedVariables false
set_option maxRecDepth 8000
theorem format_any (P:Pg) (B:Nat→Prop) (w:World) (cp gp sp op hp tp:Option Addr) (cc gc sc oc hc tc:Nat) (hB:∀b,B b→b < w.heap.size) (hpg:PgIn B w P cp gp sp op hp tp cc gc sc oc hc tc) (hsm:smallP P=true) :
 Calls Tryz.prog 14 #[pgv P cp gp sp op hp tp cc gc sc oc hc tc] w fun e w'=>e=.returned (.string (if okP P=true then ⟨(fmT P).toArray⟩ else ⟨#[]⟩))∧Grew w w':=by
 cases hok:okP P with
 | true=>rw [if_pos rfl];exact format_ok P B w cp gp sp op hp tp cc gc sc oc hc tc hB hpg hok hsm
 | false =>
   rw [if_neg (by simp)]
   obtain ⟨hcaps,hmaxs⟩:=hpg.caps
   simp only [smallP,Bool.and_eq_true,decide_eq_true_eq] at hsm
   have HWF:=Lib.hid (fun W (hW:Grew w W)=>hok ▸ wf_any P B W cp gp sp op hp tp cc gc sc oc hc tc (fun b hb=>Nat.lt_of_lt_of_le (hB b hb) hW.sz) (hpg.kept hW) (by omega))
   obtain ⟨cs,gs,ss,os,hs,ts⟩:=P
   dsimp only at hcaps ⊢
   clear hpg hB hok
   go_enter Tryz.func14,Tryz.ntmps14
   go_wp2_with (go_at_call 19;(with_reducible refine(HWF.out _ ((Grew.refl w).alloc _)).mono ?_);rintro e w2 ⟨rfl,g2⟩;have HG2:=Lib.hid (((Grew.refl w).alloc _).trans g2);clear g2)
   go_ret
   exact⟨rfl,HG2.out⟩
set_option maxHeartbeats 4000000 in
theorem expr_any (x:Xp) (B:Nat→Prop) (w:World) (p:Option Addr) (c:Nat) (hz:x.s.size≤1048576∧x.v≤32767) (hx:XL B w p c x.ar) (hn:nX x≤1048576) :
 Calls Tryz.prog 17 #[xv x.k x.s x.v x.o p x.ar.length c x.q] w fun e w'=>e=.returned (.string (if okX x=true then ⟨(txX x).toArray⟩ else ⟨#[]⟩))∧Grew w w':=by
 have HO:=Lib.hid (fun W (hW:Grew w W)=>exok_any x B W p c hz.1 (hx.kept hW))
 have hcap:=hx.cap
 cases hok:okX x with
 | true =>
   rw [if_pos rfl]
   have HT:=Lib.hid (fun W (hW:Grew w W)=>text_any x B W p c hz (hx.kept hW) hok hn)
   rw [hok] at HO
   have hlen:=txX_len x hok (XL.fitX hz.2 hx)
   obtain ⟨T,hT⟩:∃T:ByteArray,⟨(txX x).toArray⟩=T:=⟨_,rfl⟩
   rw [hT] at HT ⊢
   obtain ⟨k,s,v,o,ar,q⟩:=x
   dsimp only [Xp.k,Xp.s,Xp.v,Xp.o,Xp.ar,Xp.q] at HT HO hcap ⊢
   clear hx hok hn hz hT hlen
   go_enter Tryz.func17,Tryz.ntmps17
   go_wp2_with (first
    | (go_at_call 50;(with_reducible refine(HO.out _ ((Grew.refl w).alloc _)).mono ?_);rintro e w1 ⟨rfl,g1⟩;have HG1:=Lib.hid (((Grew.refl w).alloc _).trans g1);have hbx:=(Blk.new w [.int .i64 k,.string s,.int .i16 v,.int .i64 o,.slice p ar.length c,.int .i64 q] 35).grew g1;have r0:=hbx.cell 0;have r1:=hbx.cell 1;have r2:=hbx.cell 2;have r3:=hbx.cell 3;have r4:=hbx.cell 4;have r5:=hbx.cell 5;simp only [zz7,zz8] at r0 r1 r2 r3 r4 r5;clear g1 hbx)
    | (go_at_call 51;(with_reducible refine(HT.out _ HG1.out).mono ?_);rintro e w2 ⟨rfl,g2⟩;have HG2:=Lib.hid (HG1.out.trans g2);clear g2))
   go_ret
   exact⟨rfl,HG2.out⟩
 | false =>
   rw [if_neg (by simp)]
   rw [hok] at HO
   obtain ⟨k,s,v,o,ar,q⟩:=x
   dsimp only [Xp.k,Xp.s,Xp.v,Xp.o,Xp.ar,Xp.q] at HO hcap ⊢
   clear hx hok hn hz
   go_enter Tryz.func17,Tryz.ntmps17
   go_wp2_with (go_at_call 50;(with_reducible refine(HO.out _ ((Grew.refl w).alloc _)).mono ?_);rintro e w1 ⟨rfl,g1⟩;have HG1:=Lib.hid (((Grew.refl w).alloc _).trans g1);clear g1)
   go_ret
   exact⟨rfl,HG1.out⟩
end Go.Proofs.YtcknpcbkofgdoaaGreatDoor
namespace Go.Proofs.YtcknpcbkofgdoaaGreatDoor
open Go Go.RowKit Go.IntWalk
set_option linter.unusedSimpArgs false
set_option linter.unusedVariables false
set_option maxRecDepth 8000
section
variable {dst:Option Tmp}{ty:TypeId}{pos:String}{after:Array Edge}{g:Option (Nat × Bool)}{a:Act}{w:World}{T:Value→World→Prop}
theorem rn_fld_49_0 {x:Operand}{S o:Nat}(hx:a.eval x=.pointer (some ⟨S,o,none⟩)) (h:T (.pointer (some ⟨S,o,none⟩)) w):Runs Tryz.prog ⟨dst,.fieldAddr 49 x 0,ty,pos,after,g⟩ a w T:=by
 refine Runs.value (v:=.pointer (some ⟨S,o,none⟩)) (w':=w) ?_ h
 simp only [execOp,hx]
 go_simp
end
end Go.Proofs.YtcknpcbkofgdoaaGreatDoor
namespace Go.Proofs.YtcknpcbkofgdoaaGreatDoor
open Go Go.RowKit Go.IntWalk
set_option linter.unusedSimpArgs false
set_option linter.unusedVariables false
set_option maxRecDepth 8000
section
variable {dst:Option Tmp}{ty:TypeId}{pos:String}{after:Array Edge}{g:Option (Nat × Bool)}{a:Act}{w:World}{T:Value→World→Prop}
theorem rn_idx_24 {x y:Operand}{b o n c:Nat}(i:Nat) (hx:a.eval x=.slice (some ⟨b,o,none⟩) n c) (hy:a.eval y=.int .i64 (i:Int)) (hi:i < n) (h:T (.pointer (some ⟨b,o+i,none⟩)) w):Runs Tryz.prog ⟨dst,.indexAddr 24 x y,ty,pos,after,g⟩ a w T:=by
 have hi2:(i:Int) < (n:Int):=by omega
 refine Runs.value (v:=.pointer (some ⟨b,o+i,none⟩)) (w':=w) ?_ h
 simp only [execOp,hx,hy]
 go_simp
end
end Go.Proofs.YtcknpcbkofgdoaaGreatDoor
namespace Go.Proofs.YtcknpcbkofgdoaaGreatDoor
open Go
open Go.Lib (decDigits)
set_option linter.unusedSimpArgs false
set_option linter.unusedVariables false
set_option maxRecDepth 8000
def HN (p:UInt8→Bool):List UInt8→Bool
 | []=>true
 | c :: _=>!p c
def one (c:UInt8):Bool:=[40,41,91,93,59,123,125,45].contains c
theorem o15 {o:Int}(h:3≤o∧o≤15):o=3∨o=4∨o=5∨o=6∨o=7∨o=8∨o=9∨o=10∨o=11∨o=12∨o=13∨o=14∨o=15:=by omega
def opdK (least k o:Int) (t:List (List UInt8)):List (List UInt8):=if lvX k o < least then [40] :: (t++[[41]]) else t
def asmK (k:Int) (s:ByteArray) (v o:Int) (hs:List (Int × Int)) (ts:List (List (List UInt8))):List (List UInt8) :=
 if k=1 then [numZ v] else if k=3 then s.data.toList :: [91] :: (ts.getD 0 []++[[93]]) else if k=4 then [[114,101,97,100],[40],s.data.toList,[41]]
 else if k=5 then sgT o :: opdK 6 (hs.getD 0 (0,0)).1 (hs.getD 0 (0,0)).2 (ts.getD 0 [])
 else if k=6 then opdK (lfT o) (hs.getD 0 (0,0)).1 (hs.getD 0 (0,0)).2 (ts.getD 0 [])++sgT o :: opdK (lvT o+1) (hs.getD 1 (0,0)).1 (hs.getD 1 (0,0)).2 (ts.getD 1 [])
 else [s.data.toList]
mutual
def tkX:Xp→List (List UInt8)
 | ⟨k,s,v,o,ar,_⟩=>asmK k s v o (ar.map fun a=>(a.k,a.o)) (tkXs ar)
def tkXs:List Xp→List (List (List UInt8))
 | []=>[]
 | x :: xs=>tkX x :: tkXs xs
end
def agK (ar:List Xp) (i:Nat):List (List UInt8):=(tkXs ar).getD i []
theorem ag0 (a:Xp) (l:List Xp):agT (a :: l) 0=txX a∧agK (a :: l) 0=tkX a:=by
 rw [agT,agK,txXs,tkXs];exact⟨rfl,rfl⟩
theorem ag1 (a b:Xp) (l:List Xp):agT (a :: b :: l) 1=txX b∧agK (a :: b :: l) 1=tkX b:=by
 rw [agT,agK,txXs,tkXs,txXs,tkXs];exact⟨rfl,rfl⟩
theorem ok1 {a:Xp}{l:List Xp}(h:okXs (a :: l)=true):okX a=true:=by rw [okXs,Bool.and_eq_true] at h;exact h.1
theorem ok2 {a b:Xp}{l:List Xp}(h:okXs (a :: b :: l)=true):okX b=true:=by rw [okXs,okXs,Bool.and_eq_true,Bool.and_eq_true] at h;exact h.2.1
end Go.Proofs.YtcknpcbkofgdoaaGreatDoor
namespace Go.Proofs.YtcknpcbkofgdoaaGreatDoor
open Go
open Go.Lib (decDigits)
set_option linter.unusedSimpArgs false
set_option linter.unusedVariables false
set_option maxRecDepth 8000
def okN (t:List UInt8):Bool:=decide (dval 0 t≤32767)&&!(decide (1 < t.length)&&t.head?==some 48)
def kdT (t:List UInt8):Int:=match t with
 | []=>5
 | c :: r=>if ltr c=true then (if kwT.contains (c :: r)=true then 3 else if (c :: r).length≤32 then 1 else 5) else if dig c=true then (if okN (c :: r)=true then 2 else 5) else if mkl (c :: r)=0 then 5 else 4
structure Kz (T:Type) where
 tx:T→List UInt8
 kn:T→Int
 vl:T→Int
 ps:T→Int
structure Kz.Good {T:Type}(Z:Kz T):Prop where
 kn:∀t,Z.kn t=kdT (Z.tx t)
 vl:∀t,Z.kn t=2→Z.vl t=(dval 0 (Z.tx t):Nat)
abbrev Ro (T α:Type):=Except (List T) (α × List T)
def bd {T α β:Type}(x:Ro T α) (f:α→List T→Ro T β):Ro T β:=match x with
 | .ok (a,r)=>f a r
 | .error e=>.error e
def opF (u:List UInt8):Option Int:=([3,4,5,6,7,8,9,10,11,12,13,14,15]:List Int).find? (fun o=>sgT o==u)
def Ev {α:Type}(f:Nat→α) (v:α):Prop:=∃n,∀m,n≤m→f m=v
section
variable {α β T:Type}
theorem Ev.pure (v:α):Ev (fun _=>v) v:=⟨0,fun _ _=>rfl⟩
theorem Ev.one {f:Nat→α}{v v':α}(h:Ev f v) (h':Ev f v'):v=v':=by
 obtain ⟨n,h⟩:=h
 obtain ⟨n',h'⟩:=h'
 rw [← h (n+n') (by omega),h' (n+n') (by omega)]
theorem Ev.succ {f g:Nat→α}{v:α}(e:∀m,f (m+1)=g m) (h:Ev g v):Ev f v:=by
 obtain ⟨n,h⟩:=h
 refine⟨n+1,fun m hm=>?_⟩
 obtain ⟨k,rfl⟩:∃k,m=k+1:=⟨m - 1,by omega⟩
 rw [e,h k (by omega)]
theorem Ev.pred {f g:Nat→α}{v:α}(e:∀m,f (m+1)=g m) (h:Ev f v):Ev g v:=by
 obtain ⟨n,h⟩:=h
 exact⟨n,fun m hm=>by rw [← e,h (m+1) (by omega)]⟩
theorem Ev.bd {g:Nat→Ro T α}{k:Nat→α→List T→Ro T β}{a:α}{r:List T}{v:Ro T β}(h:Ev g (.ok (a,r))) (h':Ev (fun m=>k m a r) v):Ev (fun m=>Go.Proofs.YtcknpcbkofgdoaaGreatDoor.bd (g m) (k m)) v:=by
 obtain ⟨n,h⟩:=h
 obtain ⟨n',h'⟩:=h'
 refine⟨n+n',fun m hm=>?_⟩
 show Go.Proofs.YtcknpcbkofgdoaaGreatDoor.bd (g m) (k m)=v
 rw [h m (by omega)]
 exact h' m (by omega)
theorem Ev.congr {f g:Nat→α}{v:α}(e:∀m,f m=g m) (h:Ev g v):Ev f v:=by
 obtain ⟨n,h⟩:=h
 exact⟨n,fun m hm=>by rw [e,h m hm]⟩
end
section
variable {T:Type}(Z:Kz T)
def isT (u:List UInt8):List T→Bool
 | t :: _=>Z.tx t==u
 | []=>false
def tkT (u:List UInt8):List T→Ro T T
 | t :: r=>if Z.tx t=u then .ok (t,r) else .error (t :: r)
 | []=>.error []
def idT:List T→Ro T T
 | t :: r=>if Z.kn t=1 then .ok (t,r) else .error (t :: r)
 | []=>.error []
abbrev nmT (t:T):ByteArray:=⟨(Z.tx t).toArray⟩
inductive Md where
 | prim
 | unar
 | expr (l:Int)
 | loop (l:Int) (x:Xp)
def rd:Nat→Md→List T→Ro T Xp
 | 0,_,ts=>.error ts
 | _+1,.prim,[]=>.error []
 | n+1,.prim,t :: r =>
   if Z.kn t=2 then .ok (⟨1,⟨#[]⟩,Z.vl t,0,[],Z.ps t⟩,r)
   else if Z.kn t=1 then
    (if isT Z [91] r=true then bd (tkT Z [91] r) fun _ r=>bd (rd n (.expr 1) r) fun x r=>bd (tkT Z [93] r) fun _ r=>.ok (⟨3,nmT Z t,0,0,[x],Z.ps t⟩,r)
    else .ok (⟨2,nmT Z t,0,0,[],Z.ps t⟩,r))
   else if Z.tx t=[114,101,97,100] then bd (tkT Z [40] r) fun _ r=>bd (idT Z r) fun s r=>bd (tkT Z [41] r) fun _ r=>.ok (⟨4,nmT Z s,0,0,[],Z.ps t⟩,r)
   else bd (tkT Z [40] (t :: r)) fun _ r=>bd (rd n (.expr 1) r) fun x r=>bd (tkT Z [41] r) fun _ r=>.ok (x,r)
 | _+1,.unar,[]=>.error []
 | n+1,.unar,t :: r =>
   if Z.tx t=[45] then bd (rd n .unar r) fun x r=>.ok (⟨5,⟨#[]⟩,0,1,[x],Z.ps t⟩,r)
   else if Z.tx t=[33] then bd (rd n .unar r) fun x r=>.ok (⟨5,⟨#[]⟩,0,2,[x],Z.ps t⟩,r)
   else rd n .prim (t :: r)
 | n+1,.expr l,ts=>if 5 < l then rd n .unar ts else bd (rd n (.expr (l+1)) ts) fun x r=>rd n (.loop l x) r
 | _+1,.loop _ x,[]=>.ok (x,[])
 | n+1,.loop l x,t :: r=>match opF (Z.tx t) with
   | none=>.ok (x,t :: r)
   | some o=>if lvT o=l then bd (rd n (.expr (l+1)) r) fun y r=>(if l=3 then .ok (⟨6,⟨#[]⟩,0,o,[x,y],Z.ps t⟩,r) else rd n (.loop l ⟨6,⟨#[]⟩,0,o,[x,y],Z.ps t⟩) r) else .ok (x,t :: r)
def Fo (l:Int) (r:List T):Prop:=∀t r',r=t :: r'→Z.tx t≠[91]∧∀o,opF (Z.tx t)=some o→lvT o < l∨(lvT o=l∧l≠3)
def Es (ts:List T) (x:Xp) (l:Int):Prop:=∀r v,Fo Z l r→Ev (fun n=>rd Z n (.loop l x) r) v→Ev (fun n=>rd Z n (.expr l) (ts++r)) v
variable {Z}
theorem opF_lv {u:List UInt8}{o:Int}(h:opF u=some o):3≤o∧o≤15∧1≤lvT o∧lvT o≤5:=by
 have h1:=List.mem_of_find?_eq_some h
 have h2:∀o ∈ ([3,4,5,6,7,8,9,10,11,12,13,14,15]:List Int),3≤o∧o≤15∧1≤lvT o∧lvT o≤5:=by decide
 exact h2 o h1
theorem opF_sg {o:Int}(h:3≤o∧o≤15):opF (sgT o)=some o∧sgT o≠[91]:=by
 rcases o15 h with rfl | rfl | rfl | rfl | rfl | rfl | rfl | rfl | rfl | rfl | rfl | rfl | rfl <;> decide
theorem Fo.up {l m:Int}{r:List T}(h:Fo Z l r) (hm:l < m):Fo Z m r:=fun t r' e=>⟨(h t r' e).1,fun o ho=>by have:=(h t r' e).2 o ho;omega⟩
theorem Fo.of {l:Int}{t:T}{r:List T}(h:Z.tx t≠[91]) (ho:opF (Z.tx t)=none):Fo Z l (t :: r):=fun t' r' e=>by
 obtain ⟨rfl,rfl⟩:=List.cons.inj e
 exact⟨h,fun o h'=>by rw [ho] at h';cases h'⟩
theorem Fo.is {l:Int}{r:List T}(h:Fo Z l r):isT Z [91] r=false:=by
 match r,h with
 | [],_=>rfl
 | t :: r,h=>rw [isT,beq_eq_false_iff_ne];exact(h t r rfl).1
theorem loop_ok {l:Int}{x:Xp}{r:List T}(h:∀t r',r=t :: r'→∀o,opF (Z.tx t)=some o→lvT o≠l):Ev (fun n=>rd Z n (.loop l x) r) (.ok (x,r)):=by
 refine Ev.succ (g:=fun _=>.ok (x,r)) (fun m=>?_) (Ev.pure _)
 match r,h with
 | [],_=>rw [rd]
 | t :: r,h =>
   rw [rd]
   cases ho:opF (Z.tx t) with
   | none=>rfl
   | some o =>
     show (if lvT o=l then _ else _)=_
     rw [if_neg (h t r rfl o ho)]
theorem Fo.stop {l m:Int}{x:Xp}{r:List T}(h:Fo Z l r) (hm:l < m):Ev (fun n=>rd Z n (.loop m x) r) (.ok (x,r)):=loop_ok fun t r' e o ho=>by have:=(h t r' e).2 o ho;omega
theorem loop6 {x:Xp}{r:List T}:Ev (fun n=>rd Z n (.loop 6 x) r) (.ok (x,r)):=loop_ok fun t r' e o ho=>by have:=opF_lv ho;omega
theorem Es.down {ts:List T}{x:Xp}{L:Int}(h:Es Z ts x L) (hL:L≤6):∀(d:Nat) (l:Int),l+d=L→Es Z ts x l:=by
 intro d
 induction d with
 | zero =>
   intro l hl
   obtain rfl:l=L:=by omega
   exact h
 | succ d ih =>
   intro l hl r v hf hv
   have h1:=ih (l+1) (by omega) r (.ok (x,r)) (hf.up (by omega)) (hf.stop (by omega))
   refine Ev.succ (g:=fun m=>bd (rd Z m (.expr (l+1)) (ts++r)) fun x r=>rd Z m (.loop l x) r) (fun m=>by rw [rd,if_neg (by omega)]) (Ev.bd h1 hv)
theorem Es.at {ts:List T}{x:Xp}{L l:Int}(h:Es Z ts x L) (hL:L≤6) (hl:l≤L):Es Z ts x l:=h.down hL (L - l).toNat l (by omega)
theorem Es.unar {ts:List T}{x:Xp}(h:Es Z ts x 6){r:List T}(hf:Fo Z 6 r):Ev (fun n=>rd Z n .unar (ts++r)) (.ok (x,r)) :=
 Ev.pred (f:=fun n=>rd Z n (.expr 6) (ts++r)) (fun m=>by rw [rd,if_pos (by omega)]) (h r _ hf loop6)
theorem Es.whole {ts:List T}{x:Xp}(h:Es Z ts x 1){t:T}{r:List T}(h1:Z.tx t≠[91]) (ho:opF (Z.tx t)=none):Ev (fun n=>rd Z n (.expr 1) (ts++t :: r)) (.ok (x,t :: r)) :=
 h (t :: r) _ (Fo.of h1 ho) (loop_ok fun t' r' e o ho'=>by
  obtain ⟨rfl,rfl⟩:=List.cons.inj e
  rw [ho] at ho';cases ho')
variable (hZ:Z.Good)
include hZ
omit hZ in
end
end Go.Proofs.YtcknpcbkofgdoaaGreatDoor
namespace Go.Proofs.YtcknpcbkofgdoaaGreatDoor
open Go
open Go.Lib (decDigits)
set_option linter.unusedSimpArgs false
set_option linter.unusedVariables false
set_option maxRecDepth 8000
inductive Dc where
 | c (x:Cn)
 | g (x:Gl)
 | s (x:ByteArray)
 | o (x:ByteArray)
 | h (x:Cn)
 | t (x:Ta)
section
variable {T:Type}(Z:Kz T)
end
section
variable {T:Type}{Z:Kz T}(hZ:Z.Good)
include hZ
end
end Go.Proofs.YtcknpcbkofgdoaaGreatDoor
