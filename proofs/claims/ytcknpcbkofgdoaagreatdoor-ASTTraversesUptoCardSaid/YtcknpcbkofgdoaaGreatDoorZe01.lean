/-
  THE REFERENCE OF LAYER 16: all expressions of an expression (Sub).
  CONTRACTS OF LAYER 16 (ast): yieldExprs, whatever function it yields to.
  CONTRACTS OF LAYER 16 (ast): yieldStmts, whatever function it yields to.
  slices.Clone, AND A STORE INTO A ROW OF THE CALL's OWN (any program). Nothing of the program stands here.
  DECIMAL NUMERALS (any program): digits, what they spell, what strconv.ParseInt makes of them at every size, cuts at one byte. Nothing of the program stands here.
  A REGION THAT DOES NOT DRAW ITS ORDER, BY POSTS: the same claims, shown in the same way; guards may stay open, and no way is parted.
  A REGION THAT DRAWS ITS ORDER, BY POSTS, WITH SEVERAL OPERATIONS THAT WRITE (wr): the others leave the memory as it was (Rn), these change it (R); the operations that come ahead of all of them (er) know that nothing has been written yet. (Any program.)
  TREES WITHOUT POSITIONS (layer 16).
  EQUALITY OF TREES (layer 16).
  THE PLAIN LEXER OF LAYER 15: white space and comments (sk), how long the first token is (fl), its kind and value (kd, vl), the tokens of a text (scn, txs), and the joined text (jn). Nothing of the program stands here.
  WHAT IS WELL-FORMED: expressions (layer 16).
  CANONICAL TEXTS: expressions (layer 16).
  WHAT IS WELL-FORMED: statements (layer 16).
  THE REFERENCE OF LAYER 16: all statements (Stmts).
  THE REFERENCE OF LAYER 16: all expressions of statements (Exprs).
  THE REFERENCE OF LAYER 16: depths, sizes, what is small.
  CANONICAL TEXTS: statements (layer 16).
  THE REFERENCE OF LAYER 16: depthStmts.
  PROGRAMS IN MEMORY; how large they are.
  THE REFERENCE OF LAYER 16: Size.
  THE REFERENCE OF LAYER 16: Depth, Small.
  THE REFERENCE OF LAYER 16: bare, arity, ExprOK.
-/
import Derived.Test.YtcknpcbkofgdoaaGreatDoorZeShort
import Derived.Test.YtcknpcbkofgdoaaGreatDoorProg
import Derived.Test.YtcknpcbkofgdoaaGreatDoorZe00
import Derived.Deep.LoopGhost
import Derived.Deep.Cut
import Derived.RangeFuncCalls
import Derived.RangeFuncBound
import Derived.Shelf.Abstract
import Derived.Shelf.AbstractIn
import Derived.TacticsInMore
import Derived.LoopIn
import Derived.Deep.Upon
import Derived.IntWalk
import Derived.Laws.BitsAllLaws
import Derived.Lib.ItoaNum
import Derived.Lib.ItoaMem
import Derived.Lib.ParseIntB
import Derived.Lib.ItoaLen
import Derived.Lib.CutLaws
import Derived.Lib.IndexLaws
namespace Go.Proofs.YtcknpcbkofgdoaaGreatDoor
open Go Go.RowKit Go.IntWalk
set_option linter.unusedSimpArgs false
set_option linter.unusedVariables false
set_option maxRecDepth 8000
mutual
def subX:Xp→List Xp
 | ⟨k,s,v,o,ar,q⟩=>⟨k,s,v,o,ar,q⟩ :: subXs ar
def subXs:List Xp→List Xp
 | []=>[]
 | x :: xs=>subX x++subXs xs
end
theorem subXs_append:∀a b:List Xp,subXs (a++b)=subXs a++subXs b
 | [],b=>rfl
 | x :: a,b=>by rw [List.cons_append,subXs,subXs,subXs_append a b,List.append_assoc]
theorem subXs_one (x:Xp):subXs [x]=subX x:=by rw [subXs,subXs,List.append_nil]
mutual
theorem subX_len:∀x,(subX x).length=nX x
 | ⟨k,s,v,o,ar,q⟩=>by rw [subX,nX,List.length_cons,subXs_len ar]
theorem subXs_len:∀l,(subXs l).length=nXs l
 | []=>rfl
 | x :: xs=>by rw [subXs,nXs,List.length_append,subX_len x,subXs_len xs]
end
mutual
def stmS:Sm→List Sm
 | ⟨k,s,n,ar,b,e,q⟩=>⟨k,s,n,ar,b,e,q⟩ :: (stmL b++stmL e)
def stmL:List Sm→List Sm
 | []=>[]
 | x :: xs=>stmS x++stmL xs
end
theorem stmL_append:∀a b:List Sm,stmL (a++b)=stmL a++stmL b
 | [],b=>rfl
 | x :: a,b=>by rw [List.cons_append,stmL,stmL,stmL_append a b,List.append_assoc]
theorem stmL_one (x:Sm):stmL [x]=stmS x:=by rw [stmL,stmL,List.append_nil]
mutual
theorem stmS_len:∀x,(stmS x).length=nS x
 | ⟨k,s,n,ar,b,e,q⟩=>by rw [stmS,nS,List.length_cons,List.length_append,stmL_len b,stmL_len e]
theorem stmL_len:∀l,(stmL l).length=nSs l
 | []=>rfl
 | x :: xs=>by rw [stmL,nSs,List.length_append,stmS_len x,stmL_len xs]
end
def expL (l:List Sm):List Xp:=(stmL l).flatMap fun s=>subXs s.ar
mutual
theorem expS_len:∀x:Sm,((stmS x).flatMap fun s=>subXs s.ar).length=mS x
 | ⟨k,s,n,ar,b,e,q⟩=>by
   have h1:=expL_len b
   have h2:=expL_len e
   rw [expL] at h1 h2
   rw [stmS,mS,List.flatMap_cons,List.length_append,List.flatMap_append,List.length_append,h1,h2,show (Sm.mk k s n ar b e q).ar=ar from rfl,subXs_len]
   omega
theorem expL_len:∀l,(expL l).length=mSs l
 | []=>rfl
 | x :: xs=>by
   have h1:=expS_len x
   have h2:=expL_len xs
   rw [expL] at h2
   rw [expL,stmL,mSs,List.flatMap_append,List.length_append,h1,h2]
end
abbrev zX:Value:=.agg #[.int .i64 0,.string ⟨#[]⟩,.int .i16 0,.int .i64 0,.slice none 0 0,.int .i64 0]
abbrev zS:Value:=.agg #[.int .i64 0,.string ⟨#[]⟩,.int .i64 0,.slice none 0 0,.slice none 0 0,.slice none 0 0,.int .i64 0]
theorem infoX:(Tryz.prog.info? 35).map (fun i=>(i.zero,i.size,i.bytes))=some (some zX,6,72):=by kernel_rfl
theorem infoS:(Tryz.prog.info? 49).map (fun i=>(i.zero,i.size,i.bytes))=some (some zS,7,112):=by kernel_rfl
abbrev xv (k:Int) (s:ByteArray) (v o:Int) (p:Option Addr) (n c:Nat) (q:Int):Value:=.agg #[.int .i64 k,.string s,.int .i16 v,.int .i64 o,.slice p n c,.int .i64 q]
theorem alloc_sz (w:World) (o:Obj):(w.alloc o).heap.size=w.heap.size+1:=by simp
theorem xat1 {B:Nat→Prop}{w:World}{k v o q:Int}{s:ByteArray}{ar:List Xp}{p:Option Addr}{c:Nat}(hz:s.size≤1048576∧v≤32767) (h:XL B w p c ar):XsAt B w [⟨k,s,v,o,ar,q⟩] [⟨k,s,v,o,p,ar.length,c,q⟩]:=by
 rw [XsAt]
 exact⟨_,[],rfl,XAt_iff.2 ⟨p,c,rfl,hz,h⟩,by rw [XsAt]⟩
theorem sat1 {B:Nat→Prop}{w:World}{k n q:Int}{s:ByteArray}{ar:List Xp}{b e:List Sm}{pa pb pe:Option Addr}{ca cb ce:Nat}(hz:s.size≤1048576) (h1:XL B w pa ca ar) (h2:SL B w pb cb b) (h3:SL B w pe ce e):SsAt B w [⟨k,s,n,ar,b,e,q⟩] [⟨k,s,n,pa,ar.length,ca,pb,b.length,cb,pe,e.length,ce,q⟩]:=by
 rw [SsAt]
 exact⟨_,[],rfl,SAt_iff.2 ⟨pa,ca,pb,cb,pe,ce,rfl,hz,h1,h2,h3⟩,by rw [SsAt]⟩
set_option maxHeartbeats 8000000 in
theorem sub_any:∀(x:Xp) (B:Nat→Prop) (w:World) (p:Option Addr) (c:Nat),(∀b,B b→b < w.heap.size)→(x.s.size≤1048576∧x.v≤32767)→XL B w p c x.ar→nX x≤1048576 →
 Calls Tryz.prog 15 #[xv x.k x.s x.v x.o p x.ar.length c x.q] w fun e w'=>∃p' n' c',e=.returned (.slice p' n' c')∧OwN XsAt 6 xdc w.heap.size B w' 35 p' n' c' (subX x)∧Grew w w':=by
 intro x
 induction x using Xp.ind with
 | h k s v o ar q ih =>
 intro B w p c hB hsz hx hn
 replace hsz:s.size≤1048576∧v≤32767:=hsz
 have HX:Hid (XL B w p c ar):=zh hx
 have hcap:ar.length≤c:=hx.cap.1
 have hmax:=hx.cap.2.1
 have HB:=zh hB
 obtain ⟨N,hN⟩:∃N,N=w.heap.size:=⟨_,rfl⟩
 have HNW:=zh hN
 have hnx:nX ⟨k,s,v,o,ar,q⟩=nXs ar+1:=rfl
 show Calls Tryz.prog 15 #[xv k s v o p ar.length c q] w _
 rw [hnx] at hn
 rw [← hN] at HB ⊢
 clear hx hB hnx hN
 go_enter Tryz.func15,Tryz.ntmps15
 go_wp2
 have HO:Hid (OwN XsAt 6 xdc N B ((w.alloc (Obj.cells #[.int .i64 k,.string s,.int .i16 v,.int .i64 o,.slice p ar.length c,.int .i64 q] 35)).alloc (Obj.cells #[.int .i64 k,.string s,.int .i16 v,.int .i64 o,.slice p ar.length c,.int .i64 q] 35)) 35 (some ⟨w.heap.size+1,0,none⟩) 1 1 [⟨k,s,v,o,ar,q⟩]):=zh (OwN.made hangsX _ _ _ _ _ _ (xat1 hsz (HX.out.kept ((Grew.refl w).alloc _))) (alloc_sz _ _) (by rw [alloc_sz,HNW.out];omega) rfl)
 go_loopg [3,5,11] ar.length (fun gg lv bv iv wr=>∃(j:Nat) (p1:Option Addr) (n1 c1:Nat),lv=.slice p1 n1 c1∧iv=.int .i64 (j:Int)∧j≤ar.length∧gg=ar.length - j∧Hid (OwN XsAt 6 xdc N B wr 35 p1 n1 c1 (⟨k,s,v,o,ar,q⟩ :: subXs (ar.take j)))∧Hid (Grew w wr))
 case atStart=>exact⟨0,_,1,1,rfl,rfl,Nat.zero_le _,rfl,HO,zh (((Grew.refl w).alloc _).alloc _)⟩
 case round =>
  obtain ⟨j,p1,n1,c1,rfl,rfl,hj,rfl,HR,HG⟩:=hrel
  by_cases hlt:j < ar.length
  ·have htn:=nXs_take ar j
   have hln:=HR.out.len
   rw [List.length_cons,subXs_len] at hln
   have HBD:Hid (n1≤1048577):=zh (by omega)
   obtain ⟨ba,oa,pa,ca,rfl,hba,haa,hca⟩:=HX.out.get j hlt
   have hma:=List.getElem_mem hlt
   have hna:=nXs_mem hma
   have hta:=List.take_succ_eq_append_getElem hlt
   have HLa:=zh (Nat.succ_le_of_lt hlt)
   have hih:=ih _ hma B
   generalize ar[j]=xa at *
   obtain ⟨ka,sa,va,o_a,ra,qa⟩:=xa
   replace hba:sa.size≤1048576∧va≤32767:=hba.2
   have HTa:=zh hta
   have HAa:Hid (XL B w pa ca ra):=zh haa
   have hcapa:ra.length≤ca:=haa.cap.1
   have hmaxa:=haa.cap.2.1
   replace hca:∀i_ u_,(xdc ⟨ka,sa,va,o_a,pa,ra.length,ca,qa⟩)[i_]?=some u_→wr.cell? ⟨ba,oa+j * 6+i_,none⟩=some u_:=fun i_ u_ h_=>Atv.kept (hca i_ u_ h_) HG.out
   have ca0:wr.cell? ⟨ba,oa+j * 6,none⟩=some (.int .i64 ka):=by simpa using hca 0 _ rfl
   have ca1:wr.cell? ⟨ba,oa+j * 6+1,none⟩=some (.string sa):=hca 1 _ rfl
   have ca2:wr.cell? ⟨ba,oa+j * 6+2,none⟩=some (.int .i16 va):=hca 2 _ rfl
   have ca3:wr.cell? ⟨ba,oa+j * 6+3,none⟩=some (.int .i64 o_a):=hca 3 _ rfl
   have ca4:wr.cell? ⟨ba,oa+j * 6+4,none⟩=some (.slice pa ra.length ca):=hca 4 _ rfl
   have ca5:wr.cell? ⟨ba,oa+j * 6+5,none⟩=some (.int .i64 qa):=hca 5 _ rfl
   clear hca haa hta
   have HIH:=zh (fun W (hW:Grew w W)=>(show Calls Tryz.prog 15 #[xv ka sa va o_a pa ra.length ca qa] W fun e w'=>∃p' n' c',e=.returned (.slice p' n' c')∧OwN XsAt 6 xdc W.heap.size B w' 35 p' n' c' (subX ⟨ka,sa,va,o_a,ra,qa⟩)∧Grew W w' from hih W pa ca (fun b hb=>by have h1:=HB.out b hb;have h2:=hW.sz;have h3:=HNW.out;omega) hba (HAa.out.kept hW) (by omega)))
   have HNX:Hid (nX ⟨ka,sa,va,o_a,ra,qa⟩≤1048576):=zh (by omega)
   clear hih hma hna htn hln
   go_wp2_with (first
    | (go_at_call 15;(with_reducible refine(HIH.out _ (HG.out.alloc _)).mono ?_);rintro e w2 ⟨p2,n2,c2,rfl,ho2,g2⟩;have hl2:=ho2.len;rw [subX_len] at hl2;have HL2:Hid (n2≤1048576):=zh (by have:=HNX.out;omega);have HO2:=zh (ho2.inN hangsX);have HG2:=zh (((Grew.refl wr).alloc _).trans g2);clear ho2 g2 hl2)
    | (at_builtin;refine wpList_append_own hangsX rfl _ _ 33 rfl N 35 zX 72 Tryz.underlying33 infoX rfl _ _ _ _ rfl (HR.out.kept hangsX HG2.out) _ _ _ _ rfl (HO2.out) (fun b hb=>HR.out.off hangsX (HB.out b hb)) (by have h1:=HBD.out;have h2:=HL2.out;omega) (by have h1:=HBD.out;have h2:=HL2.out;omega) (by have h1:=(HG.out.trans HG2.out).sz;have h2:=HNW.out;omega) ?_;intro p3 c3 w3 ho3 hp3;have HO3:=zh ho3;have HP3:=zh hp3;clear ho3 hp3))
   have HG3:Hid (Grew w w3):=zh (Below.trans (HG.out.trans HG2.out) (HNW.out ▸ HP3.out.below))
   go_roundg (ar.length - (j+1))
   case measure=>have:=HLa.out;omega
   case rel=>exact⟨j+1,p3,_,c3,rfl,by go_num,HLa.out,rfl,zh (by
    rw [HTa.out,subXs_append,subXs_one]
    exact HO3.out),HG3⟩
  ·obtain rfl:j=ar.length:=by omega
   rw [List.take_length] at HR
   go_wp2
   go_ret
   rw [HNW.out] at HR ⊢
   exact⟨p1,n1,c1,rfl,HR.out,HG.out⟩
open Go.Shelf
set_option maxRecDepth 100000
theorem Abides.sub {β:Type}{C:Blks}{J:Blks→β→World→Prop}(h:Abides C J){P P':Blks}{s:β}{W:World}(hs:J P s W) (hp:∀k,P' k→P k):J P' s W:=h P P' s W W hs (Chg.refl _ _) (fun k _ hk=>hp k hk)
theorem subXs_cut {l:List Xp}{j:Nat}{k:Int}{s:ByteArray}{v o q:Int}{ar q':List Xp}(h:l.take (j+1)=l.take j++[⟨k,s,v,o,ar,q⟩]) (hq:q' <+: subXs ar):subXs (l.take j)++(⟨k,s,v,o,ar,q⟩ :: q') <+: subXs l:=by
 obtain ⟨t,ht⟩:=hq
 refine⟨t++subXs (l.drop (j+1)),?_⟩
 have h1:subXs l=subXs (l.take (j+1))++subXs (l.drop (j+1)):=by rw [← subXs_append,List.take_append_drop]
 rw [h1,h,subXs_append,subXs_one,subX,← ht]
 simp
set_option maxHeartbeats 8000000 in
theorem yX_any (y:Value) (C:Blks) (B:Blks) (J Jx:Blks→List Xp→World→Prop) (hJ:Abides C J) (hJx:Abides C Jx)
 (hY:∀P1 pre x d W1,J P1 pre W1→XAt B W1 x d→(∀k,B k→P1 k)→(∀k,P1 k→k < W1.heap.size)→Asked Tryz.prog y #[.agg (xdc d).toArray] W1 fun e W'=>(e=.returned (.bool true)∧J P1 (pre++[x]) W'∧Kept P1 W1 W')∨(e=.returned (.bool false)∧Jx P1 (pre++[x]) W'∧Kept P1 W1 W')) :
 ∀(n:Nat) (l:List Xp),nXs l < n→∀(m:Nat) (P1:Blks) (pre:List Xp) (W:World) (p:Option Addr) (c:Nat),XL B W p c l→J P1 pre W→(∀k,B k→P1 k)→(∀k,P1 k→k < W.heap.size) →
  CallsIn Fence.wide m Tryz.prog 80 #[.slice p l.length c,y] W fun e W'=>(e=.returned (.bool true)∧J P1 (pre++subXs l) W'∧Kept P1 W W')∨(e=.returned (.bool false)∧∃q,q <+: subXs l∧Jx P1 (pre++q) W'∧Kept P1 W W'):=by
 intro n
 induction n with
 | zero=>intro _ h;exact absurd h (Nat.not_lt_zero _)
 | succ n ih =>
 intro l hln m P1 pre W p c hx hj hBP hPW
 have HX:Hid (XL B W p c l):=zh hx
 have hcap:l.length≤c:=hx.cap.1
 have hmax:=hx.cap.2.1
 have HBP:=zh hBP
 have HPW:=zh hPW
 have HJ0:=zh hj
 have HJJ:=zh hJ
 have HJX:=zh hJx
 have HY:=zh hY
 clear hx hj hBP hPW hJ hJx hY
 refine callsIn_of_wp Tryz.func80 rfl trivial ?_ rfl
 simp only [Tryz.ntmps80,List.size_toArray,List.length_cons,List.length_nil,Nat.reduceAdd,Nat.reduceSub,Array.replicate_succ,Array.replicate_zero,List.push_toArray,List.append_toArray,List.nil_append,List.cons_append]
 gi_wp2
 gi_loopw [9] (fun v wr=>∃(j:Nat),v=.int .i64 (j:Int)∧j≤l.length∧Hid (J P1 (pre++subXs (l.take j)) wr)∧Hid (Kept P1 W wr)) (fun v _=>l.length - (intOf v).toNat)
 case atStart=>exact⟨0,rfl,Nat.zero_le _,zh (by simpa [subXs] using HJ0.out),zh (Kept.refl _ _)⟩
 case round =>
  obtain ⟨j,rfl,hj,HJ,HK⟩:=hrel
  by_cases hlt:j < l.length
  ·have HXr:Hid (XL B wr p c l):=zh (HX.out.keep (fun _ h=>h) (fun b hb hl=>HK.out.same b hl (HBP.out b hb)))
   obtain ⟨ba,oa,pa,ca,rfl,hba,haa,hca⟩:=HXr.out.get j hlt
   have hma:=List.getElem_mem hlt
   have hna:=nXs_mem hma
   have hta:=List.take_succ_eq_append_getElem hlt
   have HLa:=zh (Nat.succ_le_of_lt hlt)
   generalize l[j]=xa at *
   obtain ⟨ka,sa,va,o_a,ra,qa⟩:=xa
   have hln2:nXs ra < n:=by
    have h1:nX ⟨ka,sa,va,o_a,ra,qa⟩=nXs ra+1:=rfl
    omega
   replace hba:sa.size≤1048576∧va≤32767:=hba.2
   replace haa:XL B wr pa ca ra:=haa
   replace hca:∀i_ u_,(xdc ⟨ka,sa,va,o_a,pa,ra.length,ca,qa⟩)[i_]?=some u_→wr.cell? ⟨ba,oa+j * 6+i_,none⟩=some u_:=hca
   have hcapa:ra.length≤ca:=haa.cap.1
   have hmaxa:=haa.cap.2.1
   have ca0:wr.cell? ⟨ba,oa+j * 6,none⟩=some (.int .i64 ka):=by simpa using hca 0 _ rfl
   have ca1:wr.cell? ⟨ba,oa+j * 6+1,none⟩=some (.string sa):=hca 1 _ rfl
   have ca2:wr.cell? ⟨ba,oa+j * 6+2,none⟩=some (.int .i16 va):=hca 2 _ rfl
   have ca3:wr.cell? ⟨ba,oa+j * 6+3,none⟩=some (.int .i64 o_a):=hca 3 _ rfl
   have ca4:wr.cell? ⟨ba,oa+j * 6+4,none⟩=some (.slice pa ra.length ca):=hca 4 _ rfl
   have ca5:wr.cell? ⟨ba,oa+j * 6+5,none⟩=some (.int .i64 qa):=hca 5 _ rfl
   have HTa:=zh hta
   have HA:=zh (And.intro hba haa)
   have HL2:=zh hln2
   clear hca haa hba hta hna hma hln2 hln
   obtain ⟨S,hS⟩:∃S,S=wr.heap.size:=⟨_,rfl⟩
   obtain ⟨P2,hP2⟩:∃P2:Blks,P2=fun k=>P1 k∨k=S:=⟨_,rfl⟩
   have hPr:∀k,P1 k→k < wr.heap.size:=fun k hk=>Nat.lt_of_lt_of_le (HPW.out k hk) HK.out.size
   have h12:∀k,P1 k→P2 k:=fun k hk=>by rw [hP2];exact .inl hk
   have h2S:P2 S:=by rw [hP2];exact .inr rfl
   have hP2r:∀k,P2 k→k < wr.heap.size+1:=fun k hk=>by
    rw [hP2] at hk
    rcases hk with hk | rfl
    ·have:=hPr k hk;omega
    ·omega
   have h21:∀k,k < wr.heap.size→P2 k→P1 k:=fun k hl hk=>by
    rw [hP2] at hk
    rcases hk with hk | rfl
    ·exact hk
    ·omega
   obtain ⟨pr2,hpr2⟩:∃pr2,pr2=pre++subXs (l.take j)++[(⟨ka,sa,va,o_a,ra,qa⟩:Xp)]:=⟨_,rfl⟩
   have HYY:Hid (∀V,Grew wr V→V.heap.size=wr.heap.size+1→Blk S [.int .i64 ka,.string sa,.int .i16 va,.int .i64 o_a,.slice pa ra.length ca,.int .i64 qa] 35 V→Asked Tryz.prog y #[.agg #[.int .i64 ka,.string sa,.int .i16 va,.int .i64 o_a,.slice pa ra.length ca,.int .i64 qa]] V fun e W' =>
    (e=.returned (.bool true)∧Hid (J P2 pr2 W')∧Hid (XL B W' pa ca ra)∧Hid (Kept P1 W W')∧Hid (∀k,P2 k→k < W'.heap.size)∧Hid (Blk S [.int .i64 ka,.string sa,.int .i16 va,.int .i64 o_a,.slice pa ra.length ca,.int .i64 qa] 35 W')∧W'.cell? ⟨S,4,none⟩=some (.slice pa ra.length ca)∧S < W'.heap.size) ∨
    (e=.returned (.bool false)∧Hid (Jx P1 pr2 W'∧Kept P1 W W'))):=zh (fun V hg hv hb=>by
    rw [hpr2]
    refine(HY.out P2 (pre++subXs (l.take j)) ⟨ka,sa,va,o_a,ra,qa⟩ ⟨ka,sa,va,o_a,pa,ra.length,ca,qa⟩ V (HJJ.out.grew HJ.out hg h21) (XAt_iff.2 ⟨pa,ca,rfl,HA.out.1,HA.out.2.kept hg⟩) (fun k hk=>h12 k (HBP.out k hk)) (fun k hk=>by rw [hv];exact hP2r k hk)).mono ?_
    rintro e W' (⟨rfl,h1,h2⟩ | ⟨rfl,h1,h2⟩)
    ·have hbl:Blk S _ _ W':=h2.heap h2S hb
     exact .inl ⟨rfl,zh h1,zh ((HA.out.2.kept hg).keep (fun _ h=>h) (fun b hb hl=>h2.same b hl (h12 b (HBP.out b hb)))),zh ((HK.out.trans (Kept.of_grew hg)).trans (h2.sub h12)),zh (fun k hk=>by have:=hP2r k hk;have:=h2.size;omega),zh hbl,hbl.cell 4,hbl.lt⟩
    ·exact .inr ⟨rfl,zh ⟨HJX.out.sub h1 h12,(HK.out.trans (Kept.of_grew hg)).trans (h2.sub h12)⟩⟩)
   have HIH:=zh (fun(W':World) (h1:Hid (J P2 pr2 W')) (h2:Hid (XL B W' pa ca ra)) (h3:Hid (Kept P1 W W')) (h4:Hid (∀k,P2 k→k < W'.heap.size)) (m':Nat) =>
    ih ra HL2.out m' P2 pr2 W' pa ca h2.out h1.out (fun k hk=>h12 k (HBP.out k hk)) h4.out)
   have HQ:=zh (And.intro h12 h2S)
   have HPR:=zh hpr2
   clear hPr h12 h2S hP2r h21 hP2 hpr2
   gi_wp2_with (refine wpListIn_asked _ ?h1 (.tmp 13) #[.tmp 14] _ rfl y ?h3 #[.agg #[.int .i64 ka,.string sa,.int .i16 va,.int .i64 o_a,.slice pa ra.length ca,.int .i64 qa]] ?h4 _ (HYY.out _ ?h6 ?h7 ?h8) ?h5)
   case h3=>rfl
   case h4=>simp [go_sem]
   case h6=>exact(Grew.refl _).alloc _
   case h7=>simp
   case h8=>rw [hS];exact Blk.new wr _ _
   case h5 =>
    rintro e w2 (⟨rfl,HJ2,HX2,HK2,HP2,HB2,c4,l4⟩ | ⟨rfl,HF⟩)
    ·refine⟨_,rfl,?_⟩
     have HIH2:=zh (HIH.out w2 HJ2 HX2 HK2 HP2)
     gi_wp2_with (first
      | (refine⟨trivial,(fun h=>absurd h (by decide)),?_⟩;gi_at_call 80;refine(HIH2.out _).mono ?_;rintro e w3 (⟨rfl,hj3,hk3⟩ | ⟨rfl,hf3⟩))
      | (refine⟨trivial,?_⟩))
     ·refine⟨⟨j+1,by go_num,HLa.out,zh ?_,zh (HK2.out.trans (hk3.sub HQ.out.1))⟩,?_⟩
      ·rw [HTa.out,subXs_append,subXs_one,subX]
       rw [HPR.out] at hj3
       simpa using HJJ.out.sub hj3 HQ.out.1
      ·have:=HLa.out
       simp [intOf]
       omega
     ·go_ret
      obtain ⟨q,hq,hx3,hk3⟩:=hf3
      refine .inr ⟨rfl,subXs (l.take j)++(⟨ka,sa,va,o_a,ra,qa⟩ :: q),subXs_cut HTa.out hq,?_,HK2.out.trans (hk3.sub HQ.out.1)⟩
      rw [HPR.out] at hx3
      simpa using HJX.out.sub hx3 HQ.out.1
    ·refine⟨_,rfl,?_⟩
     gi_wp2_with (refine⟨trivial,?_⟩)
     go_ret
     refine .inr ⟨rfl,subXs (l.take j)++[⟨ka,sa,va,o_a,ra,qa⟩],subXs_cut HTa.out (List.nil_prefix),?_,HF.out.2⟩
     have h:=HF.out.1
     rw [HPR.out] at h
     simpa using h
  ·obtain rfl:j=l.length:=by omega
   rw [List.take_length] at HJ
   gi_wp2
   go_ret
   exact .inl ⟨rfl,HJ.out,HK.out⟩
theorem stmL_cut {l:List Sm}{j:Nat}{x:Sm}{q':List Sm}(h:l.take (j+1)=l.take j++[x]) (hq:q' <+: stmS x):stmL (l.take j)++q' <+: stmL l:=by
 obtain ⟨t,ht⟩:=hq
 refine⟨t++stmL (l.drop (j+1)),?_⟩
 have h1:stmL l=stmL (l.take (j+1))++stmL (l.drop (j+1)):=by rw [← stmL_append,List.take_append_drop]
 rw [h1,h,stmL_append,stmL_one,← ht]
 simp
set_option maxHeartbeats 8000000 in
theorem yS_any (y:Value) (C:Blks) (B:Blks) (J Jx:Blks→List Sm→World→Prop) (hJ:Abides C J) (hJx:Abides C Jx)
 (hY:∀P1 pre x d W1,J P1 pre W1→SAt B W1 x d→(∀k,B k→P1 k)→(∀k,P1 k→k < W1.heap.size)→Asked Tryz.prog y #[.agg (sdc d).toArray] W1 fun e W'=>(e=.returned (.bool true)∧J P1 (pre++[x]) W'∧Kept P1 W1 W')∨(e=.returned (.bool false)∧Jx P1 (pre++[x]) W'∧Kept P1 W1 W')) :
 ∀(n:Nat) (l:List Sm),nSs l < n→∀(m:Nat) (P1:Blks) (pre:List Sm) (W:World) (p:Option Addr) (c:Nat),SL B W p c l→J P1 pre W→(∀k,B k→P1 k)→(∀k,P1 k→k < W.heap.size) →
  CallsIn Fence.wide m Tryz.prog 78 #[.slice p l.length c,y] W fun e W'=>(e=.returned (.bool true)∧J P1 (pre++stmL l) W'∧Kept P1 W W')∨(e=.returned (.bool false)∧∃q,q <+: stmL l∧Jx P1 (pre++q) W'∧Kept P1 W W'):=by
 intro n
 induction n with
 | zero=>intro _ h;exact absurd h (Nat.not_lt_zero _)
 | succ n ih =>
 intro l hln m P1 pre W p c hx hj hBP hPW
 have HX:Hid (SL B W p c l):=zh hx
 have hcap:l.length≤c:=hx.cap.1
 have hmax:=hx.cap.2.1
 have HBP:=zh hBP
 have HPW:=zh hPW
 have HJ0:=zh hj
 have HJJ:=zh hJ
 have HJX:=zh hJx
 have HY:=zh hY
 clear hx hj hBP hPW hJ hJx hY
 refine callsIn_of_wp Tryz.func78 rfl trivial ?_ rfl
 simp only [Tryz.ntmps78,List.size_toArray,List.length_cons,List.length_nil,Nat.reduceAdd,Nat.reduceSub,Array.replicate_succ,Array.replicate_zero,List.push_toArray,List.append_toArray,List.nil_append,List.cons_append]
 gi_wp2
 gi_loopw [9] (fun v wr=>∃(j:Nat),v=.int .i64 (j:Int)∧j≤l.length∧Hid (J P1 (pre++stmL (l.take j)) wr)∧Hid (Kept P1 W wr)) (fun v _=>l.length - (intOf v).toNat)
 case atStart=>exact⟨0,rfl,Nat.zero_le _,zh (by simpa [stmL] using HJ0.out),zh (Kept.refl _ _)⟩
 case round =>
  obtain ⟨j,rfl,hj,HJ,HK⟩:=hrel
  by_cases hlt:j < l.length
  ·have HXr:Hid (SL B wr p c l):=zh (HX.out.keep (fun _ h=>h) (fun b hb hl=>HK.out.same b hl (HBP.out b hb)))
   obtain ⟨ba,oa,pa,ca,pb,cb,pe,ce,rfl,hba,haa,hbb,hee,hca⟩:=HXr.out.get j hlt
   have hma:=List.getElem_mem hlt
   have hna:=nSs_mem hma
   have hta:=List.take_succ_eq_append_getElem hlt
   have HLa:=zh (Nat.succ_le_of_lt hlt)
   generalize l[j]=xa at *
   obtain ⟨ka,sa,na,ra,ya,ea,qa⟩:=xa
   have hln2:nSs ya < n∧nSs ea < n:=by
    have h1:nS ⟨ka,sa,na,ra,ya,ea,qa⟩=nSs ya+nSs ea+1:=rfl
    omega
   replace hba:sa.size≤1048576:=hba.2
   replace haa:XL B wr pa ca ra:=haa
   replace hbb:SL B wr pb cb ya:=hbb
   replace hee:SL B wr pe ce ea:=hee
   replace hca:∀i_ u_,(sdc ⟨ka,sa,na,pa,ra.length,ca,pb,ya.length,cb,pe,ea.length,ce,qa⟩)[i_]?=some u_→wr.cell? ⟨ba,oa+j * 7+i_,none⟩=some u_:=hca
   have hcapa:ra.length≤ca∧ya.length≤cb∧ea.length≤ce:=⟨haa.cap.1,hbb.cap.1,hee.cap.1⟩
   have hmaxa:=And.intro haa.cap.2.1 (And.intro hbb.cap.2.1 hee.cap.2.1)
   have ca0:wr.cell? ⟨ba,oa+j * 7,none⟩=some (.int .i64 ka):=by simpa using hca 0 _ rfl
   have ca1:wr.cell? ⟨ba,oa+j * 7+1,none⟩=some (.string sa):=hca 1 _ rfl
   have ca2:wr.cell? ⟨ba,oa+j * 7+2,none⟩=some (.int .i64 na):=hca 2 _ rfl
   have ca3:wr.cell? ⟨ba,oa+j * 7+3,none⟩=some (.slice pa ra.length ca):=hca 3 _ rfl
   have ca4:wr.cell? ⟨ba,oa+j * 7+4,none⟩=some (.slice pb ya.length cb):=hca 4 _ rfl
   have ca5:wr.cell? ⟨ba,oa+j * 7+5,none⟩=some (.slice pe ea.length ce):=hca 5 _ rfl
   have ca6:wr.cell? ⟨ba,oa+j * 7+6,none⟩=some (.int .i64 qa):=hca 6 _ rfl
   have HTa:=zh hta
   have HA:=zh (And.intro hba (And.intro haa (And.intro hbb hee)))
   have HL2:=zh hln2
   clear hca haa hbb hee hba hta hna hma hln2 hln
   obtain ⟨S,hS⟩:∃S,S=wr.heap.size:=⟨_,rfl⟩
   obtain ⟨P2,hP2⟩:∃P2:Blks,P2=fun k=>P1 k∨k=S:=⟨_,rfl⟩
   have hPr:∀k,P1 k→k < wr.heap.size:=fun k hk=>Nat.lt_of_lt_of_le (HPW.out k hk) HK.out.size
   have h12:∀k,P1 k→P2 k:=fun k hk=>by rw [hP2];exact .inl hk
   have h2S:P2 S:=by rw [hP2];exact .inr rfl
   have hP2r:∀k,P2 k→k < wr.heap.size+1:=fun k hk=>by
    rw [hP2] at hk
    rcases hk with hk | rfl
    ·have:=hPr k hk;omega
    ·omega
   have h21:∀k,k < wr.heap.size→P2 k→P1 k:=fun k hl hk=>by
    rw [hP2] at hk
    rcases hk with hk | rfl
    ·exact hk
    ·omega
   obtain ⟨pr2,hpr2⟩:∃pr2,pr2=pre++stmL (l.take j)++[(⟨ka,sa,na,ra,ya,ea,qa⟩:Sm)]:=⟨_,rfl⟩
   have HYY:Hid (∀V,Grew wr V→V.heap.size=wr.heap.size+1→Blk S [.int .i64 ka,.string sa,.int .i64 na,.slice pa ra.length ca,.slice pb ya.length cb,.slice pe ea.length ce,.int .i64 qa] 49 V→Asked Tryz.prog y #[.agg #[.int .i64 ka,.string sa,.int .i64 na,.slice pa ra.length ca,.slice pb ya.length cb,.slice pe ea.length ce,.int .i64 qa]] V fun e W' =>
    (e=.returned (.bool true)∧Hid (J P2 pr2 W')∧Hid (SL B W' pb cb ya∧SL B W' pe ce ea)∧Hid (Kept P1 W W')∧Hid (∀k,P2 k→k < W'.heap.size)∧Hid (Blk S [.int .i64 ka,.string sa,.int .i64 na,.slice pa ra.length ca,.slice pb ya.length cb,.slice pe ea.length ce,.int .i64 qa] 49 W')∧W'.cell? ⟨S,4,none⟩=some (.slice pb ya.length cb)∧S < W'.heap.size) ∨
    (e=.returned (.bool false)∧Hid (Jx P1 pr2 W'∧Kept P1 W W'))):=zh (fun V hg hv hb=>by
    rw [hpr2]
    refine(HY.out P2 (pre++stmL (l.take j)) ⟨ka,sa,na,ra,ya,ea,qa⟩ ⟨ka,sa,na,pa,ra.length,ca,pb,ya.length,cb,pe,ea.length,ce,qa⟩ V (HJJ.out.grew HJ.out hg h21) (SAt_iff.2 ⟨pa,ca,pb,cb,pe,ce,rfl,HA.out.1,HA.out.2.1.kept hg,HA.out.2.2.1.kept hg,HA.out.2.2.2.kept hg⟩) (fun k hk=>h12 k (HBP.out k hk)) (fun k hk=>by rw [hv];exact hP2r k hk)).mono ?_
    rintro e W' (⟨rfl,h1,h2⟩ | ⟨rfl,h1,h2⟩)
    ·have hbl:Blk S _ _ W':=h2.heap h2S hb
     exact .inl ⟨rfl,zh h1,zh ⟨(HA.out.2.2.1.kept hg).keep (fun _ h=>h) (fun b hb hl=>h2.same b hl (h12 b (HBP.out b hb))),(HA.out.2.2.2.kept hg).keep (fun _ h=>h) (fun b hb hl=>h2.same b hl (h12 b (HBP.out b hb)))⟩,zh ((HK.out.trans (Kept.of_grew hg)).trans (h2.sub h12)),zh (fun k hk=>by have:=hP2r k hk;have:=h2.size;omega),zh hbl,hbl.cell 4,hbl.lt⟩
    ·exact .inr ⟨rfl,zh ⟨HJX.out.sub h1 h12,(HK.out.trans (Kept.of_grew hg)).trans (h2.sub h12)⟩⟩)
   have HIH:=zh (fun(l':List Sm) (hl':nSs l' < n) (p':Option Addr) (c':Nat) (pr:List Sm) (W':World) (h1:J P2 pr W') (h2:SL B W' p' c' l') (h3:Kept P1 W W') (h4:∀k,P2 k→k < W'.heap.size) (m':Nat) =>
    ih l' hl' m' P2 pr W' p' c' h2 h1 (fun k hk=>h12 k (HBP.out k hk)) h4)
   have HQ:=zh (And.intro h12 (hS ▸ h2S:P2 wr.heap.size))
   have HPR:=zh hpr2
   clear hPr h12 h2S hP2r h21 hP2 hpr2
   gi_wp2_with (refine wpListIn_asked _ ?h1 (.tmp 13) #[.tmp 14] _ rfl y ?h3 #[.agg #[.int .i64 ka,.string sa,.int .i64 na,.slice pa ra.length ca,.slice pb ya.length cb,.slice pe ea.length ce,.int .i64 qa]] ?h4 _ (HYY.out _ ?h6 ?h7 ?h8) ?h5)
   case h3=>rfl
   case h4=>simp [go_sem]
   case h6=>exact(Grew.refl _).alloc _
   case h7=>simp
   case h8=>rw [hS];exact Blk.new wr _ _
   case h5 =>
    rintro e w2 (⟨rfl,HJ2,HX2,HK2,HP2,HB2,c4,l4⟩ | ⟨rfl,HF⟩)
    ·refine⟨_,rfl,?_⟩
     have HIY:=zh (HIH.out ya HL2.out.1 pb cb pr2 w2 HJ2.out HX2.out.1 HK2.out HP2.out)
     gi_wp2_with (refine⟨trivial,(fun h=>absurd h (by decide)),?_⟩;gi_at_call 78;refine(HIY.out _).mono ?_)
     rintro e w3 (⟨rfl,hj3,hk3⟩ | ⟨rfl,hf3⟩)
     ·have HJ3:=zh hj3
      have HK3:=zh (HK2.out.trans (hk3.sub HQ.out.1))
      have HIE:=zh (HIH.out ea HL2.out.2 pe ce (pr2++stmL ya) w3 HJ3.out (HX2.out.2.keep (fun _ h=>h) (fun b hb hl=>hk3.same b hl (HQ.out.1 b (HBP.out b hb)))) HK3.out (fun k hk=>Nat.lt_of_lt_of_le (HP2.out k hk) hk3.size))
      have HB3:Hid (Blk wr.heap.size _ _ w3):=zh (Kept.heap hk3 HQ.out.2 HB2.out)
      have c5:=HB3.out.cell 5
      have l5:=HB3.out.lt
      simp only [zz7,zz8] at c5
      clear hj3 hk3
      gi_wp2_with (refine⟨trivial,(fun h=>absurd h (by decide)),?_⟩;gi_at_call 78;refine(HIE.out _).mono ?_)
      rintro e w4 (⟨rfl,hj4,hk4⟩ | ⟨rfl,hf4⟩)
      ·gi_wp2
       refine⟨⟨j+1,by go_num,HLa.out,zh ?_,zh (HK3.out.trans (hk4.sub HQ.out.1))⟩,?_⟩
       ·rw [HTa.out,stmL_append,stmL_one,stmS]
        rw [HPR.out] at hj4
        simpa using HJJ.out.sub hj4 HQ.out.1
       ·have:=HLa.out
        simp [intOf]
        omega
      ·gi_wp2
       go_ret
       obtain ⟨q,hq,hx4,hk4⟩:=hf4
       refine .inr ⟨rfl,stmL (l.take j)++(⟨ka,sa,na,ra,ya,ea,qa⟩ :: (stmL ya++q)),stmL_cut HTa.out (by rw [stmS];exact List.cons_prefix_cons.2 ⟨rfl,(List.prefix_append_right_inj _).2 hq⟩),?_,HK3.out.trans (hk4.sub HQ.out.1)⟩
       rw [HPR.out] at hx4
       simpa using HJX.out.sub hx4 HQ.out.1
     ·gi_wp2_with (refine⟨trivial,?_⟩)
      go_ret
      obtain ⟨q,hq,hx3,hk3⟩:=hf3
      refine .inr ⟨rfl,stmL (l.take j)++(⟨ka,sa,na,ra,ya,ea,qa⟩ :: q),stmL_cut HTa.out (by rw [stmS];exact List.cons_prefix_cons.2 ⟨rfl,hq.trans (List.prefix_append _ _)⟩),?_,HK2.out.trans (hk3.sub HQ.out.1)⟩
      rw [HPR.out] at hx3
      simpa using HJX.out.sub hx3 HQ.out.1
    ·refine⟨_,rfl,?_⟩
     gi_wp2_with (refine⟨trivial,?_⟩)
     go_ret
     refine .inr ⟨rfl,stmL (l.take j)++[⟨ka,sa,na,ra,ya,ea,qa⟩],stmL_cut HTa.out (by rw [stmS];simp),?_,HF.out.2⟩
     have h:=HF.out.1
     rw [HPR.out] at h
     simpa using h
  ·obtain rfl:j=l.length:=by omega
   rw [List.take_length] at HJ
   gi_wp2
   go_ret
   exact .inl ⟨rfl,HJ.out,HK.out⟩
open Go.ChangeShapes Go.WideShapes Go.ChangeAt
section
variable {α:Type}{k:Nat}{enc:α→List Value}
theorem flatL_set1 (E:Enc k enc):∀(xs:List α) (i f:Nat) (x:α) (v:Value) (hi:i < xs.length),f < k→enc x=(enc xs[i]).set f v→flatL enc (xs.set i x)=(flatL enc xs).set (i * k+f) v
 | y :: ys,0,f,x,v,_,hf,hx=>by
   rw [zz5,flatL_cons,flatL_cons,Nat.zero_mul,Nat.zero_add,List.set_append_left _ _ (by rw [E.len];exact hf),hx]
   rfl
 | y :: ys,i+1,f,x,v,hi,hf,hx=>by
   have hs:(i+1) * k+f=(enc y).length+(i * k+f):=by rw [E.len,Nat.succ_mul];omega
   rw [zz6,flatL_cons,flatL_cons,flatL_set1 E ys i f x v (by simpa using hi) hf (by simpa using hx),hs,List.set_append_right _ _ (Nat.le_add_right _ _),Nat.add_sub_cancel_left]
theorem OwR.set1 {w:World}{base:Nat}{e:TypeId}{xs:List α}(E:Enc k enc){b n c:Nat}(h:OwR w base e k enc (.slice (some ⟨b,0,none⟩) n c) xs) (i f:Nat) (x:α) (v:Value) (hi:i < xs.length) (hf:f < k) (hx:enc x=(enc xs[i]).set f v) :
 OwR (w.setCell ⟨b,i * k+f,none⟩ v) base e k enc (.slice (some ⟨b,0,none⟩) n c) (xs.set i x):=by
 obtain ⟨rfl,_⟩:=h.rd E
 have h2:World.ownsRow w base e k (.slice (some ⟨b,0,none⟩) xs.length c) xs.length (flatL enc xs):=h
 have h3:=(World.ownsRow.stored h2 (i * k+f) v).1
 show World.ownsRow _ _ _ _ _ _ _
 rw [List.length_set,flatL_set1 E xs i f x v hi hf hx]
 exact h3
def Frs (k:Nat) (enc:α→List Value) (e:TypeId) (N:Nat) (p:Option Addr) (c:Nat) (L:List α) (w:World):Prop:=Rw k enc w p c L∧(0 < L.length→OwR w N e k enc (.slice p L.length c) L)
theorem Frs.kept {e:TypeId}{N:Nat}{p:Option Addr}{c:Nat}{L:List α}{w w':World}(h:Frs k enc e N p c L w) (hg:Grew w w'):Frs k enc e N p c L w':=⟨h.1.kept hg,fun hn=>(h.2 hn).kept hg⟩
end
theorem run_append_litF {α:Type}{k:Nat}{enc:α→List Value}{P:Program}{w:World}(E:Enc k enc) (t ty e:TypeId) (z:Value) (by':Nat) (ht:P.underlying t=some (.slice e)) (hi:(P.info? e).map (fun i=>(i.zero,i.size,i.bytes))=some (some z,k,by')) (hzs:z.cells.size=k)
 (q:Nat) (p:Option Addr) (n c:Nat) (ys:List α) (hl:ys.length=n) (hin:Rw k enc w p c ys) (hbytes:n * by'≤140737488355328) (h63:n≤9223372036854775807) :
 ∃p' c' w',(Builtin.append_ #[t,t] ty #[.slice (some ⟨q,0,none⟩) 0 0,.slice p n c]).run P w=.ok (.slice p' n c') w'∧Frs k enc e w.heap.size p' c' ys w'∧Grew w w':=by
 obtain ⟨i,hi,hz0,hz1,hz2⟩:=info_parts hi
 subst hl
 by_cases hn:ys.length=0
 ·obtain rfl:=List.eq_nil_of_length_eq_zero hn
  have hs:Src P i.size t (.slice p ([]:List α).length c) 0 [] w:=by
   cases p with
   | none=>exact Src.ofNil w ht c
   | some a=>exact Src.ofSlice w ht a 0 c [] (by simp) (by simp) (by simp)
  exact⟨some ⟨q,0,none⟩,0,w,run_append_nothing w t t ty e i ht hi (some ⟨q,0,none⟩) 0 0 (Nat.le_refl _) _ hs,⟨⟨RdL.nil _ _ _ _ _ (by omega),fun h=>nomatch h⟩,fun h=>absurd h (by simp)⟩,Grew.refl _⟩
 ·obtain ⟨b,o,rfl,hc⟩:=hin.rd.cells (by omega)
  have hlen:(flatL enc ys).length=ys.length * i.size:=by rw [hz1];exact flatL_len E ys
  have hr:=run_append_grow (P:=P) (w:=w) t ty e i z ht hi hz0 ⟨q,0,none⟩ 0 0 [] (by simp) (by simp) ⟨b,o,none⟩ ys.length c (flatL enc ys) hlen (fun j u hj=>by
   obtain ⟨x,hx,hu⟩:=flatL_at E ys j u hj
   have h1:=hc _ x hx _ u hu
   rw [Go.WideShapes.add_plain]
   rwa [Nat.add_assoc,Nat.mul_comm,Nat.div_add_mod] at h1) (by omega) (by omega) (growslice_fits (by omega) (by rw [Nat.zero_add,hz2];exact hbytes))
  have hge:=grownCap_ge w (0+ys.length) 0 e
  have hcm:=grownCap_le_maxLen w (0+ys.length) 0 e (by simp only [maxLen];omega)
  simp only [Nat.zero_add] at hr hge hcm
  have ho:OwR (w.drew.alloc (.cells (([]:List Value).toArray++(flatL enc ys).toArray++Builtin.zeroCells z.cells (grownCap w ys.length 0 e - ys.length)) e)) w.heap.size e k enc (.slice (some ⟨w.heap.size,0,none⟩) ys.length (grownCap w ys.length 0 e)) ys:=by
   refine⟨flatL_len E ys,.inr ⟨w.heap.size,_,_,rfl,Nat.le_refl _,heap_alloc_new w.drew _,by omega,hcm,?_,?_⟩⟩
   ·simp only [Array.size_append,List.size_toArray,size_zeroCells,hzs,List.length_nil,Nat.zero_add]
    rw [flatL_len E ys,← Nat.add_mul]
    congr 1
    omega
   ·simp only [Array.toList_append,List.nil_append]
    rw [← flatL_len E ys]
    exact List.take_left
  exact⟨_,_,_,hr,⟨(ho.rd E).2,fun _=>ho⟩,(Grew.refl w).drw.trans ((Grew.refl _).alloc _)⟩
theorem wpList_append_litF {α:Type}{k:Nat}{enc:α→List Value}{P:Program}{w:World}{a:Act}{ops:Array Oper}{rest:List Oper}{o:Oper}{Q:Exit→Act→World→Prop}(E:Enc k enc) (hgd:o.guard=none) (s x:Operand) (t:TypeId)
 (ho:o.op=.call { callee:=.builtin .append,args:=#[s,x],argTypes:=#[t,t] })
 (e:TypeId) (z:Value) (by':Nat) (ht:P.underlying t=some (.slice e)) (hi:(P.info? e).map (fun i=>(i.zero,i.size,i.bytes))=some (some z,k,by')) (hzs:z.cells.size=k)
 (q:Nat) (hs:a.eval s=.slice (some ⟨q,0,none⟩) 0 0) (p:Option Addr) (n c:Nat) (ys:List α) (hx:a.eval x=.slice p n c) (hl:ys.length=n) (hin:Rw k enc w p c ys) (hbytes:n * by'≤140737488355328) (h63:n≤9223372036854775807)
 (h:∀p' c' w',Frs k enc e w.heap.size p' c' ys w'→Grew w w'→wpList P ops Q rest (a.put o.dst (.slice p' n c')) w'):wpList P ops Q (o :: rest) a w:=by
 obtain ⟨p',c',w',hrun,h2,h3⟩:=run_append_litF (P:=P) E t o.type e z by' ht hi hzs q p n c ys hl hin hbytes h63
 refine wpList_plain hgd fun K hK=>?_
 unfold Oper.wp
 simp [execOp,ho,resolve,invoke,builtin,hs,hx,hrun,Result.andThen]
 exact hK _ _ (h p' c' w' h2 h3)
open Go.Lib (decDigits itoa parseUintM parseUintB parseIntB nDigits NumEnd)

theorem ret_bool {a b:Bool}(h:a=b):Ending.returned (.bool a)=.returned (.bool b):=by rw [h]
theorem str_append (a b:List UInt8):(⟨a.toArray⟩:ByteArray)++⟨b.toArray⟩=⟨(a++b).toArray⟩:=by
 apply ByteArray.ext;simp

theorem decDigits_pow (u:Nat):∀k,u < 10 ^ (k+1)→(decDigits u).length≤k+1:=by
 intro k
 induction k generalizing u with
 | zero=>intro h;rw [Lib.decDigits_length,Lib.nDigits_small (by omega)];omega
 | succ k ih =>
   intro h
   by_cases hu:u < 10
   ·rw [Lib.decDigits_length,Lib.nDigits_small hu];omega
   ·have h2:u / 10 < 10 ^ (k+1):=by
     rw [Nat.pow_succ] at h
     exact Nat.div_lt_of_lt_mul (by omega)
    have:=ih (u / 10) h2
    rw [Lib.decDigits_length] at this ⊢
    rw [Lib.nDigits_big hu]
    omega
def dval (acc:Nat):List UInt8→Nat
 | []=>acc
 | c :: r=>dval (10 * acc+(c.toNat - 48)) r
section
variable {P:Program}{ops:Array Oper}{Q:Exit→Act→World→Prop}{R:World→World→Prop}{F:Nat→Value→World→Prop}{sl:List (Option Nat)}{D:List Bool}{a0:Act}{w0:World}
theorem posts_list (hok:regionOk ops sl D=true) (hD:D.length=a0.tmps.size) (hrr:∀w,R w w) (hrt:∀{a b c},R a b→R b c→R a c) (hF:∀i v w w',R w w'→F i v w→F i v w')
 (hs:Steps P R F sl (mixA D a0) w0 0 ops.toList) (hend:∀u w,R w0 w→(∀i,i < ops.size→F i (uval sl u i) w)→Q .normal (mixA D a0 u) w) :
 ∀(n i:Nat),i+n=ops.size→∀(u:Nat→Value) (w:World),R w0 w→(∀k,k < i→F k (uval sl u k) w)→wpList P ops Q (ops.toList.drop i) (mixA D a0 u) w:=by
 simp only [regionOk,Bool.and_eq_true,beq_iff_eq,List.all_eq_true] at hok
 obtain ⟨⟨⟨⟨hsl,hnd⟩,hDs⟩,hgs⟩,hac⟩:=hok
 have hacyc:∀i,i < ops.size→∀o,ops[i]?=some o→∀e ∈ o.after,Region.binds .any e=true→e.on < i:=fun i hi o ho e he hb=>by
  have:=hac i (List.mem_range.2 hi)
  simp only [ho,List.all_eq_true] at this
  have:=this e (Array.mem_toList_iff.2 he)
  simpa [hb] using this
 intro n
 induction n with
 | zero =>
   intro i hi u w hR hp
   have:ops.toList.drop i=[]:=List.drop_of_length_le (by simp;omega)
   rw [this]
   exact hend u w hR fun k hk=>hp k (by omega)
 | succ n ih =>
   intro i hin u w hR hp
   have hilt:i < ops.size:=by omega
   obtain ⟨o,ho⟩:∃o,ops[i]?=some o:=⟨ops[i],by simp [hilt]⟩
   have hdrop:ops.toList.drop i=o :: ops.toList.drop (i+1):=by
    have h1:i < ops.toList.length:=by simpa using hilt
    rw [List.drop_eq_getElem_cons h1]
    congr 1
    have h2:=(Array.getElem?_eq_some_iff.1 ho).2
    simpa using h2
   have hstep:=hs.at (i:=i) (o:=o) (by simpa using ho) u w hR (deps_of fun e he hb=>hp e.on (hacyc i hilt o ho e (by simpa using he) hb))
   rw [Nat.zero_add] at hstep
   have hslo:=sl_at hsl ho
   -- the next state
   have next:∀(v:Value) (w':World),R w w'→F i (match o.dst with | some _=>v | none=>undef) w'→wpList P ops Q (ops.toList.drop (i+1)) ((mixA D a0 u).put o.dst v) w':=by
    intro v w' hr' hfi
    cases hd:o.dst with
    | none =>
      rw [hd] at hfi hslo
      refine ih (i+1) (by omega) u w' (hrt hR hr') (fun k hk=>?_)
      ·by_cases hki:k=i
       ·subst hki
        have:uval sl u k=undef:=by simp only [uval,hslo]
        rw [this];exact hfi
       ·exact hF _ _ _ _ hr' (hp k (by omega))
    | some d =>
      rw [hd] at hfi hslo
      have hDd:D.getD d false=true:=hDs d (by
       rw [List.mem_filterMap]
       refine⟨some d,?_,rfl⟩
       rw [List.getD_eq_getElem?_getD] at hslo
       cases hx:sl[i]? with
       | none=>simp [hx] at hslo
       | some y=>simp [hx] at hslo;subst hslo;exact List.mem_of_getElem? hx)
      have hput:(mixA D a0 u).put (some d) v=mixA D a0 (fun k=>if k=d then v else u k):=by
       have hm:=mixL_set D a0.tmps.toList u 0 d v (by simpa using hD) hDd
       simp only [Nat.zero_add] at hm
       simp only [mixA,Act.put,zz4,hm]
      rw [hput]
      refine ih (i+1) (by omega) _ w' (hrt hR hr') (fun k hk=>?_)
      ·by_cases hki:k=i
       ·subst hki
        have:uval sl (fun k=>if k=d then v else u k) k=v:=by simp only [uval,hslo,if_true]
        rw [this];exact hfi
       ·have hk':=hp k (by omega)
        have:uval sl (fun k=>if k=d then v else u k) k=uval sl u k:=by
         unfold uval
         cases hx:sl.getD k none with
         | none=>rfl
         | some d' =>
           have:d'≠d:=fun e=>hki (nodup_ne hnd (by rw [hx,e]) hslo)
           simp only [if_neg this]
        rw [this]
        exact hF _ _ _ _ hr' hk'
   -- the guard
   rw [hdrop]
   unfold wpList
   cases hg:o.guard with
   | none =>
     have hw:Region.wanted o (yielded ops (mixA D a0 u).tmps)=true:=by simp [Region.wanted,hg]
     rw [if_pos hw]
     simp only [StepOk,hg] at hstep
     exact .inl (hstep _ _ fun v w' h=>next v w' h.1 h.2)
   | some gb =>
     obtain ⟨g,b⟩:=gb
     simp only [StepOk,hg] at hstep
     have hgsome:=hgs o (by exact Array.mem_toList_iff.2 (Array.mem_of_getElem? ho))
     simp only [hg] at hgsome
     obtain ⟨gs,hgs'⟩:=Option.isSome_iff_exists.1 hgsome
     have hDg:D.getD gs false=true:=hDs gs (by
      rw [List.mem_filterMap]
      refine⟨some gs,?_,rfl⟩
      rw [List.getD_eq_getElem?_getD] at hgs'
      cases hx:sl[g]? with
      | none=>simp [hx] at hgs'
      | some y=>simp [hx] at hgs';subst hgs';exact List.mem_of_getElem? hx)
     have hgo:((ops[g]?).bind (·.dst))=some gs:=by
      cases hog:ops[g]? with
      | none =>
        rw [← hsl,List.getD_eq_getElem?_getD,List.getElem?_map] at hgs'
        simp [hog] at hgs'
      | some og=>have:=sl_at hsl hog;rw [hgs'] at this;simpa using this.symm
     have hy:yielded ops (mixA D a0 u).tmps g=match u gs with | .bool b=>some b | _=>none:=by
      unfold yielded
      rw [hgo]
      have hm:=mixL_get D a0.tmps.toList u 0 gs (by simpa using hD) hDg
      rw [Nat.zero_add] at hm
      simp only [mixA,Option.bind_some,List.getElem?_toArray,hm]
      cases u gs <;> rfl
     have huv:uval sl u g=u gs:=by simp only [uval,hgs']
     rw [huv] at hstep
     by_cases hb:u gs=.bool b
     ·have hw:Region.wanted o (yielded ops (mixA D a0 u).tmps)=true:=by simp [Region.wanted,hg,hy,hb]
      rw [if_pos hw]
      exact .inl (hstep.1 hb _ _ fun v w' h=>next v w' h.1 h.2)
     ·have hw:¬ Region.wanted o (yielded ops (mixA D a0 u).tmps)=true:=by
       simp only [Region.wanted,hg,hy]
       intro h
       apply hb
       revert h
       cases u gs <;> simp
      rw [if_neg hw]
      refine next undef w ?_ ?_
      ·exact hrr w
      ·have:=hstep.2 hb
       cases o.dst <;> exact this
theorem wp_region_postsL {id:Nat}(sl:List (Option Nat)) (D:List Bool) (R:World→World→Prop) (F:Nat→Value→World→Prop) (hok:regionOk ops sl D=true) (hD:D.length=a0.tmps.size)
 (hrr:∀w,R w w) (hrt:∀{a b c},R a b→R b c→R a c) (hF:∀i v w w',R w w'→F i v w→F i v w')
 (hs:Steps P R F sl (mixA D a0) w0 0 ops.toList) (hend:∀u w,R w0 w→(∀i,i < ops.size→F i (uval sl u i) w)→Q .normal (mixA D a0 u) w):(Code.region id ops false).wp P Q a0 w0:=by
 refine wp_region_list ?_
 have h0:mixA D a0 (fun t=>a0.tmps.getD t undef)=a0:=by
  unfold mixA
  rw [mixL_self D a0.tmps.toList _ 0 fun k hk=>by simp]
 have:=posts_list (P:=P) (ops:=ops) (Q:=Q) hok hD hrr hrt hF hs hend ops.size 0 (by omega) (fun t=>a0.tmps.getD t undef) w0 (hrr _) (fun i hi=>by omega)
 rw [h0] at this
 exact this
theorem wp_postsL {id:Nat}(sl:List (Option Nat)) (D:List Bool) (ps:List (Value→World→Prop)) (hok:regionOk ops sl D=true) (hD:D.length=a0.tmps.size) (hps:Monos ps)
 (hs:Steps P Grew (postAt ps) sl (mixA D a0) w0 0 ops.toList) (hend:∀u w,Grew w0 w→(∀i,i < ops.size→postAt ps i (uval sl u i) w)→Q .normal (mixA D a0 u) w):(Code.region id ops false).wp P Q a0 w0 :=
 wp_region_postsL sl D Grew (postAt ps) hok hD Grew.refl Grew.trans hps.at hs hend
theorem wp_stillL {id:Nat}(sl:List (Option Nat)) (D:List Bool) (ps:List (Value→World→Prop)) (hok:regionOk ops sl D=true) (hD:D.length=a0.tmps.size)
 (hs:Steps P Still (postAt ps) sl (mixA D a0) w0 0 ops.toList) (hend:∀u,(∀i,i < ops.size→postAt ps i (uval sl u i) w0)→Q .normal (mixA D a0 u) w0):(Code.region id ops false).wp P Q a0 w0 :=
 wp_region_postsL sl D Still (postAt ps) hok hD (fun _=>rfl) (fun h h'=>h'.trans h) (fun _ _ _ _ h p=>by rw [show _=_ from h];exact p) hs (fun u w h hp=>by
  obtain rfl:w=w0:=h
  exact hend u hp)
end

def StepsV (P:Program) (R Rn:World→World→Prop) (wr er:Nat→Bool) (F:Nat→Value→World→Prop) (sl:List (Option Nat)) (A:(Nat→Value)→Act) (w0:World):Nat→List Oper→Prop
 | _,[]=>True
 | i,o :: os=>(∀u w,R w0 w→(er i=true→Rn w0 w)→deps F sl u w o.after.toList→StepOk P (bif wr i then R else Rn) F sl i o u (A u) w)∧StepsV P R Rn wr er F sl A w0 (i+1) os
theorem StepsV.at {P:Program}{R Rn:World→World→Prop}{wr er:Nat→Bool}{F:Nat→Value→World→Prop}{sl:List (Option Nat)}{A:(Nat→Value)→Act}{w0:World}:∀{n:Nat}{os:List Oper},StepsV P R Rn wr er F sl A w0 n os →
 ∀{i:Nat}{o:Oper},os[i]?=some o→∀u w,R w0 w→(er (n+i)=true→Rn w0 w)→deps F sl u w o.after.toList→StepOk P (bif wr (n+i) then R else Rn) F sl (n+i) o u (A u) w
 | _,[],_,_,_,h=>by simp at h
 | n,o :: os,h,0,_,e=>by
   obtain rfl:o=_:=by simpa using e
   exact h.1
 | n,o :: os,h,i+1,o',e=>by
   have:=StepsV.at h.2 (i:=i) (by simpa using e)
   rwa [show n+1+i=n+(i+1) by omega] at this
section
variable {P:Program}{ops:Array Oper}{Q:Exit→Act→World→Prop}{R Rn:World→World→Prop}{F:Nat→Value→World→Prop}{sl:List (Option Nat)}{D:List Bool}{a0:Act}{w0:World}
end
set_option maxRecDepth 8000
mutual
def stX:Xp→Xp
 | ⟨k,s,v,o,ar,_⟩=>⟨k,s,v,o,stXs ar,0⟩
def stXs:List Xp→List Xp
 | []=>[]
 | x :: xs=>stX x :: stXs xs
end
abbrev Fresh (a b:Nat):Nat→Prop:=fun k=>a≤k∧k < b
def eqH (kx:Int) (sx:ByteArray) (vx ox:Int) (nx:Nat) (ky:Int) (sy:ByteArray) (vy oy:Int) (ny:Nat):Bool:=!((((((kx) != (ky))||(!decide ((sx)=(sy))))||((vx) != (vy)))||((ox) != (oy)))||((((nx:Nat):Int)) != (((ny:Nat):Int))))
mutual
def eqX:Xp→Xp→Bool
 | ⟨k,s,v,o,ar,_⟩,⟨k',s',v',o',ar',_⟩=>eqH k s v o ar.length k' s' v' o' ar'.length&&eqXs ar ar'
def eqXs:List Xp→List Xp→Bool
 | x :: xs,y :: ys=>eqX x y&&eqXs xs ys
 | _,_=>true
end
theorem eqXs_nil (l:List Xp):eqXs [] l=true:=by rw [eqXs];simp
theorem eqXs_snoc:∀(a b:List Xp) (x y:Xp),a.length=b.length→eqXs (a++[x]) (b++[y])=(eqXs a b&&eqX x y)
 | [],[],x,y,_=>by rw [List.nil_append,List.nil_append,eqXs,eqXs_nil,Bool.and_true,Bool.true_and]
 | u :: a,v :: b,x,y,h=>by
   rw [List.cons_append,List.cons_append,eqXs,eqXs,eqXs_snoc a b x y (by simpa using h),Bool.and_assoc]
theorem eqXs_no:∀(a b:List Xp) (j:Nat) (hj:j < a.length) (hj':j < b.length),eqX a[j] b[j]=false→eqXs a b=false
 | x :: a,y :: b,0,_,_,h=>by
   rw [eqXs]
   simp only [zz2] at h
   rw [h,Bool.false_and]
 | x :: a,y :: b,j+1,h1,h2,h=>by
   rw [eqXs,eqXs_no a b j (by simpa using h1) (by simpa using h2) (by simpa using h),Bool.and_false]

def ws (b:UInt8):Bool:=[32,9,10,13].contains b
def ltr (b:UInt8):Bool:=(decide (97≤b.toNat)&&decide (b.toNat≤122))||((decide (65≤b.toNat)&&decide (b.toNat≤90))||decide (b.toNat=95))
def dig (b:UInt8):Bool:=decide (48≤b.toNat)&&decide (b.toNat≤57)
def wd (b:UInt8):Bool:=ltr b||dig b
def sk:Bool→List UInt8→List UInt8
 | _,[]=>[]
 | true,b :: r=>if b==10 then sk false r else sk true r
 | false,b :: r=>if ws b then sk false r else if b==47&&r.head?==some 47 then sk true r else b :: r
def mk2 (a b:UInt8):Bool:=(b==61&&(a==33||a==60||a==61||a==62))||(a==38&&b==38)||(a==124&&b==124)
def mk1 (a:UInt8):Bool:=[33,37,40,41,42,43,44,45,47,59,60,61,62,91,93,123,125].contains a
def mkl:List UInt8→Nat
 | []=>0
 | [a]=>if mk1 a then 1 else 0
 | a :: b :: _=>if mk2 a b then 2 else if mk1 a then 1 else 0
def fl:List UInt8→Nat
 | []=>0
 | a :: r=>if ltr a then 1+(r.takeWhile wd).length else if dig a then 1+(r.takeWhile dig).length else max 1 (mkl (a :: r))
def ft (xs:List UInt8):List UInt8:=xs.take (fl xs)

theorem sk_le (xs:List UInt8):∀c,(sk c xs).length≤xs.length:=by
 induction xs with
 | nil=>intro c;cases c <;> simp [sk]
 | cons b r ih =>
   intro c
   cases c <;> simp only [sk]
   ·split
    ·have:=ih false;simp;omega
    ·split
     ·have:=ih true;simp;omega
     ·simp
   ·split
    ·have:=ih false;simp;omega
    ·have:=ih true;simp;omega
theorem sk_fix {b:UInt8}{r:List UInt8}:sk false (b :: r)=b :: r↔ws b=false∧(b==47&&r.head?==some 47)=false:=by
 constructor
 ·intro h
  have hl:=congrArg List.length h
  simp only [sk] at hl
  split at hl
  ·have:=sk_le r false
   rw [List.length_cons] at hl
   omega
  ·split at hl
   ·have:=sk_le r true
    rw [List.length_cons] at hl
    omega
   ·rename_i h1 h2
    exact⟨by simpa using h1,by simpa using h2⟩
 ·rintro ⟨h1,h2⟩
  simp only [sk,h1,h2]
  rfl
theorem mkl_le (xs:List UInt8):mkl xs≤xs.length∧mkl xs≤2:=by
 match xs with
 | []=>simp [mkl]
 | [a]=>simp only [mkl];split <;> simp
 | a :: b :: r=>simp only [mkl];split <;> (try split) <;> simp <;> omega
theorem fl_pos {xs:List UInt8}(h:xs≠[]):1≤fl xs:=by
 match xs,h with
 | a :: r,_=>simp only [fl];split <;> (try split) <;> omega
theorem tw_le (p:UInt8→Bool) (r:List UInt8):(r.takeWhile p).length≤r.length:=by
 induction r with
 | nil=>simp
 | cons a r ih=>rw [List.takeWhile_cons];split <;> simp;exact ih
theorem fl_le (xs:List UInt8):fl xs≤xs.length:=by
 match xs with
 | []=>simp [fl]
 | a :: r =>
   have h1:=tw_le wd r
   have h2:=tw_le dig r
   have h3:=(mkl_le (a :: r)).1
   simp only [fl,List.length_cons] at *
   split <;> (try split) <;> omega
theorem ft_len (xs:List UInt8):(ft xs).length=fl xs:=by
 rw [ft,List.length_take,Nat.min_eq_left (fl_le xs)]
theorem tw_tw (p:UInt8→Bool) (r:List UInt8):(r.take (r.takeWhile p).length).takeWhile p=r.takeWhile p∧r.take (r.takeWhile p).length=r.takeWhile p:=by
 induction r with
 | nil=>simp
 | cons a r ih =>
   by_cases ha:p a=true
   ·have h1:=ih.1
    rw [ih.2] at h1
    simp [ha,ih.2,h1]
   ·simp [ha]
theorem fl_ft (xs:List UInt8):fl (ft xs)=fl xs:=by
 match xs with
 | []=>rfl
 | a :: r =>
   by_cases h1:ltr a=true
   ·have h:fl (a :: r)=1+(r.takeWhile wd).length:=by simp only [fl];rw [if_pos h1]
    have h':ft (a :: r)=a :: r.take (r.takeWhile wd).length:=by rw [ft,h,Nat.add_comm 1,List.take_succ_cons]
    rw [h',h]
    simp only [fl]
    rw [if_pos h1,(tw_tw wd r).1]
   ·by_cases h2:dig a=true
    ·have h:fl (a :: r)=1+(r.takeWhile dig).length:=by simp only [fl];rw [if_neg h1,if_pos h2]
     have h':ft (a :: r)=a :: r.take (r.takeWhile dig).length:=by rw [ft,h,Nat.add_comm 1,List.take_succ_cons]
     rw [h',h]
     simp only [fl]
     rw [if_neg h1,if_pos h2,(tw_tw dig r).1]
    ·have h:∀r,fl (a :: r)=max 1 (mkl (a :: r)):=fun r=>by simp only [fl];rw [if_neg h1,if_neg h2]
     have h3:=(mkl_le (a :: r)).2
     rw [ft]
     rw [h r]
     match r with
     | [] =>
       have:max 1 (mkl [a])=1:=by simp only [mkl];split <;> rfl
       rw [this,List.take_succ_cons,List.take_zero,h,this]
     | b :: r =>
       by_cases h4:mk2 a b=true
       ·have:∀r,mkl (a :: b :: r)=2:=fun r=>by simp only [mkl];rw [if_pos h4]
        rw [this,show max 1 2=2 from rfl,List.take_succ_cons,List.take_succ_cons,List.take_zero,h,this]
        rfl
       ·have:max 1 (mkl (a :: b :: r))=1:=by simp only [mkl];rw [if_neg h4];split <;> rfl
        rw [this,List.take_succ_cons,List.take_zero,h]
        simp only [mkl]
        split <;> rfl
theorem ft_ne {xs:List UInt8}(h:xs≠[]):ft xs≠[]:=fun h0=>by
 have h1:=ft_len xs
 have h2:=fl_pos h
 rw [h0] at h1
 simp at h1
 omega
theorem sk_ft {xs:List UInt8}(h:sk false xs=xs):sk false (ft xs)=ft xs:=by
 match xs,h with
 | [],_=>rfl
 | a :: r,h =>
   have h1:=sk_fix.1 h
   obtain ⟨k,hk⟩:∃k,fl (a :: r)=k+1:=⟨fl (a :: r) - 1,by have:=fl_pos (xs:=a :: r) (by simp);omega⟩
   rw [ft,hk,List.take_succ_cons]
   refine sk_fix.2 ⟨h1.1,?_⟩
   have h2:=h1.2
   cases r with
   | nil=>simp
   | cons b r =>
     cases k with
     | zero=>simp
     | succ k=>simpa using h2

structure Gd (t:List UInt8):Prop where
 ne:t≠[]
 fix:sk false t=t
 full:fl t=t.length
theorem Gd.of {xs:List UInt8}(h:xs≠[]) (hs:sk false xs=xs):Gd (ft xs):=⟨ft_ne h,sk_ft hs,by rw [fl_ft,ft_len]⟩
def kwT:List (List UInt8):=[[99,104,97,110,110,101,108],[99,104,101,99,107,112,111,105,110,116],[99,111,110,115,116],[100,101,97,100,108,105,110,101],[101,108,115,101],[101,109,105,116],[101,118,101,114,121],[102,114,101,115,104],[105,102],[108,101,116],[111,110],[111,117,116,112,117,116],[114,101,97,100],[114,101,112,101,97,116],[114,101,116,117,114,110],[115,101,110,100],[115,101,110,115,111,114],[116,97,115,107],[116,111,103,101,116,104,101,114],[118,97,114],[119,104,105,108,101],[119,105,116,104,105,110]]
def idc:List UInt8→Bool
 | []=>true
 | c :: r=>ltr c&&r.all wd
def idB (t:List UInt8):Bool:=!(kwT.contains t)&&(idc t&&(decide (1≤t.length)&&decide (t.length≤32)))
abbrev idn (s:ByteArray):Bool:=idB s.data.toList
def num1 (n l:Int):Bool:=decide (l≤n)&&decide (n≤32767)
def arK (k:Int):Int:=if k=1∨k=2∨k=4 then 0 else if k=3∨k=5 then 1 else if k=6 then 2 else -1
def bnS (k:Int) (s:ByteArray):ByteArray:=if k=2∨k=3∨k=4 then s else ⟨#[]⟩
def bnV (k v:Int):Int:=if k=1 then v else 0
def bnO (k o:Int):Int:=if k=1∨k=2∨k=3∨k=4 then 0 else o
def hdX (k:Int) (s:ByteArray) (v o:Int) (n:Nat):Bool:=!(((((n:Int) != arK k)||(!decide (s=bnS k s)))||(v != bnV k v))||(o != bnO k o))
def kdX (k:Int) (s:ByteArray) (v o:Int):Bool:=if k=1 then decide (0≤v) else if k=5 then (o==1||o==2) else if k=6 then (decide (3≤o)&&decide (o≤15)) else idn s
mutual
def okX:Xp→Bool
 | ⟨k,s,v,o,ar,_⟩=>hdX k s v o ar.length&&(okXs ar&&kdX k s v o)
def okXs:List Xp→Bool
 | []=>true
 | x :: xs=>okX x&&okXs xs
end
theorem okXs_all:∀{l:List Xp},okXs l=true↔∀x ∈ l,okX x=true
 | []=>⟨fun _ _ h=>(nomatch h),fun _=>rfl⟩
 | x :: l=>by rw [okXs,Bool.and_eq_true,okXs_all,List.forall_mem_cons]
theorem kx6' (k:Int):k=1∨k=2∨k=3∨k=4∨k=5∨k=6∨(k≠1∧k≠2∧k≠3∧k≠4∧k≠5∧k≠6):=by omega
open Go.Lib (decDigits)
def numZ (z:Int):List UInt8:=if z < 0 then 45 :: decDigits (-z).toNat else decDigits z.toNat
def sgL:List (List UInt8):=[[],[45],[33],[43],[45],[42],[47],[37],[61,61],[33,61],[60],[60,61],[62],[62,61],[38,38],[124,124]]
def lvL:List Int:=[0,0,0,4,4,5,5,5,3,3,3,3,3,3,2,1]
def sgT (o:Int):List UInt8:=sgL.getD o.toNat []
def lvT (o:Int):Int:=lvL.getD o.toNat 0
def lvX (k o:Int):Int:=if k=5 then 6 else if k=6 then lvT o else 7
def lfT (o:Int):Int:=if lvT o=3 then 4 else lvT o
def opd (least k o:Int) (t:List UInt8):List UInt8:=if lvX k o < least then 40 :: (t++[41]) else t
def asm (k:Int) (s:ByteArray) (v o:Int) (hs:List (Int × Int)) (ts:List (List UInt8)):List UInt8 :=
 if k=1 then numZ v else if k=3 then (s.data.toList++[91])++ts.getD 0 []++[93] else if k=4 then ([114,101,97,100,40]++s.data.toList)++[41]
 else if k=5 then sgT o++opd 6 (hs.getD 0 (0,0)).1 (hs.getD 0 (0,0)).2 (ts.getD 0 [])
 else if k=6 then ((((opd (lfT o) (hs.getD 0 (0,0)).1 (hs.getD 0 (0,0)).2 (ts.getD 0 []))++[32])++sgT o)++[32])++opd (lvT o+1) (hs.getD 1 (0,0)).1 (hs.getD 1 (0,0)).2 (ts.getD 1 [])
 else s.data.toList
mutual
def txX:Xp→List UInt8
 | ⟨k,s,v,o,ar,_⟩=>asm k s v o (ar.map fun a=>(a.k,a.o)) (txXs ar)
def txXs:List Xp→List (List UInt8)
 | []=>[]
 | x :: xs=>txX x :: txXs xs
end
theorem tx1 (s:ByteArray) (v o q:Int) (ar:List Xp):txX ⟨1,s,v,o,ar,q⟩=numZ v:=by rw [txX];rfl
theorem tx2 (s:ByteArray) (v o q:Int) (ar:List Xp):txX ⟨2,s,v,o,ar,q⟩=s.data.toList:=by rw [txX];rfl
theorem tx3 (s:ByteArray) (v o q:Int) (a:Xp):txX ⟨3,s,v,o,[a],q⟩=(s.data.toList++[91])++txX a++[93]:=by rw [txX,txXs,txXs];rfl
theorem tx4 (s:ByteArray) (v o q:Int) (ar:List Xp):txX ⟨4,s,v,o,ar,q⟩=([114,101,97,100,40]++s.data.toList)++[41]:=by rw [txX];rfl
theorem tx5 (s:ByteArray) (v o q:Int) (a:Xp):txX ⟨5,s,v,o,[a],q⟩=sgT o++opd 6 a.k a.o (txX a):=by rw [txX,txXs,txXs];rfl
theorem tx6 (s:ByteArray) (v o q:Int) (a b:Xp):txX ⟨6,s,v,o,[a,b],q⟩=((((opd (lfT o) a.k a.o (txX a))++[32])++sgT o)++[32])++opd (lvT o+1) b.k b.o (txX b):=by rw [txX,txXs,txXs,txXs];rfl
theorem len2 {α:Type}:∀{l:List α},l.length=2→∃a b,l=[a,b]
 | [a,b],_=>⟨a,b,rfl⟩
theorem ok_cases {k v o q:Int}{s:ByteArray}{ar:List Xp}(h:okX ⟨k,s,v,o,ar,q⟩=true) :
 (k=1∧ar=[]∧s=⟨#[]⟩∧o=0∧0≤v)∨((k=2∨k=4)∧ar=[]∧v=0∧o=0∧idn s=true)∨(k=3∧∃a,ar=[a]∧v=0∧o=0∧idn s=true∧okX a=true) ∨
 (k=5∧∃a,ar=[a]∧s=⟨#[]⟩∧v=0∧(o=1∨o=2)∧okX a=true)∨(k=6∧∃a b,ar=[a,b]∧s=⟨#[]⟩∧v=0∧(3≤o∧o≤15)∧okX a=true∧okX b=true):=by
 rw [okX,Bool.and_eq_true,Bool.and_eq_true] at h
 obtain ⟨h1,h2,h3⟩:=h
 rw [hdX,Bool.not_eq_true',Bool.or_eq_false_iff,Bool.or_eq_false_iff,Bool.or_eq_false_iff] at h1
 obtain ⟨⟨⟨h4,h5⟩,h6⟩,h7⟩:=h1
 replace h4:(ar.length:Int)=arK k:=by simpa using h4
 replace h5:s=bnS k s:=by simpa using h5
 replace h6:v=bnV k v:=by simpa using h6
 replace h7:o=bnO k o:=by simpa using h7
 rcases kx6' k with rfl | rfl | rfl | rfl | rfl | rfl | ⟨n1,n2,n3,n4,n5,n6⟩
 ·exact .inl ⟨rfl,List.eq_nil_of_length_eq_zero (by have:arK 1=0:=rfl;omega),h5,h7,by simpa [kdX] using h3⟩
 ·exact .inr (.inl ⟨.inl rfl,List.eq_nil_of_length_eq_zero (by have:arK 2=0:=rfl;omega),h6,h7,h3⟩)
 ·obtain ⟨a,rfl⟩:∃a,ar=[a]:=List.length_eq_one_iff.1 (by have:arK 3=1:=rfl;omega)
  exact .inr (.inr (.inl ⟨rfl,a,rfl,h6,h7,h3,okXs_all.1 h2 a (by simp)⟩))
 ·exact .inr (.inl ⟨.inr rfl,List.eq_nil_of_length_eq_zero (by have:arK 4=0:=rfl;omega),h6,h7,h3⟩)
 ·obtain ⟨a,rfl⟩:∃a,ar=[a]:=List.length_eq_one_iff.1 (by have:arK 5=1:=rfl;omega)
  exact .inr (.inr (.inr (.inl ⟨rfl,a,rfl,h5,h6,by simpa [kdX] using h3,okXs_all.1 h2 a (by simp)⟩)))
 ·obtain ⟨a,b,rfl⟩:∃a b,ar=[a,b]:=len2 (by have:arK 6=2:=rfl;omega)
  exact .inr (.inr (.inr (.inr ⟨rfl,a,b,rfl,h5,h6,by simpa [kdX] using h3,okXs_all.1 h2 a (by simp),okXs_all.1 h2 b (by simp)⟩)))
 ·exfalso
  have:arK k=-1:=by simp [arK,n1,n2,n3,n4,n5,n6]
  omega
theorem idn_len {s:ByteArray}(h:idn s=true):s.data.toList.length≤32:=by
 rw [idn,idB,Bool.and_eq_true,Bool.and_eq_true,Bool.and_eq_true] at h
 simpa using h.2.2.2
theorem numZ_len {z:Int}(h:-32768≤z∧z≤32767):(numZ z).length≤6:=by
 rw [numZ]
 split
 ·have:=decDigits_pow (-z).toNat 4 (by omega)
  rw [List.length_cons];omega
 ·have:=decDigits_pow z.toNat 4 (by omega)
  omega
theorem sgT_len (o:Int):(sgT o).length≤2:=by
 rw [sgT,List.getD_eq_getElem?_getD]
 cases h:sgL[o.toNat]? with
 | none=>exact Nat.zero_le _
 | some t =>
   have h1:=List.mem_of_getElem? h
   have h2:∀t ∈ sgL,t.length≤2:=by decide
   exact h2 t h1
theorem opd_len (l k o:Int) (t:List UInt8):(opd l k o t).length≤t.length+2:=by
 rw [opd];split
 ·simp
 ·omega
mutual
def fitX:Xp→Prop
 | ⟨_,_,v,_,ar,_⟩=>v≤32767∧fitXs ar
def fitXs:List Xp→Prop
 | []=>True
 | x :: xs=>fitX x∧fitXs xs
end
theorem txX_len:∀x,okX x=true→fitX x→(txX x).length≤64 * nX x:=by
 intro x
 induction x using Xp.ind with
 | h k s v o ar q ih =>
 intro h hf
 rw [fitX] at hf
 rcases ok_cases h with ⟨rfl,rfl,_,_,hv⟩ | ⟨hk,rfl,_,_,hs⟩ | ⟨rfl,a,rfl,_,_,hs,ha⟩ | ⟨rfl,a,rfl,_,_,ho,ha⟩ | ⟨rfl,a,b,rfl,_,_,ho,ha,hb⟩
 ·rw [tx1]
  have:=numZ_len (z:=v) ⟨by omega,hf.1⟩
  rw [nX];omega
 ·have:=idn_len hs
  rcases hk with rfl | rfl
  ·rw [tx2,nX];omega
  ·rw [tx4,nX];simp only [List.length_append,List.length_cons,List.length_nil];omega
 ·have h1:=idn_len hs
  rw [fitXs] at hf
  have h2:=ih a (by simp) ha hf.2.1
  rw [tx3,nX,nXs,nXs];simp only [List.length_append,List.length_cons,List.length_nil];omega
 ·rw [fitXs] at hf
  have h2:=ih a (by simp) ha hf.2.1
  have h3:=sgT_len o
  have h4:=opd_len 6 a.k a.o (txX a)
  rw [tx5,nX,nXs,nXs];simp only [List.length_append];omega
 ·rw [fitXs,fitXs] at hf
  have h2:=ih a (by simp) ha hf.2.1
  have h2b:=ih b (by simp) hb hf.2.2.1
  have h3:=sgT_len o
  have h4:=opd_len (lfT o) a.k a.o (txX a)
  have h5:=opd_len (lvT o+1) b.k b.o (txX b)
  rw [tx6,nX,nXs,nXs,nXs];simp only [List.length_append,List.length_cons,List.length_nil];omega
theorem XL_fit {B:Nat→Prop}{w:World}:∀(n:Nat) (p:Option Addr) (c:Nat) (xs:List Xp),nXs xs < n→XL B w p c xs→fitXs xs:=by
 intro n
 induction n with
 | zero=>intro _ _ _ h;exact absurd h (Nat.not_lt_zero _)
 | succ n ih =>
   intro p c xs hn hx
   obtain ⟨-,L,-,h2⟩:=hx
   induction xs generalizing L with
   | nil=>rw [fitXs];trivial
   | cons x xs ihx =>
     rw [XsAt] at h2
     rw [nXs] at hn
     obtain ⟨d,L',rfl,h3,h4⟩:=h2
     rw [XAt_iff] at h3
     obtain ⟨p',c',_,hz,h5⟩:=h3
     rw [fitXs]
     refine⟨?_,ihx (by have:=nX_pos x;omega) L' h4⟩
     have:=ih p' c' x.ar (by rw [nX_as] at hn;omega) h5
     rw [x.eta,fitX]
     exact⟨hz.2,this⟩
theorem XL.fit {B:Nat→Prop}{w:World}{p:Option Addr}{c:Nat}{xs:List Xp}(h:XL B w p c xs):fitXs xs:=XL_fit _ _ _ _ (Nat.lt_succ_self _) h
theorem XL.fitX {B:Nat→Prop}{w:World}{p:Option Addr}{c:Nat}{x:Xp}(hv:x.v≤32767) (h:XL B w p c x.ar):fitX x:=by
 rw [x.eta,Go.Proofs.YtcknpcbkofgdoaaGreatDoor.fitX]
 exact⟨hv,h.fit⟩
def shN (k:Int):Bool:=decide (k=1∨k=2∨k=7∨k=9∨k=3)
def shM (k:Int):Bool:=decide (k=5∨k=10∨k=11)
def shB (k:Int):Bool:=decide (k=4∨k=5∨k=10∨k=11∨k=6)
def shE (k:Int):Bool:=decide (k=4)
def shA (k:Int):Int:=if k=3 then 2 else if k=1∨k=2∨k=7∨k=9∨k=4∨k=6∨k=8 then 1 else 0
def shO (k:Int):Bool:=decide (1≤k)&&decide (k≤13)
theorem kx13 (k:Int):k=1∨k=2∨k=3∨k=4∨k=5∨k=6∨k=7∨k=8∨k=9∨k=10∨k=11∨k=12∨k=13∨(k≠1∧k≠2∧k≠3∧k≠4∧k≠5∧k≠6∧k≠7∧k≠8∧k≠9∧k≠10∧k≠11∧k≠12∧k≠13):=by omega
def hdS (k:Int) (s:ByteArray) (n:Int) (na nb ne:Nat):Bool:=!((((((((!(shO k))||((((na:Nat):Int)) != (shA k)))||((shN k)&&(!(idn s))))||((!(shN k))&&(!decide ((s)=((⟨([]).toArray⟩:ByteArray))))))||(!(num1 n 0)))||((!(shM k))&&((n) != (0))))||((!(shB k))&&(decide ((0) < (((nb:Nat):Int))))))||((!(shE k))&&(decide ((0) < (((ne:Nat):Int))))))
mutual
def okS:Sm→Bool
 | ⟨k,s,n,ar,b,e,_⟩=>hdS k s n ar.length b.length e.length&&(okXs ar&&(okSs b&&okSs e))
def okSs:List Sm→Bool
 | []=>true
 | x :: xs=>okS x&&okSs xs
end
theorem okSs_all:∀{l:List Sm},okSs l=true↔∀x ∈ l,okS x=true
 | []=>⟨fun _ _ h=>(nomatch h),fun _=>rfl⟩
 | x :: l=>by rw [okSs,Bool.and_eq_true,okSs_all,List.forall_mem_cons]
set_option maxHeartbeats 8000000 in
theorem stms_any:∀(n:Nat) (l:List Sm),nSs l < n→∀(B:Nat→Prop) (w:World) (p:Option Addr) (c:Nat),(∀b,B b→b < w.heap.size)→SL B w p c l→nSs l≤1048576 →
 Calls Tryz.prog 29 #[.slice p l.length c] w fun e w'=>∃p' n' c',e=.returned (.slice p' n' c')∧OwN SsAt 7 sdc w.heap.size B w' 49 p' n' c' (stmL l)∧Grew w w':=by
 intro n
 induction n with
 | zero=>intro _ h;exact absurd h (Nat.not_lt_zero _)
 | succ n ih =>
 intro l hln B w p c hB hx hn
 have HX:Hid (SL B w p c l):=zh hx
 have hcap:l.length≤c:=hx.cap.1
 have hmax:=hx.cap.2.1
 have HB:=zh hB
 obtain ⟨N,hN⟩:∃N,N=w.heap.size:=⟨_,rfl⟩
 have HNW:=zh hN
 rw [← hN] at HB ⊢
 clear hx hB hN
 go_enter Tryz.func29,Tryz.ntmps29
 go_wp2
 go_loopg [3,5,8] l.length (fun gg lv bv iv wr=>∃(j:Nat) (p1:Option Addr) (n1 c1:Nat),lv=.slice p1 n1 c1∧iv=.int .i64 (j:Int)∧j≤l.length∧gg=l.length - j∧Hid (OwN SsAt 7 sdc N B wr 49 p1 n1 c1 (stmL (l.take j)))∧Hid (Grew w wr))
 case atStart=>exact⟨0,none,0,0,rfl,rfl,Nat.zero_le _,rfl,zh (OwN.nil hangsS),zh (Grew.refl _)⟩
 case round =>
  obtain ⟨j,p1,n1,c1,rfl,rfl,hj,rfl,HR,HG⟩:=hrel
  by_cases hlt:j < l.length
  ·have htn:=nSs_take l j
   have hln1:=HR.out.len
   rw [stmL_len] at hln1
   have HBD:Hid (n1≤1048576):=zh (by omega)
   obtain ⟨ba,oa,paa,caa,pba,cba,pea,cea,rfl,hba,haa,hboa,hela,hca⟩:=HX.out.get j hlt
   have hma:=List.getElem_mem hlt
   have hna:=nSs_mem hma
   have hta:=List.take_succ_eq_append_getElem hlt
   have HLa:=zh (Nat.succ_le_of_lt hlt)
   generalize l[j]=xa at *
   obtain ⟨ka,sa,na,ra,ya,ea,qa⟩:=xa
   replace hba:sa.size≤1048576:=hba.2
   have HTa:=zh hta
   have HAa:Hid (XL B w paa caa ra):=zh haa
   have HYa:Hid (SL B w pba cba ya):=zh hboa
   have HEa:Hid (SL B w pea cea ea):=zh hela
   have hcapa:ra.length≤caa∧ya.length≤cba∧ea.length≤cea:=⟨haa.cap.1,hboa.cap.1,hela.cap.1⟩
   have hmaxa:=And.intro haa.cap.2.1 (And.intro hboa.cap.2.1 hela.cap.2.1)
   replace hca:∀i_ u_,(sdc ⟨ka,sa,na,paa,ra.length,caa,pba,ya.length,cba,pea,ea.length,cea,qa⟩)[i_]?=some u_→wr.cell? ⟨ba,oa+j * 7+i_,none⟩=some u_:=fun i_ u_ h_=>Atv.kept (hca i_ u_ h_) HG.out
   have ca0:wr.cell? ⟨ba,oa+j * 7,none⟩=some (.int .i64 ka):=by simpa using hca 0 _ rfl
   have ca1:wr.cell? ⟨ba,oa+j * 7+1,none⟩=some (.string sa):=hca 1 _ rfl
   have ca2:wr.cell? ⟨ba,oa+j * 7+2,none⟩=some (.int .i64 na):=hca 2 _ rfl
   have ca3:wr.cell? ⟨ba,oa+j * 7+3,none⟩=some (.slice paa ra.length caa):=hca 3 _ rfl
   have ca4:wr.cell? ⟨ba,oa+j * 7+4,none⟩=some (.slice pba ya.length cba):=hca 4 _ rfl
   have ca5:wr.cell? ⟨ba,oa+j * 7+5,none⟩=some (.slice pea ea.length cea):=hca 5 _ rfl
   have ca6:wr.cell? ⟨ba,oa+j * 7+6,none⟩=some (.int .i64 qa):=hca 6 _ rfl
   clear hca haa hboa hela hta
   have hns:nS ⟨ka,sa,na,ra,ya,ea,qa⟩=nSs ya+nSs ea+1:=rfl
   have HIY:=zh (fun W (hW:Grew w W)=>(show Calls Tryz.prog 29 #[.slice pba ya.length cba] W fun e w'=>∃p' n' c',e=.returned (.slice p' n' c')∧OwN SsAt 7 sdc W.heap.size B w' 49 p' n' c' (stmL ya)∧Grew W w' from ih ya (by omega) B W pba cba (fun b hb=>by have h1:=HB.out b hb;have h2:=hW.sz;have h3:=HNW.out;omega) (HYa.out.kept hW) (by omega)))
   have HIE:=zh (fun W (hW:Grew w W)=>(show Calls Tryz.prog 29 #[.slice pea ea.length cea] W fun e w'=>∃p' n' c',e=.returned (.slice p' n' c')∧OwN SsAt 7 sdc W.heap.size B w' 49 p' n' c' (stmL ea)∧Grew W w' from ih ea (by omega) B W pea cea (fun b hb=>by have h1:=HB.out b hb;have h2:=hW.sz;have h3:=HNW.out;omega) (HEa.out.kept hW) (by omega)))
   have HNY:Hid (nSs ya≤1048576∧nSs ea≤1048576):=zh (by omega)
   have HSZ:=zh (by have h1:=HG.out.sz;have h2:=HNW.out;omega:N≤wr.heap.size)
   clear hma hna htn hln1 hns
   go_wp2_with (first
    | (at_builtin;refine wpList_append_own hangsS rfl _ _ 40 rfl N 49 zS 112 Tryz.underlying40 infoS rfl _ _ _ _ rfl (HR.out.kept hangsS (((Grew.refl wr).alloc _).alloc _)) _ _ _ _ rfl (InN.made hangsS _ _ ⟨ka,sa,na,ra,ya,ea,qa⟩ _ _ _ _ (sat1 hba (HAa.out.kept (HG.out.alloc _)) (HYa.out.kept (HG.out.alloc _)) (HEa.out.kept (HG.out.alloc _))) (alloc_sz _ _) rfl) (fun b hb=>HR.out.off hangsS (HB.out b hb)) (by have h1:=HBD.out;omega) (by have h1:=HBD.out;omega) (by have h1:=HSZ.out;rw [alloc_sz,alloc_sz];omega) ?_;intro p2 c2 w2 ho2 hp2;have HO2:=zh ho2;have HP2:=zh hp2;have HX2:=zh (hp2.blk ((Blk.new wr [.int .i64 ka,.string sa,.int .i64 na,.slice paa ra.length caa,.slice pba ya.length cba,.slice pea ea.length cea,.int .i64 qa] 49).grew ((Grew.refl _).alloc _)) (HR.out.offTop hangsS (Nat.le_refl _)));have HF2:=zh (hp2.off (S:=wr.heap.size) (by rw [alloc_sz,alloc_sz];omega) (HR.out.offTop hangsS (Nat.le_refl _)));have HG2:Hid (Grew w w2):=zh (Below.trans ((HG.out.alloc _).alloc _) (HNW.out ▸ hp2.below));have r4:w2.cell? ⟨wr.heap.size,4,none⟩=some (.slice pba ya.length cba):=HX2.out.cell 4;have r5:w2.cell? ⟨wr.heap.size,5,none⟩=some (.slice pea ea.length cea):=HX2.out.cell 5;clear ho2 hp2)
    | (go_at_call 29;(with_reducible refine(HIY.out _ HG2.out).mono ?_);rintro e w3 ⟨p3,n3,c3,rfl,ho3,g3⟩;have hl3:=ho3.len;rw [stmL_len] at hl3;have HL3:Hid (n3≤1048576):=zh (by have:=HNY.out;omega);have HO3:=zh (ho3.inN hangsS);have HQ3:=zh g3;have HX3:=zh (HX2.out.grew g3);have HG3:=zh (HG2.out.trans g3);clear ho3 g3 hl3 r4 r5;have r4:w3.cell? ⟨wr.heap.size,4,none⟩=some (.slice pba ya.length cba):=HX3.out.cell 4;have r5:w3.cell? ⟨wr.heap.size,5,none⟩=some (.slice pea ea.length cea):=HX3.out.cell 5)
    | (at_builtin;refine wpList_append_own hangsS rfl _ _ 40 rfl N 49 zS 112 Tryz.underlying40 infoS rfl _ _ _ _ rfl (HO2.out.kept hangsS HQ3.out) _ _ _ _ rfl (HO3.out) (fun b hb=>HO2.out.off hangsS (HB.out b hb)) (by have h1:=HBD.out;have h2:=HL3.out;omega) (by have h1:=HBD.out;have h2:=HL3.out;omega) (by have h1:=HG3.out.sz;have h2:=HNW.out;omega) ?_;intro p4 c4 w4 ho4 hp4;have HO4:=zh ho4;have HP4:=zh hp4;have HX4:=zh (hp4.blk HX3.out HF2.out);have HF4:=zh (hp4.off HX3.out.lt HF2.out);have HG4:Hid (Grew w w4):=zh (Below.trans HG3.out (HNW.out ▸ hp4.below));clear r4 r5;have r4:w4.cell? ⟨wr.heap.size,4,none⟩=some (.slice pba ya.length cba):=HX4.out.cell 4;have r5:w4.cell? ⟨wr.heap.size,5,none⟩=some (.slice pea ea.length cea):=HX4.out.cell 5;clear ho4 hp4)
    | (go_at_call 29;(with_reducible refine(HIE.out _ HG4.out).mono ?_);rintro e w5 ⟨p5,n5,c5,rfl,ho5,g5⟩;have hl5:=ho5.len;rw [stmL_len] at hl5;have HL5:Hid (n5≤1048576):=zh (by have:=HNY.out;omega);have HO5:=zh (ho5.inN hangsS);have HQ5:=zh g5;have HG5:=zh (HG4.out.trans g5);clear ho5 g5 hl5 r4 r5)
    | (at_builtin;refine wpList_append_own hangsS rfl _ _ 40 rfl N 49 zS 112 Tryz.underlying40 infoS rfl _ _ _ _ rfl (HO4.out.kept hangsS HQ5.out) _ _ _ _ rfl (HO5.out) (fun b hb=>HO4.out.off hangsS (HB.out b hb)) (by have h1:=HBD.out;have h2:=HL3.out;have h3:=HL5.out;omega) (by have h1:=HBD.out;have h2:=HL3.out;have h3:=HL5.out;omega) (by have h1:=HG5.out.sz;have h2:=HNW.out;omega) ?_;intro p6 c6 w6 ho6 hp6;have HO6:=zh ho6;have HP6:=zh hp6;have HG6:Hid (Grew w w6):=zh (Below.trans HG5.out (HNW.out ▸ hp6.below));clear ho6 hp6))
   go_roundg (l.length - (j+1))
   case measure=>have:=HLa.out;omega
   case rel=>exact⟨j+1,p6,_,c6,rfl,by go_num,HLa.out,rfl,zh (by
    rw [HTa.out,stmL_append,stmL_one,stmS]
    have h5:=HO6.out
    simp only [List.append_assoc,List.cons_append,List.nil_append] at h5 ⊢
    exact h5),HG6⟩
  ·obtain rfl:j=l.length:=by omega
   rw [List.take_length] at HR
   go_wp2
   go_ret
   rw [HNW.out] at HR ⊢
   exact⟨p1,n1,c1,rfl,HR.out,HG.out⟩
theorem flatS_snoc {l:List Sm}{j:Nat}{x:Sm}(h:l.take (j+1)=l.take j++[x]):(l.take (j+1)).flatMap (fun s=>subXs s.ar)=(l.take j).flatMap (fun s=>subXs s.ar)++subXs x.ar:=by
 rw [h,List.flatMap_append,List.flatMap_cons,List.flatMap_nil,List.append_nil]
theorem flatS_take (l:List Sm) (j:Nat):((l.take j).flatMap (fun s=>subXs s.ar)).length≤(l.flatMap (fun s=>subXs s.ar)).length:=by
 have h:l.flatMap (fun s=>subXs s.ar)=(l.take j).flatMap (fun s=>subXs s.ar)++(l.drop j).flatMap (fun s=>subXs s.ar):=by rw [← List.flatMap_append,List.take_append_drop]
 rw [h,List.length_append]
 omega
theorem flatS_mem {l:List Sm}{x:Sm}(h:x ∈ l):nXs x.ar≤(l.flatMap (fun s=>subXs s.ar)).length:=by
 induction l with
 | nil=>cases h
 | cons y l ih =>
   rw [List.flatMap_cons,List.length_append,subXs_len]
   rcases List.mem_cons.1 h with rfl | h
   ·omega
   ·have:=ih h;omega
set_option maxHeartbeats 8000000 in
theorem exprs_any (l:List Sm) (B:Nat→Prop) (w:World) (p:Option Addr) (c:Nat) (hB:∀b,B b→b < w.heap.size) (hx:SL B w p c l) (hn:nSs l≤1048576) (hm:mSs l≤1048576) :
 Calls Tryz.prog 22 #[.slice p l.length c] w fun e w'=>∃p' n' c',e=.returned (.slice p' n' c')∧OwN XsAt 6 xdc w.heap.size B w' 35 p' n' c' (expL l)∧Grew w w':=by
 have HST:=zh (stms_any _ l (Nat.lt_succ_self _) B w p c hB hx hn)
 have hcap:l.length≤c:=hx.cap.1
 have hmax:=hx.cap.2.1
 have hxl:=expL_len l
 rw [expL] at hxl ⊢
 have hml:=stmL_len l
 generalize stmL l=ls at HST hxl hml ⊢
 have HB:=zh hB
 obtain ⟨N,hN⟩:∃N,N=w.heap.size:=⟨_,rfl⟩
 have HNW:=zh hN
 rw [← hN] at HB HST ⊢
 have HXL:=zh hxl
 have HNL:Hid (ls.length≤1048576):=zh (by omega)
 clear hx hB hN hxl hml
 go_enter Tryz.func22,Tryz.ntmps22
 go_wp2_with (go_at_call 29;(with_reducible refine HST.out.mono ?_);rintro e w1 ⟨p0,n0,c0,rfl,ho0,g0⟩;have HX:=zh (ho0.inN hangsS);have HG0:=zh g0;have hl0:=ho0.len;have hk0:=(ho0.inN hangsS).cap hangsS;clear ho0 g0)
 subst hl0
 obtain ⟨M,hM⟩:∃M,M=w1.heap.size:=⟨_,rfl⟩
 have HMW:=zh hM
 replace HB:Hid (∀b,B b→b < M):=zh (fun b hb=>by have h1:=HB.out b hb;have h2:=HG0.out.sz;have h3:=HNW.out;omega)
 clear hM
 have hcap1:=hk0.1
 have hmax1:=hk0.2.1
 clear hk0
 go_loopg [3,5,7,11] ls.length (fun gg lv bv b7 iv wr=>∃(j:Nat) (p1:Option Addr) (n1 c1:Nat),lv=.slice p1 n1 c1∧iv=.int .i64 (j:Int)∧j≤ls.length∧gg=ls.length - j∧Hid (OwN XsAt 6 xdc M B wr 35 p1 n1 c1 ((ls.take j).flatMap fun s=>subXs s.ar))∧Hid (Grew w1 wr))
 case atStart=>exact⟨0,none,0,0,rfl,rfl,Nat.zero_le _,rfl,zh (OwN.nil hangsX),zh (Grew.refl _)⟩
 case round =>
  obtain ⟨j,p1,n1,c1,rfl,rfl,hj,rfl,HR,HG⟩:=hrel
  by_cases hlt:j < ls.length
  ·have htn:=flatS_take ls j
   have hln1:=HR.out.len
   have hfm:=flatS_mem (List.getElem_mem hlt)
   have HBD:Hid (n1≤1048576):=zh (by have:=HXL.out;omega)
   obtain ⟨ba,oa,paa,caa,pba,cba,pea,cea,rfl,hba,haa,hboa,hela,hca⟩:=HX.out.getS j hlt
   have hma:=List.getElem_mem hlt
   have hna:=nSs_mem hma
   have hta:=List.take_succ_eq_append_getElem hlt
   have HLa:=zh (Nat.succ_le_of_lt hlt)
   generalize ls[j]=xa at *
   obtain ⟨ka,sa,na,ra,ya,ea,qa⟩:=xa
   replace hba:sa.size≤1048576:=hba.2
   have HTa:=zh hta
   have HAa:Hid (XL B w1 paa caa ra):=zh haa
   have HYa:Hid (SL B w1 pba cba ya):=zh hboa
   have HEa:Hid (SL B w1 pea cea ea):=zh hela
   have hcapa:ra.length≤caa∧ya.length≤cba∧ea.length≤cea:=⟨haa.cap.1,hboa.cap.1,hela.cap.1⟩
   have hmaxa:=And.intro haa.cap.2.1 (And.intro hboa.cap.2.1 hela.cap.2.1)
   replace hca:∀i_ u_,(sdc ⟨ka,sa,na,paa,ra.length,caa,pba,ya.length,cba,pea,ea.length,cea,qa⟩)[i_]?=some u_→wr.cell? ⟨ba,oa+j * 7+i_,none⟩=some u_:=fun i_ u_ h_=>Atv.kept (hca i_ u_ h_) HG.out
   have ca0:wr.cell? ⟨ba,oa+j * 7,none⟩=some (.int .i64 ka):=by simpa using hca 0 _ rfl
   have ca1:wr.cell? ⟨ba,oa+j * 7+1,none⟩=some (.string sa):=hca 1 _ rfl
   have ca2:wr.cell? ⟨ba,oa+j * 7+2,none⟩=some (.int .i64 na):=hca 2 _ rfl
   have ca3:wr.cell? ⟨ba,oa+j * 7+3,none⟩=some (.slice paa ra.length caa):=hca 3 _ rfl
   have ca4:wr.cell? ⟨ba,oa+j * 7+4,none⟩=some (.slice pba ya.length cba):=hca 4 _ rfl
   have ca5:wr.cell? ⟨ba,oa+j * 7+5,none⟩=some (.slice pea ea.length cea):=hca 5 _ rfl
   have ca6:wr.cell? ⟨ba,oa+j * 7+6,none⟩=some (.int .i64 qa):=hca 6 _ rfl
   clear hca haa hboa hela hta
   have hfm2:nXs ra≤1048576:=Nat.le_trans hfm (by have:=HXL.out;omega)
   have HRA:=zh hfm2
   clear hma hna htn hln1 hfm hfm2
   go_wp2
   have HBX:Hid (Blk wr.heap.size [.int .i64 ka,.string sa,.int .i64 na,.slice paa ra.length caa,.slice pba ya.length cba,.slice pea ea.length cea,.int .i64 qa] 49 (wr.alloc (Obj.cells #[.int .i64 ka,.string sa,.int .i64 na,.slice paa ra.length caa,.slice pba ya.length cba,.slice pea ea.length cea,.int .i64 qa] 49))):=zh (Blk.new _ _ _)
   have HG1:Hid (Grew w1 (wr.alloc (Obj.cells #[.int .i64 ka,.string sa,.int .i64 na,.slice paa ra.length caa,.slice pba ya.length cba,.slice pea ea.length cea,.int .i64 qa] 49))):=zh (HG.out.alloc _)
   have HR1:=zh (HR.out.kept hangsX ((Grew.refl wr).alloc (Obj.cells #[.int .i64 ka,.string sa,.int .i64 na,.slice paa ra.length caa,.slice pba ya.length cba,.slice pea ea.length cea,.int .i64 qa] 49)))
   generalize (wr.alloc (Obj.cells #[.int .i64 ka,.string sa,.int .i64 na,.slice paa ra.length caa,.slice pba ya.length cba,.slice pea ea.length cea,.int .i64 qa] 49))=wa at HBX HG1 HR1 ⊢
   clear ca0 ca1 ca2 ca3 ca4 ca5 ca6 HG HR
   generalize wr.heap.size=Sa at HBX ⊢
   go_loopg [3,7,18] ra.length (fun gg lv bv iv wx=>∃(i:Nat) (p3:Option Addr) (n3 c3:Nat),lv=.slice p3 n3 c3∧iv=.int .i64 (i:Int)∧i≤ra.length∧gg=ra.length - i∧Hid (OwN XsAt 6 xdc M B wx 35 p3 n3 c3 (((ls.take j).flatMap fun s=>subXs s.ar)++subXs (ra.take i)))∧Hid (Grew w1 wx))
   case atStart=>exact⟨0,p1,n1,c1,rfl,rfl,Nat.zero_le _,rfl,zh (by rw [List.take_zero,subXs,List.append_nil];exact HR1.out),HG1⟩
   case round =>
    obtain ⟨i,p3,n3,c3,rfl,rfl,hi,rfl,HR3,HG3⟩:=hrel
    by_cases hlt:i < ra.length
    ·have htn:=nXs_take ra i
     have hln3:=HR3.out.len
     have hln1:=HR1.out.len
     rw [List.length_append,subXs_len,← hln1] at hln3
     have HBD3:Hid (n3≤2097152):=zh (by have h1:=HBD.out;have h2:=HRA.out;omega)
     obtain ⟨bz,oz,pz,cz,rfl,hbz,haz,hcz⟩:=HAa.out.get i hlt
     have hmz:=List.getElem_mem hlt
     have hnz:=nXs_mem hmz
     have htz:=List.take_succ_eq_append_getElem hlt
     have HLz:=zh (Nat.succ_le_of_lt hlt)
     generalize ra[i]=xz at *
     obtain ⟨kz,sz,vz,o_z,rz,qz⟩:=xz
     replace hbz:sz.size≤1048576∧vz≤32767:=hbz.2
     have HTz:=zh htz
     have HAz:Hid (XL B w1 pz cz rz):=zh haz
     have hcapz:rz.length≤cz:=haz.cap.1
     have hmaxz:=haz.cap.2.1
     replace hcz:∀i_ u_,(xdc ⟨kz,sz,vz,o_z,pz,rz.length,cz,qz⟩)[i_]?=some u_→wr.cell? ⟨bz,oz+i * 6+i_,none⟩=some u_:=fun i_ u_ h_=>Atv.kept (hcz i_ u_ h_) HG3.out
     have cz0:wr.cell? ⟨bz,oz+i * 6,none⟩=some (.int .i64 kz):=by simpa using hcz 0 _ rfl
     have cz1:wr.cell? ⟨bz,oz+i * 6+1,none⟩=some (.string sz):=hcz 1 _ rfl
     have cz2:wr.cell? ⟨bz,oz+i * 6+2,none⟩=some (.int .i16 vz):=hcz 2 _ rfl
     have cz3:wr.cell? ⟨bz,oz+i * 6+3,none⟩=some (.int .i64 o_z):=hcz 3 _ rfl
     have cz4:wr.cell? ⟨bz,oz+i * 6+4,none⟩=some (.slice pz rz.length cz):=hcz 4 _ rfl
     have cz5:wr.cell? ⟨bz,oz+i * 6+5,none⟩=some (.int .i64 qz):=hcz 5 _ rfl
     clear hcz haz htz
     have HNX:Hid (nX ⟨kz,sz,vz,o_z,rz,qz⟩≤1048576):=zh (by have h2:=HRA.out;omega)
     have HSB:=zh (fun W (hW:Grew w1 W)=>(show Calls Tryz.prog 15 #[xv kz sz vz o_z pz rz.length cz qz] W fun e w'=>∃p' n' c',e=.returned (.slice p' n' c')∧OwN XsAt 6 xdc W.heap.size B w' 35 p' n' c' (subX ⟨kz,sz,vz,o_z,rz,qz⟩)∧Grew W w' from sub_any ⟨kz,sz,vz,o_z,rz,qz⟩ B W pz cz (fun b hb=>by have h1:=HB.out b hb;have h2:=hW.sz;have h3:=HMW.out;omega) hbz (HAz.out.kept hW) HNX.out))
     clear hmz hnz htn hln3 hln1
     go_wp2_with (first
      | (go_at_call 15;(with_reducible refine(HSB.out _ (HG3.out.alloc _)).mono ?_);rintro e w5 ⟨p5,n5,c5,rfl,ho5,g5⟩;have hl5:=ho5.len;rw [subX_len] at hl5;have HL5:Hid (n5≤1048576):=zh (by have:=HNX.out;omega);have HO5:=zh (ho5.inN hangsX);have HG5:=zh (((Grew.refl wr).alloc _).trans g5);clear ho5 g5 hl5)
      | (at_builtin;refine wpList_append_own hangsX rfl _ _ 33 rfl M 35 zX 72 Tryz.underlying33 infoX rfl _ _ _ _ rfl (HR3.out.kept hangsX HG5.out) _ _ _ _ rfl (HO5.out) (fun b hb=>HR3.out.off hangsX (HB.out b hb)) (by have h1:=HBD3.out;have h2:=HL5.out;omega) (by have h1:=HBD3.out;have h2:=HL5.out;omega) (by have h1:=(HG3.out.trans HG5.out).sz;have h2:=HMW.out;omega) ?_;intro p6 c6 w6 ho6 hp6;have HO6:=zh ho6;have HP6:=zh hp6;clear ho6 hp6))
     have HG6:Hid (Grew w1 w6):=zh (Below.trans (HG3.out.trans HG5.out) (HMW.out ▸ HP6.out.below))
     go_roundg (ra.length - (i+1))
     case measure=>have:=HLz.out;omega
     case rel=>exact⟨i+1,p6,_,c6,rfl,by go_num,HLz.out,rfl,zh (by
      rw [HTz.out,subXs_append,subXs_one,← List.append_assoc]
      exact HO6.out),HG6⟩
    ·obtain rfl:i=ra.length:=by omega
     rw [List.take_length] at HR3
     go_wp2
     go_roundg (ls.length - (j+1))
     case measure=>have:=HLa.out;omega
     case rel=>exact⟨j+1,p3,n3,c3,rfl,by go_num,HLa.out,rfl,zh (by rw [flatS_snoc HTa.out];exact HR3.out),HG3⟩
  ·obtain rfl:j=ls.length:=by omega
   rw [List.take_length] at HR
   go_wp2
   go_ret
   exact⟨p1,n1,c1,rfl,HR.out.down (by have h2:=HG0.out.sz;have h3:=HNW.out;have h4:=HMW.out;omega),HG0.out.trans HG.out⟩
section
variable {dst:Option Tmp}{ty:TypeId}{pos:String}{after:Array Edge}{g:Option (Nat × Bool)}{a:Act}{w:World}{T:Value→World→Prop}
theorem runs_max {x y:Operand}{b c:Nat}(hx:a.eval x=.int .i64 (b:Int)) (hy:a.eval y=.int .i64 (c:Int)) (h:T (.int .i64 ((max b c:Nat):Int)) w):Runs Tryz.prog ⟨dst,.call { callee:=.builtin .max,args:=#[x,y],argTypes:=#[3,3] },3,pos,after,g⟩ a w T:=by
 refine Runs.value (v:=.int .i64 ((max b c:Nat):Int)) (w':=w) ?_ h
 simp only [execOp,resolve,invoke,builtin]
 by_cases hlt:b < c
 ·have h1:max b c=c:=by omega
  have h2:(b:Int) < (c:Int):=by omega
  rw [h1]
  simp [hx,hy,Result.andThen]
  go_simp
 ·have h1:max b c=b:=by omega
  have h2:¬ (b:Int) < (c:Int):=by omega
  rw [h1]
  simp [hx,hy,Result.andThen]
  go_simp
end
mutual
def dX:Xp→Nat
 | ⟨_,_,_,_,ar,_⟩=>dXs ar+1
def dXs:List Xp→Nat
 | []=>0
 | x :: xs=>max (dX x) (dXs xs)
end
mutual
def dS:Sm→Nat
 | ⟨_,_,_,ar,b,e,_⟩=>max (max (dSs b) (dSs e)) (dXs ar)+1
def dSs:List Sm→Nat
 | []=>0
 | x :: xs=>max (dS x) (dSs xs)
end
theorem dXs_append:∀a b:List Xp,dXs (a++b)=max (dXs a) (dXs b)
 | [],b=>by rw [List.nil_append,dXs,Nat.zero_max]
 | x :: a,b=>by rw [List.cons_append,dXs,dXs,dXs_append a b,Nat.max_assoc]
theorem dSs_append:∀a b:List Sm,dSs (a++b)=max (dSs a) (dSs b)
 | [],b=>by rw [List.nil_append,dSs,Nat.zero_max]
 | x :: a,b=>by rw [List.cons_append,dSs,dSs,dSs_append a b,Nat.max_assoc]
theorem dXs_snoc {l:List Xp}{j:Nat}{x:Xp}(h:l.take (j+1)=l.take j++[x]):dXs (l.take (j+1))=max (dXs (l.take j)) (dX x):=by
 rw [h,dXs_append,dXs,dXs,Nat.max_zero]
theorem dSs_snoc {l:List Sm}{j:Nat}{x:Sm}(h:l.take (j+1)=l.take j++[x]):dSs (l.take (j+1))=max (dSs (l.take j)) (dS x):=by
 rw [h,dSs_append,dSs,dSs,Nat.max_zero]
mutual
theorem dX_le:∀x,dX x≤nX x
 | ⟨k,s,v,o,ar,q⟩=>by rw [dX,nX];have:=dXs_le ar;omega
theorem dXs_le:∀l,dXs l≤nXs l
 | []=>Nat.le_refl _
 | x :: xs=>by rw [dXs,nXs];have:=dX_le x;have:=dXs_le xs;omega
end
mutual
theorem dS_le:∀x,dS x≤nS x+mS x
 | ⟨k,s,n,ar,b,e,q⟩=>by
   rw [dS,nS,mS]
   have:=dXs_le ar;have:=dSs_le b;have:=dSs_le e
   omega
theorem dSs_le:∀l,dSs l≤nSs l+mSs l
 | []=>Nat.le_refl _
 | x :: xs=>by rw [dSs,nSs,mSs];have:=dS_le x;have:=dSs_le xs;omega
end
set_option maxHeartbeats 8000000 in
theorem depx_any:∀(x:Xp) (B:Nat→Prop) (w:World) (p:Option Addr) (c:Nat),XL B w p c x.ar→nX x≤1048576 →
 Calls Tryz.prog 125 #[xv x.k x.s x.v x.o p x.ar.length c x.q] w fun e w'=>e=.returned (.int .i64 (dX x:Nat))∧Grew w w':=by
 intro x
 induction x using Xp.ind with
 | h k s v o ar q ih =>
 intro B w p c hx hn
 have HX:Hid (XL B w p c ar):=zh hx
 have hcap:ar.length≤c:=hx.cap.1
 have hmax:=hx.cap.2.1
 have hnx:nX ⟨k,s,v,o,ar,q⟩=nXs ar+1:=rfl
 have hdx:dX ⟨k,s,v,o,ar,q⟩=dXs ar+1:=rfl
 show Calls Tryz.prog 125 #[xv k s v o p ar.length c q] w _
 rw [hdx]
 rw [hnx] at hn
 clear hx hnx hdx
 go_enter Tryz.func125,Tryz.ntmps125
 go_wp2
 go_loopg [3,5,9] ar.length (fun gg lv bv iv wr=>∃(j d:Nat),lv=.int .i64 (d:Int)∧iv=.int .i64 (j:Int)∧j≤ar.length∧gg=ar.length - j∧Hid (d=dXs (ar.take j))∧Hid (Grew w wr))
 case atStart=>exact⟨0,0,rfl,rfl,Nat.zero_le _,rfl,zh rfl,zh ((Grew.refl w).alloc _)⟩
 case round =>
  obtain ⟨j,d,rfl,rfl,hj,rfl,HD,HG⟩:=hrel
  by_cases hlt:j < ar.length
  ·
   obtain ⟨ba,oa,pa,ca,rfl,hba,haa,hca⟩:=HX.out.get j hlt
   have hma:=List.getElem_mem hlt
   have hna:=nXs_mem hma
   have hta:=List.take_succ_eq_append_getElem hlt
   have HLa:=zh (Nat.succ_le_of_lt hlt)
   have hih:=ih _ hma B
   generalize ar[j]=xa at *
   obtain ⟨ka,sa,va,o_a,ra,qa⟩:=xa
   replace hba:sa.size≤1048576∧va≤32767:=hba.2
   have HTa:=zh hta
   have HAa:Hid (XL B w pa ca ra):=zh haa
   have hcapa:ra.length≤ca:=haa.cap.1
   have hmaxa:=haa.cap.2.1
   replace hca:∀i_ u_,(xdc ⟨ka,sa,va,o_a,pa,ra.length,ca,qa⟩)[i_]?=some u_→wr.cell? ⟨ba,oa+j * 6+i_,none⟩=some u_:=fun i_ u_ h_=>Atv.kept (hca i_ u_ h_) HG.out
   have ca0:wr.cell? ⟨ba,oa+j * 6,none⟩=some (.int .i64 ka):=by simpa using hca 0 _ rfl
   have ca1:wr.cell? ⟨ba,oa+j * 6+1,none⟩=some (.string sa):=hca 1 _ rfl
   have ca2:wr.cell? ⟨ba,oa+j * 6+2,none⟩=some (.int .i16 va):=hca 2 _ rfl
   have ca3:wr.cell? ⟨ba,oa+j * 6+3,none⟩=some (.int .i64 o_a):=hca 3 _ rfl
   have ca4:wr.cell? ⟨ba,oa+j * 6+4,none⟩=some (.slice pa ra.length ca):=hca 4 _ rfl
   have ca5:wr.cell? ⟨ba,oa+j * 6+5,none⟩=some (.int .i64 qa):=hca 5 _ rfl
   clear hca haa hta
   obtain ⟨m,hmd⟩:∃m,dX ⟨ka,sa,va,o_a,ra,qa⟩=m:=⟨_,rfl⟩
   have HMD:=zh hmd
   have HIH:=zh (fun W (hW:Grew w W)=>(show Calls Tryz.prog 125 #[xv ka sa va o_a pa ra.length ca qa] W fun e w'=>e=.returned (.int .i64 (m:Nat))∧Grew W w' from hmd ▸ hih W pa ca (HAa.out.kept hW) (by omega)))
   clear hih hma hna hmd
   go_wp2_with ((go_at_call 125;(with_reducible refine(HIH.out _ (HG.out.alloc _)).mono ?_);rintro e w2 ⟨rfl,g2⟩;have HG2:=zh ((HG.out.alloc _).trans g2);clear g2))
   all_goals
    go_roundg (ar.length - (j+1))
    case measure=>have:=HLa.out;omega
    case rel=>exact⟨j+1,_,rfl,by go_num,HLa.out,rfl,zh (by rw [dXs_snoc HTa.out,← HD.out,HMD.out];omega),HG2⟩
  ·obtain rfl:j=ar.length:=by omega
   rw [List.take_length] at HD
   have hdle:=dXs_le ar
   rw [← HD.out] at hdle
   go_wp2
   go_ret
   exact⟨by rw [← HD.out];go_num,HG.out⟩
theorem okS_cases {k n q:Int}{s:ByteArray}{ar:List Xp}{b e:List Sm}(h:okS ⟨k,s,n,ar,b,e,q⟩=true):okXs ar=true∧okSs b=true∧okSs e=true ∧
 (((k=1∨k=2∨k=7∨k=9)∧(∃a,ar=[a])∧idn s=true∧n=0∧b=[]∧e=[])∨(k=3∧(∃a c,ar=[a,c])∧idn s=true∧n=0∧b=[]∧e=[])∨(k=4∧(∃a,ar=[a])∧s=⟨#[]⟩∧n=0) ∨
   ((k=5∨k=10∨k=11)∧ar=[]∧s=⟨#[]⟩∧(0≤n∧n≤32767)∧e=[])∨(k=6∧(∃a,ar=[a])∧s=⟨#[]⟩∧n=0∧e=[])∨(k=8∧(∃a,ar=[a])∧s=⟨#[]⟩∧n=0∧b=[]∧e=[]) ∨
   ((k=12∨k=13)∧ar=[]∧s=⟨#[]⟩∧n=0∧b=[]∧e=[])):=by
 rw [okS,Bool.and_eq_true,Bool.and_eq_true,Bool.and_eq_true] at h
 obtain ⟨h1,h2,h3,h4⟩:=h
 refine⟨h2,h3,h4,?_⟩
 rw [hdS,Bool.not_eq_true'] at h1
 simp only [Bool.or_eq_false_iff] at h1
 obtain ⟨⟨⟨⟨⟨⟨⟨p1,p2⟩,p3⟩,p4⟩,p5⟩,p6⟩,p7⟩,p8⟩:=h1
 replace p2:(ar.length:Int)=shA k:=by simpa using p2
 have l1:ar.length=1→∃a,ar=[a]:=List.length_eq_one_iff.1
 have hname:shN k=true→idn s=true:=fun h=>by rw [h,Bool.true_and] at p3;simpa using p3
 have hnone:shN k=false→s=⟨#[]⟩:=fun h=>by rw [h,Bool.not_false,Bool.true_and] at p4;simpa using p4
 have hnum:num1 n 0=true:=by simpa using p5
 rw [num1,Bool.and_eq_true,decide_eq_true_eq,decide_eq_true_eq] at hnum
 have hno:shM k=false→n=0:=fun h=>by rw [h,Bool.not_false,Bool.true_and] at p6;simpa using p6
 have hb:shB k=false→b=[]:=fun h=>by
  rw [h,Bool.not_false,Bool.true_and,decide_eq_false_iff_not] at p7
  exact List.eq_nil_of_length_eq_zero (by omega)
 have he:shE k=false→e=[]:=fun h=>by
  rw [h,Bool.not_false,Bool.true_and,decide_eq_false_iff_not] at p8
  exact List.eq_nil_of_length_eq_zero (by omega)
 have hko:1≤k∧k≤13:=by
  replace p1:shO k=true:=by simpa using p1
  rw [shO,Bool.and_eq_true,decide_eq_true_eq,decide_eq_true_eq] at p1
  exact p1
 clear p1 p3 p4 p5 p6 p7 p8
 rcases kx13 k with rfl | rfl | rfl | rfl | rfl | rfl | rfl | rfl | rfl | rfl | rfl | rfl | rfl | hn
 ·exact .inl ⟨by omega,l1 (by have:shA 1=1:=(by decide);omega),hname (by decide),hno (by decide),hb (by decide),he (by decide)⟩
 ·exact .inl ⟨by omega,l1 (by have:shA 2=1:=(by decide);omega),hname (by decide),hno (by decide),hb (by decide),he (by decide)⟩
 ·exact .inr (.inl ⟨rfl,len2 (by have:shA 3=2:=(by decide);omega),hname (by decide),hno (by decide),hb (by decide),he (by decide)⟩)
 ·exact .inr (.inr (.inl ⟨rfl,l1 (by have:shA 4=1:=(by decide);omega),hnone (by decide),hno (by decide)⟩))
 ·exact .inr (.inr (.inr (.inl ⟨by omega,List.eq_nil_of_length_eq_zero (by have:shA 5=0:=(by decide);omega),hnone (by decide),hnum,he (by decide)⟩)))
 ·exact .inr (.inr (.inr (.inr (.inl ⟨rfl,l1 (by have:shA 6=1:=(by decide);omega),hnone (by decide),hno (by decide),he (by decide)⟩))))
 ·exact .inl ⟨by omega,l1 (by have:shA 7=1:=(by decide);omega),hname (by decide),hno (by decide),hb (by decide),he (by decide)⟩
 ·exact .inr (.inr (.inr (.inr (.inr (.inl ⟨rfl,l1 (by have:shA 8=1:=(by decide);omega),hnone (by decide),hno (by decide),hb (by decide),he (by decide)⟩)))))
 ·exact .inl ⟨by omega,l1 (by have:shA 9=1:=(by decide);omega),hname (by decide),hno (by decide),hb (by decide),he (by decide)⟩
 ·exact .inr (.inr (.inr (.inl ⟨by omega,List.eq_nil_of_length_eq_zero (by have:shA 10=0:=(by decide);omega),hnone (by decide),hnum,he (by decide)⟩)))
 ·exact .inr (.inr (.inr (.inl ⟨by omega,List.eq_nil_of_length_eq_zero (by have:shA 11=0:=(by decide);omega),hnone (by decide),hnum,he (by decide)⟩)))
 ·exact .inr (.inr (.inr (.inr (.inr (.inr ⟨by omega,List.eq_nil_of_length_eq_zero (by have:shA 12=0:=(by decide);omega),hnone (by decide),hno (by decide),hb (by decide),he (by decide)⟩)))))
 ·exact .inr (.inr (.inr (.inr (.inr (.inr ⟨by omega,List.eq_nil_of_length_eq_zero (by have:shA 13=0:=(by decide);omega),hnone (by decide),hno (by decide),hb (by decide),he (by decide)⟩)))))
 ·omega
def simT (k:Int) (n ta tb:List UInt8):List UInt8:=if k=1 then ((([108,101,116,32]++n)++[32,61,32])++ta)++[59] else if k=2 then ((n++[32,61,32])++ta)++[59] else if k=3 then ((((n++[91])++ta)++[93,32,61,32])++tb)++[59] else if k=7 then ((([115,101,110,100,32]++n)++[32])++ta)++[59] else if k=9 then ((([111,117,116,112,117,116,32]++n)++[32])++ta)++[59] else if k=8 then ([101,109,105,116,32]++ta)++[59] else if k=12 then [99,104,101,99,107,112,111,105,110,116,59] else [114,101,116,117,114,110,59]
def hedT (k m:Int) (ta:List UInt8):List UInt8:=if k=4 then ([105,102,32]++ta)++[32,123] else if k=6 then ([119,104,105,108,101,32]++ta)++[32,123] else if k=5 then ([114,101,112,101,97,116,32]++numZ m)++[32,123] else if k=10 then ([102,114,101,115,104,32]++numZ m)++[32,123] else if k=11 then ([116,111,103,101,116,104,101,114,32]++numZ m)++[32,123] else []
def agT (ar:List Xp) (i:Nat):List UInt8:=(txXs ar).getD i []
def in4 (i:List UInt8):List UInt8:=i++[32,32,32,32]
mutual
def linS:Sm→List UInt8→List UInt8
 | ⟨k,s,n,ar,b,e,_⟩,i=>if hedT k n (agT ar 0)=[] then simT k s.data.toList (agT ar 0) (agT ar 1)++[10] else (((hedT k n (agT ar 0)++[10])++linL b (in4 i))++i)++elsT e i
def linL:List Sm→List UInt8→List UInt8
 | [],_=>[]
 | x :: xs,i=>(i++linS x i)++linL xs i
def elsT:List Sm→List UInt8→List UInt8
 | [],_=>[125,10]
 | [x],i=>if x.k=4 then [125,32,101,108,115,101,32]++linS x i else ((([125,32,101,108,115,101,32,123,10]++((in4 i++linS x (in4 i))++[]))++i)++[125,10])
 | x :: y :: r,i=>((([125,32,101,108,115,101,32,123,10]++((in4 i++linS x (in4 i))++((in4 i++linS y (in4 i))++linL r (in4 i))))++i)++[125,10])
end
theorem elsT_if (x:Sm) (i:List UInt8) (h:x.k=4):elsT [x] i=[125,32,101,108,115,101,32]++linS x i:=by rw [elsT,if_pos h]
theorem elsT_else {e:List Sm}(i:List UInt8) (h:e≠[]) (h2:∀x,e=[x]→x.k≠4):elsT e i=(([125,32,101,108,115,101,32,123,10]++linL e (in4 i))++i)++[125,10]:=by
 match e with
 | []=>exact absurd rfl h
 | [x]=>rw [elsT,if_neg (h2 x rfl),linL,linL]
 | x :: y :: r=>rw [elsT,linL,linL]
theorem linL_append:∀(a b:List Sm) (i:List UInt8),linL (a++b) i=linL a i++linL b i
 | [],_,_=>by rw [List.nil_append,linL,List.nil_append]
 | x :: a,b,i=>by rw [List.cons_append,linL,linL,linL_append a b i];simp only [List.append_assoc]
theorem linL_snoc {l:List Sm}{j:Nat}{x:Sm}(i:List UInt8) (h:l.take (j+1)=l.take j++[x]):linL (l.take (j+1)) i=(linL (l.take j) i++i)++linS x i:=by
 rw [h,linL_append,linL,linL,List.append_nil,List.append_assoc]
mutual
def fitS:Sm→Prop
 | ⟨_,_,_,ar,b,e,_⟩=>fitXs ar∧fitSs b∧fitSs e
def fitSs:List Sm→Prop
 | []=>True
 | x :: xs=>fitS x∧fitSs xs
end
theorem simT_len (k:Int) (n ta tb:List UInt8):(simT k n ta tb).length≤n.length+ta.length+tb.length+20:=by
 unfold simT
 repeat' split
 all_goals simp only [List.length_append,List.length_cons,List.length_nil];omega
theorem hedT_len (k m:Int) (ta:List UInt8) (hm:0≤m∧m≤32767):(hedT k m ta).length≤ta.length+20:=by
 have:=numZ_len (z:=m) (by omega)
 unfold hedT
 repeat' split
 all_goals simp only [List.length_append,List.length_cons,List.length_nil];omega
theorem agT_len {ar:List Xp}(h:okXs ar=true) (hf:fitXs ar):∀i,(agT ar i).length≤64 * nXs ar:=by
 induction ar with
 | nil=>intro i;rw [agT,txXs];simp
 | cons x xs ih =>
   rw [okXs,Bool.and_eq_true] at h
   rw [fitXs] at hf
   intro i
   cases i with
   | zero =>
     have:=txX_len x h.1 hf.1
     rw [agT,txXs,nXs]
     simp only [List.getD_cons_zero]
     omega
   | succ i =>
     have:=ih h.2 hf.2 i
     rw [agT] at this
     rw [agT,txXs,nXs]
     simp only [List.getD_cons_succ]
     omega
theorem agT_two {ar:List Xp}(h:okXs ar=true) (hf:fitXs ar):(agT ar 0).length+(agT ar 1).length≤64 * nXs ar:=by
 match ar with
 | []=>simp [agT,txXs]
 | [x] =>
   have:=agT_len h hf 0
   have h1:(agT [x] 1).length=0:=by simp [agT,txXs]
   omega
 | x :: y :: r =>
   rw [okXs,okXs,Bool.and_eq_true,Bool.and_eq_true] at h
   rw [fitXs,fitXs] at hf
   have h1:=txX_len x h.1 hf.1
   have h2:=txX_len y h.2.1 hf.2.1
   rw [agT,agT,txXs,txXs,nXs,nXs]
   simp only [List.getD_cons_zero,List.getD_cons_succ]
   omega
theorem idn_size {s:ByteArray}(h:idn s=true∨s=⟨#[]⟩):s.data.toList.length≤32:=by
 rcases h with h | rfl
 ·exact idn_len h
 ·simp
theorem okS_nm {k n q:Int}{s:ByteArray}{ar:List Xp}{b e:List Sm}(h:okS ⟨k,s,n,ar,b,e,q⟩=true):(idn s=true∨s=⟨#[]⟩)∧0≤n∧n≤32767:=by
 obtain ⟨_,_,_,h⟩:=okS_cases h
 rcases h with ⟨_,_,h1,h2,_⟩ | ⟨_,_,h1,h2,_⟩ | ⟨_,_,h1,h2⟩ | ⟨_,_,h1,h2,_⟩ | ⟨_,_,h1,h2,_⟩ | ⟨_,_,h1,h2,_⟩ | ⟨_,_,h1,h2,_⟩
 ·exact⟨.inl h1,by omega⟩
 ·exact⟨.inl h1,by omega⟩
 ·exact⟨.inr h1,by omega⟩
 ·exact⟨.inr h1,h2⟩
 ·exact⟨.inr h1,by omega⟩
 ·exact⟨.inr h1,by omega⟩
 ·exact⟨.inr h1,by omega⟩
mutual
theorem linS_len:∀(x:Sm) (i:List UInt8),okS x=true→fitS x→i.length+4 * dS x≤400→(linS x i).length+400≤3000 * nS x+64 * mS x
 | ⟨k,s,n,ar,b,e,q⟩,i,h,hf,hi=>by
   have hok:=okS_cases h
   obtain ⟨hs,hn⟩:=okS_nm h
   rw [fitS] at hf
   rw [dS] at hi
   have h1:=agT_two hok.1 hf.1
   have h2:=idn_size hs
   have h3:=simT_len k s.data.toList (agT ar 0) (agT ar 1)
   have h4:=hedT_len k n (agT ar 0) hn
   have h5:=linL_len b (in4 i) hok.2.1 hf.2.1 (by rw [in4,List.length_append];simp only [List.length_cons,List.length_nil];omega)
   have h6:=elsT_len e i hok.2.2.1 hf.2.2 (by omega)
   rw [linS,nS,mS]
   split
   ·simp only [List.length_append,List.length_cons,List.length_nil];omega
   ·simp only [List.length_append,List.length_cons,List.length_nil];omega
theorem linL_len:∀(l:List Sm) (i:List UInt8),okSs l=true→fitSs l→i.length+4 * dSs l≤400→(linL l i).length≤3000 * nSs l+64 * mSs l
 | [],i,_,_,_=>by rw [linL];exact Nat.zero_le _
 | x :: xs,i,h,hf,hi=>by
   rw [okSs,Bool.and_eq_true] at h
   rw [fitSs] at hf
   rw [dSs] at hi
   have h1:=linS_len x i h.1 hf.1 (by omega)
   have h2:=linL_len xs i h.2 hf.2 (by omega)
   have h3:=nS_pos x
   rw [linL,nSs,mSs]
   simp only [List.length_append]
   omega
theorem elsT_len:∀(e:List Sm) (i:List UInt8),okSs e=true→fitSs e→i.length+4 * (dSs e+1)≤400→(elsT e i).length≤3000 * nSs e+64 * mSs e+500
 | [],i,_,_,_=>by rw [elsT];simp
 | [x],i,h,hf,hi=>by
   have h0:(in4 i).length=i.length+4:=by rw [in4,List.length_append];rfl
   rw [okSs,Bool.and_eq_true] at h
   rw [fitSs] at hf
   rw [dSs,dSs] at hi
   have h1:=linS_len x i h.1 hf.1 (by omega)
   have h2:=linS_len x (in4 i) h.1 hf.1 (by rw [in4,List.length_append];simp only [List.length_cons,List.length_nil];omega)
   have h3:=nS_pos x
   rw [elsT,nSs,nSs,mSs,mSs]
   split
   ·simp only [List.length_append,List.length_cons,List.length_nil];omega
   ·simp only [List.length_append,List.length_cons,List.length_nil];omega
 | x :: y :: r,i,h,hf,hi=>by
   rw [okSs,okSs,Bool.and_eq_true,Bool.and_eq_true] at h
   rw [fitSs,fitSs] at hf
   rw [dSs,dSs] at hi
   have h0:(in4 i).length=i.length+4:=by rw [in4,List.length_append];rfl
   have h1:=linS_len x (in4 i) h.1 hf.1 (by omega)
   have h2:=linS_len y (in4 i) h.2.1 hf.2.1 (by omega)
   have h4:=linL_len r (in4 i) h.2.2 hf.2.2 (by omega)
   have h3:=nS_pos x
   have h5:=nS_pos y
   rw [elsT,nSs,nSs,mSs,mSs]
   simp only [List.length_append,List.length_cons,List.length_nil];omega
end
section
variable {dst:Option Tmp}{ty:TypeId}{pos:String}{after:Array Edge}{g:Option (Nat × Bool)}{a:Act}{w:World}{T:Value→World→Prop}
theorem rn_fld_49_4 {x:Operand}{S o:Nat}(hx:a.eval x=.pointer (some ⟨S,o,none⟩)) (h:T (.pointer (some ⟨S,o+4,none⟩)) w):Runs Tryz.prog ⟨dst,.fieldAddr 49 x 4,ty,pos,after,g⟩ a w T:=by
 refine Runs.value (v:=.pointer (some ⟨S,o+4,none⟩)) (w':=w) ?_ h
 simp only [execOp,hx]
 go_simp
theorem rn_ld_40 {x:Operand}{q:Addr}{v:Value}(hx:a.eval x=.pointer (some q)) (hc:w.cell? q=some v) (h:T v w):Runs Tryz.prog ⟨dst,.load 40 x,ty,pos,after,g⟩ a w T:=by
 refine Runs.value (v:=v) (w':=w) ?_ h
 simp only [execOp,hx]
 go_simp
theorem rn_fld_49_5 {x:Operand}{S o:Nat}(hx:a.eval x=.pointer (some ⟨S,o,none⟩)) (h:T (.pointer (some ⟨S,o+5,none⟩)) w):Runs Tryz.prog ⟨dst,.fieldAddr 49 x 5,ty,pos,after,g⟩ a w T:=by
 refine Runs.value (v:=.pointer (some ⟨S,o+5,none⟩)) (w':=w) ?_ h
 simp only [execOp,hx]
 go_simp
end
theorem enters_ds:Enters Tryz.prog 89:=fun args w=>by go_simp
set_option maxHeartbeats 8000000 in
theorem deps_any:∀(n:Nat) (l:List Sm),nSs l < n→∀(B:Nat→Prop) (w:World) (p:Option Addr) (c:Nat),SL B w p c l→nSs l≤1048576→mSs l≤1048576 →
 Calls Tryz.prog 89 #[.slice p l.length c] w fun e w'=>e=.returned (.int .i64 (dSs l:Nat))∧Grew w w':=by
 intro n
 induction n with
 | zero=>intro _ h;exact absurd h (Nat.not_lt_zero _)
 | succ n ih =>
 intro l hln B w p c hx hn hm
 have HX:Hid (SL B w p c l):=zh hx
 have hcap:l.length≤c:=hx.cap.1
 have hmax:=hx.cap.2.1
 clear hx
 go_enter Tryz.func89,Tryz.ntmps89
 go_wp2
 go_loopg [3,5,6,8,11] l.length (fun gg lv bv kv b8 iv wr=>∃(j d:Nat),lv=.int .i64 (d:Int)∧iv=.int .i64 (j:Int)∧j≤l.length∧gg=l.length - j∧Hid (d=dSs (l.take j))∧Hid (Grew w wr))
 case atStart=>exact⟨0,0,rfl,rfl,Nat.zero_le _,rfl,zh rfl,zh (Grew.refl _)⟩
 case round =>
  obtain ⟨j,d,rfl,rfl,hj,rfl,HD,HG⟩:=hrel
  by_cases hlt:j < l.length
  ·have hmm:=mSs_mem (List.getElem_mem hlt)
   obtain ⟨ba,oa,paa,caa,pba,cba,pea,cea,rfl,hba,haa,hboa,hela,hca⟩:=HX.out.get j hlt
   have hma:=List.getElem_mem hlt
   have hna:=nSs_mem hma
   have hta:=List.take_succ_eq_append_getElem hlt
   have HLa:=zh (Nat.succ_le_of_lt hlt)
   generalize l[j]=xa at *
   obtain ⟨ka,sa,na,ra,ya,ea,qa⟩:=xa
   replace hba:sa.size≤1048576:=hba.2
   have HTa:=zh hta
   have HAa:Hid (XL B w paa caa ra):=zh haa
   have HYa:Hid (SL B w pba cba ya):=zh hboa
   have HEa:Hid (SL B w pea cea ea):=zh hela
   have hcapa:ra.length≤caa∧ya.length≤cba∧ea.length≤cea:=⟨haa.cap.1,hboa.cap.1,hela.cap.1⟩
   have hmaxa:=And.intro haa.cap.2.1 (And.intro hboa.cap.2.1 hela.cap.2.1)
   replace hca:∀i_ u_,(sdc ⟨ka,sa,na,paa,ra.length,caa,pba,ya.length,cba,pea,ea.length,cea,qa⟩)[i_]?=some u_→wr.cell? ⟨ba,oa+j * 7+i_,none⟩=some u_:=fun i_ u_ h_=>Atv.kept (hca i_ u_ h_) HG.out
   have ca0:wr.cell? ⟨ba,oa+j * 7,none⟩=some (.int .i64 ka):=by simpa using hca 0 _ rfl
   have ca1:wr.cell? ⟨ba,oa+j * 7+1,none⟩=some (.string sa):=hca 1 _ rfl
   have ca2:wr.cell? ⟨ba,oa+j * 7+2,none⟩=some (.int .i64 na):=hca 2 _ rfl
   have ca3:wr.cell? ⟨ba,oa+j * 7+3,none⟩=some (.slice paa ra.length caa):=hca 3 _ rfl
   have ca4:wr.cell? ⟨ba,oa+j * 7+4,none⟩=some (.slice pba ya.length cba):=hca 4 _ rfl
   have ca5:wr.cell? ⟨ba,oa+j * 7+5,none⟩=some (.slice pea ea.length cea):=hca 5 _ rfl
   have ca6:wr.cell? ⟨ba,oa+j * 7+6,none⟩=some (.int .i64 qa):=hca 6 _ rfl
   clear hca haa hboa hela hta
   have hns:nS ⟨ka,sa,na,ra,ya,ea,qa⟩=nSs ya+nSs ea+1:=rfl
   have hms:mS ⟨ka,sa,na,ra,ya,ea,qa⟩=nXs ra+mSs ya+mSs ea:=rfl
   obtain ⟨m1,hm1⟩:∃m,dSs ya=m:=⟨_,rfl⟩
   obtain ⟨m2,hm2⟩:∃m,dSs ea=m:=⟨_,rfl⟩
   have hds:dS ⟨ka,sa,na,ra,ya,ea,qa⟩=max (max m1 m2) (dXs ra)+1:=by rw [dS,hm1,hm2]
   have HDS:=zh hds
   have HIY:=zh (fun W (hW:Grew w W)=>(show Calls Tryz.prog 89 #[.slice pba ya.length cba] W fun e w'=>e=.returned (.int .i64 (m1:Nat))∧Grew W w' from hm1 ▸ ih ya (by omega) B W pba cba (HYa.out.kept hW) (by omega) (by omega)))
   have HIE:=zh (fun W (hW:Grew w W)=>(show Calls Tryz.prog 89 #[.slice pea ea.length cea] W fun e w'=>e=.returned (.int .i64 (m2:Nat))∧Grew W w' from hm2 ▸ ih ea (by omega) B W pea cea (HEa.out.kept hW) (by omega) (by omega)))
   have hb1:=dSs_le ya
   have hb2:=dSs_le ea
   have hb3:=dXs_le ra
   have HRA:Hid (nXs ra≤1048576):=zh (by omega)
   have HMX:Hid (m1≤2097152∧m2≤2097152∧dXs ra≤2097152):=zh (by omega)
   clear hma hna hmm hns hms hm1 hm2 hds hb1 hb2 hb3
   go_upto_region 5 with fail
   have hb:Blk wr.heap.size [.int .i64 ka,.string sa,.int .i64 na,.slice paa ra.length caa,.slice pba ya.length cba,.slice pea ea.length cea,.int .i64 qa] 49 (wr.alloc (Obj.cells #[.int .i64 ka,.string sa,.int .i64 na,.slice paa ra.length caa,.slice pba ya.length cba,.slice pea ea.length cea,.int .i64 qa] 49)):=Blk.new wr _ _
   have hgV:Grew w (wr.alloc (Obj.cells #[.int .i64 ka,.string sa,.int .i64 na,.slice paa ra.length caa,.slice pba ya.length cba,.slice pea ea.length cea,.int .i64 qa] 49)):=HG.out.alloc _
   generalize (wr.alloc (Obj.cells #[.int .i64 ka,.string sa,.int .i64 na,.slice paa ra.length caa,.slice pba ya.length cba,.slice pea ea.length cea,.int .i64 qa] 49))=V at hb hgV ⊢
   generalize wr.heap.size=S at hb ⊢
   have HXB:=zh hb
   have HGV:=zh hgV
   have d4:Atv ⟨S,4,none⟩ (.slice pba ya.length cba) V.drew:=(hb.grew (Grew.refl _).drw).atv 4 rfl
   have d5:Atv ⟨S,5,none⟩ (.slice pea ea.length cea) V.drew:=(hb.grew (Grew.refl _).drw).atv 5 rfl
   clear ca0 ca1 ca2 ca3 ca4 ca5 ca6 hb hgV HG
   refine wp_posts [some 15,some 16,some 17,some 18,some 19,some 20,some 21,some 6] (Zfc (Zfb (Zta (Zfd (Ztc (Ztb (Zta (Zfe (Zfb []))))))))) [fun v _=>v=.pointer (some ⟨S,4,none⟩),fun v _=>v=.slice pba ya.length cba,fun v _=>v=.int .i64 (((m1:Nat):Int)),fun v _=>v=.pointer (some ⟨S,5,none⟩),fun v _=>v=.slice pea ea.length cea,fun v _=>v=.int .i64 (((m2:Nat):Int)),fun v _=>v=.int .i64 (((max m1 m2:Nat)):Int),fun v _=>v=.int .i64 (((max m1 m2:Nat):Int))] (by kernel_rfl) (by kernel_rfl) rfl ?_ ⟨?_,?_,?_,?_,?_,?_,?_,?_,trivial⟩ ?_
   ·exact⟨Zi,Zi,Zi,Zi,Zi,Zi,Zi,Zi,trivial⟩
   ·intro u w hR hd;exact rn_fld_49_4 (ev rfl) Zr
   ·intro u w hR hd;exact rn_ld_40 (ev (hd.1 rfl)) (d4.kept hR) Zr
   ·intro u w hR hd;exact runs_c1 enters_ds (ev (hd.1 rfl)) (callp (fun _ e=>e) (HIY.out _ (HGV.out.trans ((Grew.refl _).drw.trans hR))))
   ·intro u w hR hd;exact rn_fld_49_5 (ev rfl) Zr
   ·intro u w hR hd;exact rn_ld_40 (ev (hd.1 rfl)) (d5.kept hR) Zr
   ·intro u w hR hd;exact runs_c1 enters_ds (ev (hd.1 rfl)) (callp (fun _ e=>e) (HIE.out _ (HGV.out.trans ((Grew.refl _).drw.trans hR))))
   ·intro u w hR hd;exact runs_max (ev (hd.1 rfl)) (ev (hd.2.1 rfl)) Zr
   ·intro u w hR hd;exact runs_mva (ev (hd.1 rfl)) Zr
   ·intro u w4 hR h
    have he:u 6=.int .i64 ((max m1 m2:Nat):Int):=h 7 (by decide)
    have HG4:=zh (HGV.out.trans ((Grew.refl V).drw.trans hR))
    have r3:w4.cell? ⟨S,3,none⟩=some (.slice paa ra.length caa):=(HXB.out.grew ((Grew.refl V).drw.trans hR)).cell 3
    simp only [mixA,mixL,zz9,zz0,he]
    clear h he hR d4 d5
    go_wp2
    clear r3
    generalize w4=wq at HG4 ⊢
    go_loopg [6,8,25] ra.length (fun gg kv b8 iv wx=>∃(i m:Nat),kv=.int .i64 (m:Int)∧iv=.int .i64 (i:Int)∧i≤ra.length∧gg=ra.length - i∧Hid (m=max (max m1 m2) (dXs (ra.take i)))∧Hid (Grew w wx))
    case atStart=>exact⟨0,_,rfl,rfl,Nat.zero_le _,rfl,zh (by rw [List.take_zero,dXs,Nat.max_zero]),HG4⟩
    case round =>
     obtain ⟨i,m,rfl,rfl,hi,rfl,HM,HG5⟩:=hrel
     by_cases hlt:i < ra.length
     ·
      obtain ⟨bz,oz,pz,cz,rfl,hbz,haz,hcz⟩:=HAa.out.get i hlt
      have hmz:=List.getElem_mem hlt
      have hnz:=nXs_mem hmz
      have htz:=List.take_succ_eq_append_getElem hlt
      have HLz:=zh (Nat.succ_le_of_lt hlt)
      generalize ra[i]=xz at *
      obtain ⟨kz,sz,vz,o_z,rz,qz⟩:=xz
      replace hbz:sz.size≤1048576∧vz≤32767:=hbz.2
      have HTz:=zh htz
      have HAz:Hid (XL B w pz cz rz):=zh haz
      have hcapz:rz.length≤cz:=haz.cap.1
      have hmaxz:=haz.cap.2.1
      replace hcz:∀i_ u_,(xdc ⟨kz,sz,vz,o_z,pz,rz.length,cz,qz⟩)[i_]?=some u_→wr.cell? ⟨bz,oz+i * 6+i_,none⟩=some u_:=fun i_ u_ h_=>Atv.kept (hcz i_ u_ h_) HG5.out
      have cz0:wr.cell? ⟨bz,oz+i * 6,none⟩=some (.int .i64 kz):=by simpa using hcz 0 _ rfl
      have cz1:wr.cell? ⟨bz,oz+i * 6+1,none⟩=some (.string sz):=hcz 1 _ rfl
      have cz2:wr.cell? ⟨bz,oz+i * 6+2,none⟩=some (.int .i16 vz):=hcz 2 _ rfl
      have cz3:wr.cell? ⟨bz,oz+i * 6+3,none⟩=some (.int .i64 o_z):=hcz 3 _ rfl
      have cz4:wr.cell? ⟨bz,oz+i * 6+4,none⟩=some (.slice pz rz.length cz):=hcz 4 _ rfl
      have cz5:wr.cell? ⟨bz,oz+i * 6+5,none⟩=some (.int .i64 qz):=hcz 5 _ rfl
      clear hcz haz htz
      obtain ⟨mz,hmz2⟩:∃m,dX ⟨kz,sz,vz,o_z,rz,qz⟩=m:=⟨_,rfl⟩
      have HMZ:=zh hmz2
      have HDX:=zh (fun W (hW:Grew w W)=>(show Calls Tryz.prog 125 #[xv kz sz vz o_z pz rz.length cz qz] W fun e w'=>e=.returned (.int .i64 (mz:Nat))∧Grew W w' from hmz2 ▸ depx_any ⟨kz,sz,vz,o_z,rz,qz⟩ B W pz cz (HAz.out.kept hW) (by have:=HRA.out;omega)))
      clear hmz hnz hmz2
      go_wp2_with (go_at_call 125;(with_reducible refine(HDX.out _ (HG5.out.alloc _)).mono ?_);rintro e w6 ⟨rfl,g6⟩;have HG6:=zh ((HG5.out.alloc _).trans g6);clear g6)
      all_goals
       go_roundg (ra.length - (i+1))
       case measure=>have:=HLz.out;omega
       case rel=>exact⟨i+1,_,rfl,by go_num,HLz.out,rfl,zh (by have h1:=HM.out;rw [dXs_snoc HTz.out,HMZ.out];omega),HG6⟩
     ·obtain rfl:i=ra.length:=by omega
      rw [List.take_length] at HM
      have hmb:m≤2097152:=by have h1:=HM.out;have h2:=HMX.out;omega
      go_wp2
      all_goals
       go_roundg (l.length - (j+1))
       case measure=>have:=HLa.out;omega
       case rel=>first | exact⟨j+1,m+1,by go_num,by go_num,HLa.out,rfl,zh (by rw [dSs_snoc HTa.out,HDS.out,← HM.out,← HD.out];omega),HG5⟩ | exact⟨j+1,d,by go_num,by go_num,HLa.out,rfl,zh (by rw [dSs_snoc HTa.out,HDS.out,← HM.out,← HD.out];omega),HG5⟩
  ·obtain rfl:j=l.length:=by omega
   rw [List.take_length] at HD
   go_wp2
   go_ret
   exact⟨by rw [← HD.out];rfl,HG.out⟩
structure PgIn (B:Nat→Prop) (w:World) (P:Pg) (cp gp sp op hp tp:Option Addr) (cc gc sc oc hc tc:Nat):Prop where
 cs:InB B cp P.cs.length∧InN FlatAt 3 cnc B w cp P.cs.length cc P.cs
 gs:InB B gp P.gs.length∧InN FlatAt 4 glc B w gp P.gs.length gc P.gs
 ss:InB B sp P.ss.length∧InN FlatAt 1 strc B w sp P.ss.length sc P.ss
 os:InB B op P.os.length∧InN FlatAt 1 strc B w op P.os.length oc P.os
 hs:InB B hp P.hs.length∧InN FlatAt 3 chc B w hp P.hs.length hc P.hs
 ts:TL B w tp tc P.ts
 sz:(∀c ∈ P.cs,c.s.size≤1048576∧c.v≤32767)∧(∀c ∈ P.gs,c.s.size≤1048576∧c.i≤32767)∧(∀c ∈ P.ss,c.size≤1048576)∧(∀c ∈ P.os,c.size≤1048576)∧∀c ∈ P.hs,c.s.size≤1048576
abbrev pgv (P:Pg) (cp gp sp op hp tp:Option Addr) (cc gc sc oc hc tc:Nat):Value:=.agg #[.slice cp P.cs.length cc,.slice gp P.gs.length gc,.slice sp P.ss.length sc,.slice op P.os.length oc,.slice hp P.hs.length hc,.slice tp P.ts.length tc]
theorem InN.keepB {α β:Type}{k:Nat}{enc:α→List Value}{At:(Nat→Prop)→World→List β→List α→Prop}{B:Nat→Prop}{w w':World}{p:Option Addr}{n c:Nat}{l:List β}(T:Hangs k enc At) (h0:InB B p n) (h:InN At k enc B w p n c l) (hb:∀b,B b→b < w.heap.size→w'.heap[b]?=w.heap[b]?):InN At k enc B w' p n c l:=by
 obtain ⟨h1,L,h2,h3⟩:=h
 exact⟨h1,L,h2.keep fun hn_ b o e hl=>hb b (h0 (by rw [h1,← T.len h3];exact hn_) ⟨b,o,none⟩ e) hl,T.keep (fun _ h=>h) hb h3⟩
section
variable {B:Nat→Prop}{w w':World}{P:Pg}{cp gp sp op hp tp:Option Addr}{cc gc sc oc hc tc:Nat}
theorem PgIn.keep (h:PgIn B w P cp gp sp op hp tp cc gc sc oc hc tc) (hb:∀b,B b→b < w.heap.size→w'.heap[b]?=w.heap[b]?):PgIn B w' P cp gp sp op hp tp cc gc sc oc hc tc :=
 ⟨⟨h.cs.1,h.cs.2.keepB (hangsF encCn) h.cs.1 hb⟩,⟨h.gs.1,h.gs.2.keepB (hangsF encGl) h.gs.1 hb⟩,⟨h.ss.1,h.ss.2.keepB (hangsF encStr) h.ss.1 hb⟩,⟨h.os.1,h.os.2.keepB (hangsF encStr) h.os.1 hb⟩,⟨h.hs.1,h.hs.2.keepB (hangsF encCh) h.hs.1 hb⟩,h.ts.keep (fun _ h=>h) hb,h.sz⟩
theorem PgIn.kept (h:PgIn B w P cp gp sp op hp tp cc gc sc oc hc tc) (hg:Grew w w'):PgIn B w' P cp gp sp op hp tp cc gc sc oc hc tc:=h.keep fun b _ hl=>hg.block b hl
theorem PgIn.chg {S:Nat→Prop}(h:PgIn B w P cp gp sp op hp tp cc gc sc oc hc tc) (hch:Chg w w' S) (hB:∀b,B b→¬ S b):PgIn B w' P cp gp sp op hp tp cc gc sc oc hc tc:=h.keep fun b hb hl=>hch.block b hl (hB b hb)
theorem PgIn.caps (h:PgIn B w P cp gp sp op hp tp cc gc sc oc hc tc):(P.cs.length≤cc∧P.gs.length≤gc∧P.ss.length≤sc∧P.os.length≤oc∧P.hs.length≤hc∧P.ts.length≤tc)∧cc≤9223372036854775807∧gc≤9223372036854775807∧sc≤9223372036854775807∧oc≤9223372036854775807∧hc≤9223372036854775807∧tc≤9223372036854775807 :=
 ⟨⟨(h.cs.2.cap (hangsF encCn)).1,(h.gs.2.cap (hangsF encGl)).1,(h.ss.2.cap (hangsF encStr)).1,(h.os.2.cap (hangsF encStr)).1,(h.hs.2.cap (hangsF encCh)).1,h.ts.cap.1⟩,(h.cs.2.cap (hangsF encCn)).2.1,(h.gs.2.cap (hangsF encGl)).2.1,(h.ss.2.cap (hangsF encStr)).2.1,(h.os.2.cap (hangsF encStr)).2.1,(h.hs.2.cap (hangsF encCh)).2.1,h.ts.cap.2.1⟩
end
def zT:List Ta→Nat
 | []=>0
 | t :: ts=>nSs t.b+mSs t.b+zT ts
def dT:List Ta→Nat
 | []=>0
 | t :: ts=>max (dSs t.b) (dT ts)
theorem zT_append:∀a b:List Ta,zT (a++b)=zT a+zT b
 | [],b=>by simp [zT]
 | x :: a,b=>by rw [List.cons_append,zT,zT,zT_append a b];omega
theorem dT_append:∀a b:List Ta,dT (a++b)=max (dT a) (dT b)
 | [],b=>by rw [List.nil_append,dT,Nat.zero_max]
 | x :: a,b=>by rw [List.cons_append,dT,dT,dT_append a b,Nat.max_assoc]
theorem zT_snoc {l:List Ta}{j:Nat}{x:Ta}(h:l.take (j+1)=l.take j++[x]):zT (l.take (j+1))=zT (l.take j)+(nSs x.b+mSs x.b):=by
 rw [h,zT_append,zT,zT,Nat.add_zero]
theorem dT_snoc {l:List Ta}{j:Nat}{x:Ta}(h:l.take (j+1)=l.take j++[x]):dT (l.take (j+1))=max (dT (l.take j)) (dSs x.b):=by
 rw [h,dT_append,dT,dT,Nat.max_zero]
theorem zT_take (l:List Ta) (n:Nat):zT (l.take n)≤zT l:=by
 have h:=zT_append (l.take n) (l.drop n)
 rw [List.take_append_drop] at h
 omega
theorem zT_mem {x:Ta}:∀{l:List Ta},x ∈ l→nSs x.b+mSs x.b≤zT l
 | y :: l,h=>by
   rw [zT]
   rcases List.mem_cons.1 h with rfl | h
   ·omega
   ·have:=zT_mem h;omega
def smallP (P:Pg):Bool:=decide (P.cs.length≤20)&&decide (P.gs.length≤20)&&decide (P.ss.length≤20)&&decide (P.os.length≤20)&&decide (P.hs.length≤20)&&decide (P.ts.length≤6)&&decide (zT P.ts≤300)&&decide (dT P.ts≤30)
section
variable {dst:Option Tmp}{ty:TypeId}{pos:String}{after:Array Edge}{g:Option (Nat × Bool)}{a:Act}{w:World}{T:Value→World→Prop}
theorem rn_len_40 {x:Operand}{p:Option Addr}{n c:Nat}(hx:a.eval x=.slice p n c) (h:T (.int .i64 (n:Nat)) w):Runs Tryz.prog ⟨dst,.call { callee:=.builtin .len,args:=#[x],argTypes:=#[40] },ty,pos,after,g⟩ a w T:=by
 refine Runs.value (v:=.int .i64 (n:Nat)) (w':=w) ?_ h
 simp [execOp,resolve,invoke,builtin,hx,Result.andThen]
 go_simp
theorem rn_len_33 {x:Operand}{p:Option Addr}{n c:Nat}(hx:a.eval x=.slice p n c) (h:T (.int .i64 (n:Nat)) w):Runs Tryz.prog ⟨dst,.call { callee:=.builtin .len,args:=#[x],argTypes:=#[33] },ty,pos,after,g⟩ a w T:=by
 refine Runs.value (v:=.int .i64 (n:Nat)) (w':=w) ?_ h
 simp [execOp,resolve,invoke,builtin,hx,Result.andThen]
 go_simp
theorem rn_fld_42_6 {x:Operand}{S o:Nat}(hx:a.eval x=.pointer (some ⟨S,o,none⟩)) (h:T (.pointer (some ⟨S,o+6,none⟩)) w):Runs Tryz.prog ⟨dst,.fieldAddr 42 x 6,ty,pos,after,g⟩ a w T:=by
 refine Runs.value (v:=.pointer (some ⟨S,o+6,none⟩)) (w':=w) ?_ h
 simp only [execOp,hx]
 go_simp
theorem rn_add_3 {o1 o2:Operand}{b c:Int}(hx:a.eval o1=.int .i64 b) (hy:a.eval o2=.int .i64 c) (hb:-9223372036854775808≤b+c∧b+c≤9223372036854775807) (h:T (.int .i64 (b+c)) w):Runs Tryz.prog ⟨dst,.binOp .add 3 o1 o2 3,ty,pos,after,g⟩ a w T:=by
 refine Runs.value (v:=.int .i64 (b+c)) (w':=w) ?_ h
 have hw:IntKind.i64.wrap (b+c)=b+c:=IntWalk.i64_in _ hb
 simp only [execOp,hx,hy]
 go_simp
end
theorem enters_st:Enters Tryz.prog 29:=fun args w=>by go_simp
theorem enters_ex:Enters Tryz.prog 22:=fun args w=>by go_simp
set_option maxHeartbeats 8000000 in
theorem size_any (P:Pg) (B:Nat→Prop) (w:World) (cp gp sp op hp tp:Option Addr) (cc gc sc oc hc tc:Nat) (hB:∀b,B b→b < w.heap.size) (hpg:PgIn B w P cp gp sp op hp tp cc gc sc oc hc tc) (hn:zT P.ts≤1048576) :
 Calls Tryz.prog 32 #[pgv P cp gp sp op hp tp cc gc sc oc hc tc] w fun e w'=>e=.returned (.int .i64 (zT P.ts:Nat))∧Grew w w':=by
 have HX:=zh hpg.ts
 obtain ⟨hcaps,hmaxs⟩:=hpg.caps
 have HB:=zh hB
 obtain ⟨cs,gs,ss,os,hs,ts⟩:=P
 dsimp only at HX hcaps hn ⊢
 clear hpg hB
 go_enter Tryz.func32,Tryz.ntmps32
 go_wp2
 go_loopg [3,5,9] ts.length (fun gg lv bv iv wr=>∃(j d:Nat),lv=.int .i64 (d:Int)∧iv=.int .i64 (j:Int)∧j≤ts.length∧gg=ts.length - j∧Hid (d=zT (ts.take j))∧Hid (Grew w wr))
 case atStart=>exact⟨0,0,rfl,rfl,Nat.zero_le _,rfl,zh rfl,zh ((Grew.refl w).alloc _)⟩
 case round =>
  obtain ⟨j,d,rfl,rfl,hj,rfl,HD,HG⟩:=hrel
  by_cases hlt:j < ts.length
  ·have hzm:=zT_mem (List.getElem_mem hlt)
   have hzt:=zT_take ts j
   obtain ⟨ba,oa,pba,cba,rfl,hba,hboa,hca⟩:=HX.out.get j hlt
   have hma:=List.getElem_mem hlt
   have hta:=List.take_succ_eq_append_getElem hlt
   have HLa:=zh (Nat.succ_le_of_lt hlt)
   generalize ts[j]=xa at *
   obtain ⟨sa,ia,da,ha,ma,na,ya,qa⟩:=xa
   replace hba:sa.size≤1048576∧ha.size≤1048576∧ma.size≤1048576:=hba.2
   have HTa:=zh hta
   have HYa:Hid (SL B w pba cba ya):=zh hboa
   have hcapa:ya.length≤cba:=hboa.cap.1
   have hmaxa:=hboa.cap.2.1
   replace hca:∀i_ u_,(tdc ⟨sa,ia,da,ha,ma,na,pba,ya.length,cba,qa⟩)[i_]?=some u_→wr.cell? ⟨ba,oa+j * 8+i_,none⟩=some u_:=fun i_ u_ h_=>Atv.kept (hca i_ u_ h_) HG.out
   have ca0:wr.cell? ⟨ba,oa+j * 8,none⟩=some (.string sa):=by simpa using hca 0 _ rfl
   have ca1:wr.cell? ⟨ba,oa+j * 8+1,none⟩=some (.int .i64 ia):=hca 1 _ rfl
   have ca2:wr.cell? ⟨ba,oa+j * 8+2,none⟩=some (.int .i64 da):=hca 2 _ rfl
   have ca3:wr.cell? ⟨ba,oa+j * 8+3,none⟩=some (.string ha):=hca 3 _ rfl
   have ca4:wr.cell? ⟨ba,oa+j * 8+4,none⟩=some (.string ma):=hca 4 _ rfl
   have ca5:wr.cell? ⟨ba,oa+j * 8+5,none⟩=some (.int .i64 na):=hca 5 _ rfl
   have ca6:wr.cell? ⟨ba,oa+j * 8+6,none⟩=some (.slice pba ya.length cba):=hca 6 _ rfl
   have ca7:wr.cell? ⟨ba,oa+j * 8+7,none⟩=some (.int .i64 qa):=hca 7 _ rfl
   clear hca hboa hta
   replace hzm:nSs ya+mSs ya≤zT ts:=hzm
   have HNY:Hid (nSs ya≤1048576∧mSs ya≤1048576):=zh (by omega)
   have HDB:Hid (d≤1048576):=zh (by have:=HD.out;omega)
   clear hma hzm hzt
   go_upto_region 5 with fail
   have hb:Blk wr.heap.size [.string sa,.int .i64 ia,.int .i64 da,.string ha,.string ma,.int .i64 na,.slice pba ya.length cba,.int .i64 qa] 42 (wr.alloc (Obj.cells #[.string sa,.int .i64 ia,.int .i64 da,.string ha,.string ma,.int .i64 na,.slice pba ya.length cba,.int .i64 qa] 42)):=Blk.new wr _ _
   have hgV:Grew w (wr.alloc (Obj.cells #[.string sa,.int .i64 ia,.int .i64 da,.string ha,.string ma,.int .i64 na,.slice pba ya.length cba,.int .i64 qa] 42)):=HG.out.alloc _
   generalize (wr.alloc (Obj.cells #[.string sa,.int .i64 ia,.int .i64 da,.string ha,.string ma,.int .i64 na,.slice pba ya.length cba,.int .i64 qa] 42))=V at hb hgV ⊢
   generalize wr.heap.size=S at hb ⊢
   have HGV:=zh hgV
   have d6:Atv ⟨S,6,none⟩ (.slice pba ya.length cba) V.drew:=(hb.grew (Grew.refl _).drw).atv 6 rfl
   clear ca0 ca1 ca2 ca3 ca4 ca5 ca6 ca7 hb hgV HG
   refine wp_grew_tail 11 [some 13,some 14,some 15,some 16,some 17,some 18,some 19,some 20,some 21,some 22,some 23] (Zfd (Zfc (Zfa (Ztd (Ztb (Zta (Zfb []))))))) [fun v _=>v=.int .i64 (((d:Nat):Int)),fun v _=>v=.pointer (some ⟨S,6,none⟩),fun v _=>v=.slice pba ya.length cba,fun v _=>∃q m c,v=.slice q m c∧m=nSs ya,fun v _=>v=.int .i64 ((nSs ya:Nat):Int),fun v _=>v=.int .i64 ((((d:Nat):Int))+(((nSs ya:Nat):Int))),fun v _=>v=.pointer (some ⟨S,6,none⟩),fun v _=>v=.slice pba ya.length cba,fun v _=>∃q m c,v=.slice q m c∧m=mSs ya,fun v _=>v=.int .i64 ((mSs ya:Nat):Int),fun v _=>v=.int .i64 (((((d:Nat):Int))+(((nSs ya:Nat):Int)))+(((mSs ya:Nat):Int)))] (by kernel_rfl) (by kernel_rfl) (by kernel_rfl) rfl ?_ ⟨?_,?_,?_,?_,?_,?_,?_,?_,?_,?_,?_,trivial⟩ ?_
   ·exact⟨Zi,Zi,Zi,Zi,Zi,Zi,Zi,Zi,Zi,Zi,Zi,trivial⟩
   ·intro u w hR hd;exact runs_mv (ev rfl) Zr
   ·intro u w hR hd;exact rn_fld_42_6 (ev rfl) Zr
   ·intro u w hR hd;exact rn_ld_40 (ev (hd.1 rfl)) (d6.kept hR) Zr
   ·intro u w hR hd;exact runs_c1 enters_st (ev (hd.1 rfl)) ((stms_any _ ya (Nat.lt_succ_self _) B _ pba cba (fun b hb=>by have h1:=HB.out b hb;have h2:=(HGV.out.trans ((Grew.refl _).drw.trans hR)).sz;omega) (HYa.out.kept (HGV.out.trans ((Grew.refl _).drw.trans hR))) HNY.out.1).mono fun e w9 ⟨q,m,c,h1,h2,h3⟩=>⟨_,h1,h3,q,m,c,rfl,h2.len.trans (stmL_len _)⟩)
   ·intro u w hR hd;exact(match (hd.1 rfl) with | ⟨q,m,c,hp,hm⟩=>rn_len_40 (ev hp) ⟨Grew.refl _,congrArg (fun x:Nat=>Value.int .i64 (x:Int)) hm⟩)
   ·intro u w hR hd;exact rn_add_3 (ev (hd.1 rfl)) (ev (hd.2.1 rfl)) (by have:=HNY.out;have:=HDB.out;omega) Zr
   ·intro u w hR hd;exact rn_fld_42_6 (ev rfl) Zr
   ·intro u w hR hd;exact rn_ld_40 (ev (hd.1 rfl)) (d6.kept hR) Zr
   ·intro u w hR hd;exact runs_c1 enters_ex (ev (hd.1 rfl)) ((exprs_any ya B _ pba cba (fun b hb=>by have h1:=HB.out b hb;have h2:=(HGV.out.trans ((Grew.refl _).drw.trans hR)).sz;omega) (HYa.out.kept (HGV.out.trans ((Grew.refl _).drw.trans hR))) HNY.out.1 HNY.out.2).mono fun e w9 ⟨q,m,c,h1,h2,h3⟩=>⟨_,h1,h3,q,m,c,rfl,h2.len.trans (expL_len _)⟩)
   ·intro u w hR hd;exact(match (hd.1 rfl) with | ⟨q,m,c,hp,hm⟩=>rn_len_33 (ev hp) ⟨Grew.refl _,congrArg (fun x:Nat=>Value.int .i64 (x:Int)) hm⟩)
   ·intro u w hR hd;exact rn_add_3 (ev (hd.1 rfl)) (ev (hd.2.1 rfl)) (by have:=HNY.out;have:=HDB.out;omega) Zr
   ·intro u w4 hR h
    have he:u 23=.int .i64 (((d:Nat):Int)+((nSs ya:Nat):Int)+((mSs ya:Nat):Int)):=h 10 (by decide)
    have HG4:=zh (HGV.out.trans ((Grew.refl V).drw.trans hR))
    have HD2:=zh (HDB.out)
    refine wpAny_one (i:=11) (some 3) (by kernel_rfl) rfl rfl rfl (runs_mva (ev he) ?_)
    refine wpAny_done (by kernel_rfl) ?_ _
    simp only [mixA,mixL,zz9,zz0]
    clear h he hR d6
    go_wp2
    go_roundg (ts.length - (j+1))
    case measure=>have:=HLa.out;omega
    case rel=>exact⟨j+1,d+nSs ya+mSs ya,by go_num,by go_num,HLa.out,rfl,zh (by rw [zT_snoc HTa.out,← HD.out,Nat.add_assoc]),HG4⟩
  ·obtain rfl:j=ts.length:=by omega
   rw [List.take_length] at HD
   go_wp2
   go_ret
   exact⟨by rw [← HD.out];rfl,HG.out⟩
set_option maxHeartbeats 8000000 in
theorem depth_any (P:Pg) (B:Nat→Prop) (w:World) (cp gp sp op hp tp:Option Addr) (cc gc sc oc hc tc:Nat) (hpg:PgIn B w P cp gp sp op hp tp cc gc sc oc hc tc) (hn:zT P.ts≤1048576) :
 Calls Tryz.prog 34 #[pgv P cp gp sp op hp tp cc gc sc oc hc tc] w fun e w'=>e=.returned (.int .i64 (dT P.ts:Nat))∧Grew w w':=by
 have HX:=zh hpg.ts
 obtain ⟨hcaps,hmaxs⟩:=hpg.caps
 obtain ⟨cs,gs,ss,os,hs,ts⟩:=P
 dsimp only at HX hcaps hn ⊢
 clear hpg
 go_enter Tryz.func34,Tryz.ntmps34
 go_wp2
 go_loopg [3,5,9] ts.length (fun gg lv bv iv wr=>∃(j d:Nat),lv=.int .i64 (d:Int)∧iv=.int .i64 (j:Int)∧j≤ts.length∧gg=ts.length - j∧Hid (d=dT (ts.take j))∧Hid (Grew w wr))
 case atStart=>exact⟨0,0,rfl,rfl,Nat.zero_le _,rfl,zh rfl,zh ((Grew.refl w).alloc _)⟩
 case round =>
  obtain ⟨j,d,rfl,rfl,hj,rfl,HD,HG⟩:=hrel
  by_cases hlt:j < ts.length
  ·have hzm:=zT_mem (List.getElem_mem hlt)
   obtain ⟨ba,oa,pba,cba,rfl,hba,hboa,hca⟩:=HX.out.get j hlt
   have hma:=List.getElem_mem hlt
   have hta:=List.take_succ_eq_append_getElem hlt
   have HLa:=zh (Nat.succ_le_of_lt hlt)
   generalize ts[j]=xa at *
   obtain ⟨sa,ia,da,ha,ma,na,ya,qa⟩:=xa
   replace hba:sa.size≤1048576∧ha.size≤1048576∧ma.size≤1048576:=hba.2
   have HTa:=zh hta
   have HYa:Hid (SL B w pba cba ya):=zh hboa
   have hcapa:ya.length≤cba:=hboa.cap.1
   have hmaxa:=hboa.cap.2.1
   replace hca:∀i_ u_,(tdc ⟨sa,ia,da,ha,ma,na,pba,ya.length,cba,qa⟩)[i_]?=some u_→wr.cell? ⟨ba,oa+j * 8+i_,none⟩=some u_:=fun i_ u_ h_=>Atv.kept (hca i_ u_ h_) HG.out
   have ca0:wr.cell? ⟨ba,oa+j * 8,none⟩=some (.string sa):=by simpa using hca 0 _ rfl
   have ca1:wr.cell? ⟨ba,oa+j * 8+1,none⟩=some (.int .i64 ia):=hca 1 _ rfl
   have ca2:wr.cell? ⟨ba,oa+j * 8+2,none⟩=some (.int .i64 da):=hca 2 _ rfl
   have ca3:wr.cell? ⟨ba,oa+j * 8+3,none⟩=some (.string ha):=hca 3 _ rfl
   have ca4:wr.cell? ⟨ba,oa+j * 8+4,none⟩=some (.string ma):=hca 4 _ rfl
   have ca5:wr.cell? ⟨ba,oa+j * 8+5,none⟩=some (.int .i64 na):=hca 5 _ rfl
   have ca6:wr.cell? ⟨ba,oa+j * 8+6,none⟩=some (.slice pba ya.length cba):=hca 6 _ rfl
   have ca7:wr.cell? ⟨ba,oa+j * 8+7,none⟩=some (.int .i64 qa):=hca 7 _ rfl
   clear hca hboa hta
   replace hzm:nSs ya+mSs ya≤zT ts:=hzm
   obtain ⟨m,hmd⟩:∃m,dSs ya=m:=⟨_,rfl⟩
   have HMD:=zh hmd
   have HDS:=zh (fun W (hW:Grew w W)=>(show Calls Tryz.prog 89 #[.slice pba ya.length cba] W fun e w'=>e=.returned (.int .i64 (m:Nat))∧Grew W w' from hmd ▸ deps_any _ ya (Nat.lt_succ_self _) B W pba cba (HYa.out.kept hW) (by omega) (by omega)))
   clear hma hzm hmd
   go_wp2_with (go_at_call 89;(with_reducible refine(HDS.out _ (HG.out.alloc _)).mono ?_);rintro e w2 ⟨rfl,g2⟩;have HG2:=zh ((HG.out.alloc _).trans g2);clear g2)
   all_goals
    go_roundg (ts.length - (j+1))
    case measure=>have:=HLa.out;omega
    case rel=>exact⟨j+1,_,rfl,by go_num,HLa.out,rfl,zh (by rw [dT_snoc HTa.out,HMD.out,← HD.out];omega),HG2⟩
  ·obtain rfl:j=ts.length:=by omega
   rw [List.take_length] at HD
   go_wp2
   go_ret
   exact⟨by rw [← HD.out];rfl,HG.out⟩
set_option maxHeartbeats 8000000 in
theorem small_any (P:Pg) (B:Nat→Prop) (w:World) (cp gp sp op hp tp:Option Addr) (cc gc sc oc hc tc:Nat) (hB:∀b,B b→b < w.heap.size) (hpg:PgIn B w P cp gp sp op hp tp cc gc sc oc hc tc) (hn:zT P.ts≤1048576) :
 Calls Tryz.prog 12 #[pgv P cp gp sp op hp tp cc gc sc oc hc tc] w fun e w'=>e=.returned (.bool (smallP P))∧Grew w w':=by
 obtain ⟨hcaps,hmaxs⟩:=hpg.caps
 have HSZ:=zh (fun W (hW:Grew w W)=>size_any P B W cp gp sp op hp tp cc gc sc oc hc tc (fun b hb=>Nat.lt_of_lt_of_le (hB b hb) hW.sz) (hpg.kept hW) hn)
 have HDP:=zh (fun W (hW:Grew w W)=>depth_any P B W cp gp sp op hp tp cc gc sc oc hc tc (hpg.kept hW) hn)
 obtain ⟨b,hb⟩:∃b,smallP P=b:=⟨_,rfl⟩
 have HB:=zh hb
 rw [hb]
 unfold smallP at hb
 obtain ⟨cs,gs,ss,os,hs,ts⟩:=P
 dsimp only at hcaps hb HSZ HDP ⊢
 obtain ⟨z,hz⟩:∃z,zT ts=z:=⟨_,rfl⟩
 obtain ⟨d,hd⟩:∃d,dT ts=d:=⟨_,rfl⟩
 rw [hz] at hb HSZ
 rw [hd] at hb HDP
 have HBB:=zh hb
 clear hpg hB hb hz hd HB
 go_enter Tryz.func12,Tryz.ntmps12
 go_wp2_with (first
  | (go_at_call 32;(with_reducible refine(HSZ.out _ ((Grew.refl w).alloc _)).mono ?_);rintro e w2 ⟨rfl,g2⟩;have HG2:=zh (((Grew.refl w).alloc _).trans g2);have hbx:=(Blk.new w [.slice cp cs.length cc,.slice gp gs.length gc,.slice sp ss.length sc,.slice op os.length oc,.slice hp hs.length hc,.slice tp ts.length tc] 28).grew g2;have r0:=hbx.cell 0;have r1:=hbx.cell 1;have r2:=hbx.cell 2;have r3:=hbx.cell 3;have r4:=hbx.cell 4;have r5:=hbx.cell 5;simp only [zz7,zz8] at r0 r1 r2 r3 r4 r5;clear g2 hbx)
  | (go_at_call 34;(with_reducible refine(HDP.out _ HG2.out).mono ?_);rintro e w3 ⟨rfl,g3⟩;have HG3:=zh (HG2.out.trans g3);clear g3))
 all_goals go_ret
 all_goals (refine⟨ret_bool ?_,by first | exact HG3.out | exact HG2.out | exact(Grew.refl w).alloc _⟩;rw [← HBB.out,Bool.eq_iff_iff];simp only [Bool.and_eq_true,decide_eq_true_eq,Bool.false_eq_true,false_iff,not_and,iff_true,true_and,and_true];omega)
section
variable {dst:Option Tmp}{ty:TypeId}{pos:String}{after:Array Edge}{g:Option (Nat × Bool)}{a:Act}{w:World}{T:Value→World→Prop}
theorem rn_ret_c35 {fn:Func}{p0:Tmp}(h:fn.results=#[.cell p0 35]){tmps:Array Value}{w:World}{S0:Nat}{v0_0 v0_1 v0_2 v0_3 v0_4 v0_5:Value}{R:Ending→World→Prop}(hp0:tmps.getD p0 undef=.pointer (some ⟨S0,0,none⟩)) (h0_0:w.cell? ⟨S0,0,none⟩=some v0_0) (h0_1:w.cell? ⟨S0,1,none⟩=some v0_1) (h0_2:w.cell? ⟨S0,2,none⟩=some v0_2) (h0_3:w.cell? ⟨S0,3,none⟩=some v0_3) (h0_4:w.cell? ⟨S0,4,none⟩=some v0_4) (h0_5:w.cell? ⟨S0,5,none⟩=some v0_5) (hR:R (.returned (.agg #[v0_0,v0_1,v0_2,v0_3,v0_4,v0_5])) w):bodyPost Tryz.prog fn R .ret { tmps:=tmps,defers:=[] } w:=by
 refine bodyPost_ret (v:=.agg #[v0_0,v0_1,v0_2,v0_3,v0_4,v0_5]) ?_ rfl hR
 rw [Array.getD_eq_getD_getElem?] at hp0
 simp [results,h,hp0,h0_0,h0_1,h0_2,h0_3,h0_4,h0_5,go_sem]
end
end Go.Proofs.YtcknpcbkofgdoaaGreatDoor
