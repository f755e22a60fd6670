/-
  CANONICAL TEXTS: programs (layer 16).
  TREES WITHOUT POSITIONS (layer 16).
  STATEMENTS WITHOUT POSITIONS (layer 16).
  THE REFERENCE OF LAYER 16: line.
  THE REFERENCE OF LAYER 16: Format.
  EQUALITY OF TREES (layer 16).
  EQUALITY OF STATEMENTS (layer 16).
  THE REFERENCE OF LAYER 16: EqualExpr.
  THE REFERENCE OF LAYER 16: StripExpr.
  THE REFERENCE OF LAYER 16: EqualStmts.
  THE REFERENCE OF LAYER 16: names.
  THE REFERENCE OF LAYER 16: StripStmts.
  TOKENS OF CANONICAL TEXTS (layers 16, 17): what the lexer makes of the text of a well-formed tree. Nothing of the program stands here.
  A READER OF TOKENS (layers 16, 17): the grammar of the language as a function over tokens of whatever kind; it gives back the tree whose tokens it reads. Nothing of the program stands here.
-/
import Derived.Test.YtcknpcbkofgdoaaGreatDoorZcShort
import Derived.Test.YtcknpcbkofgdoaaGreatDoorZc01
import Derived.Test.YtcknpcbkofgdoaaGreatDoorZc00
import Derived.Deep.LoopGhost
import Derived.Deep.Cut
namespace Go.Proofs.YtcknpcbkofgdoaaGreatDoor
open Go Go.RowKit Go.IntWalk
set_option linter.unusedSimpArgs false
set_option linter.unusedVariables false
set_option maxRecDepth 8000
def lnC (O:List UInt8) (s:ByteArray) (z:Int):List UInt8:=(((((O)++([99,111,110,115,116,32]))++(s.data.toList))++([32,61,32]))++(numZ z))++([59,10])
def lnH (O:List UInt8) (s:ByteArray) (z:Int):List UInt8:=(((((O)++([99,104,97,110,110,101,108,32]))++(s.data.toList))++([91]))++(numZ z))++([93,59,10])
def lnG1 (O:List UInt8) (s:ByteArray):List UInt8:=(O++[118,97,114,32])++s.data.toList
def lnG2 (O:List UInt8) (l i:Int):List UInt8:=if 0 < l then ((O++[91])++numZ l)++[93] else if i≠0 then (O++[32,61,32])++numZ i else O
def lnG (O:List UInt8) (s:ByteArray) (l i:Int):List UInt8:=lnG2 (lnG1 O s) l i++[59,10]
def lnS (O:List UInt8) (s:ByteArray):List UInt8:=((O++[115,101,110,115,111,114,32])++s.data.toList)++[59,10]
def lnO (O:List UInt8) (s:ByteArray):List UInt8:=((O++[111,117,116,112,117,116,32])++s.data.toList)++[59,10]
def fCs (O:List UInt8) (l:List Cn):List UInt8:=l.foldl (fun O c=>lnC O c.s c.v) O
def fGs (O:List UInt8) (l:List Gl):List UInt8:=l.foldl (fun O c=>lnG O c.s c.l c.i) O
def fSs (O:List UInt8) (l:List ByteArray):List UInt8:=l.foldl lnS O
def fOs (O:List UInt8) (l:List ByteArray):List UInt8:=l.foldl lnO O
def fHs (O:List UInt8) (l:List Cn):List UInt8:=l.foldl (fun O c=>lnH O c.s c.v) O
def fTs (O:List UInt8) (l:List Ta):List UInt8:=l.foldl (fun O t=>O++tskT t) O
def fmT (P:Pg):List UInt8:=fTs (fHs (fOs (fSs (fGs (fCs [] P.cs) P.gs) P.ss) P.os) P.hs) P.ts
theorem okC_of {s:ByteArray}{z:Int}(h:okC s z=true):idn s=true∧-32767≤z:=by
 rw [okC,Bool.not_eq_true'] at h
 simp only [Bool.or_eq_false_iff,Bool.not_eq_false',decide_eq_false_iff_not] at h
 exact⟨h.1,by omega⟩
theorem okH_of {s:ByteArray}{z:Int}(h:okH s z=true):idn s=true∧0≤z∧z≤32767:=by
 rw [okH,Bool.not_eq_true'] at h
 simp only [Bool.or_eq_false_iff,Bool.not_eq_false',num1,Bool.and_eq_true,decide_eq_true_eq] at h
 exact h
theorem okG_of {s:ByteArray}{l i:Int}(h:okG s l i=true):idn s=true∧(0≤l∧l≤32767)∧-32767≤i∧(0 < l→i=0):=by
 rw [okG,Bool.not_eq_true'] at h
 simp only [Bool.or_eq_false_iff,Bool.not_eq_false',num1,Bool.and_eq_true,decide_eq_true_eq,decide_eq_false_iff_not,Bool.and_eq_false_iff] at h
 obtain ⟨⟨⟨h1,h2⟩,h3⟩,h4⟩:=h
 refine⟨h1,h2,by omega,fun h5=>?_⟩
 rcases h4 with h4 | h4
 ·omega
 ·simpa using h4
end Go.Proofs.YtcknpcbkofgdoaaGreatDoor
namespace Go.Proofs.YtcknpcbkofgdoaaGreatDoor
open Go Go.RowKit Go.IntWalk
set_option linter.unusedSimpArgs false
set_option linter.unusedVariables false
set_option maxRecDepth 8000
mutual
def stX:Xp→Xp
 | ⟨k,s,v,o,ar,_⟩=>⟨k,s,v,o,stXs ar,0⟩
def stXs:List Xp→List Xp
 | []=>[]
 | x :: xs=>stX x :: stXs xs
end
theorem stXs_append:∀a b:List Xp,stXs (a++b)=stXs a++stXs b
 | [],b=>by rw [List.nil_append,stXs,List.nil_append]
 | x :: a,b=>by rw [List.cons_append,stXs,stXs,stXs_append a b,List.cons_append]
theorem stXs_snoc {l:List Xp}{j:Nat}{x:Xp}(h:l.take (j+1)=l.take j++[x]):stXs (l.take (j+1))=stXs (l.take j)++[stX x]:=by
 rw [h,stXs_append,stXs,stXs]
theorem stXs_len:∀l:List Xp,(stXs l).length=l.length
 | []=>by rw [stXs]
 | x :: l=>by rw [stXs,List.length_cons,List.length_cons,stXs_len l]
abbrev Fresh (a b:Nat):Nat→Prop:=fun k=>a≤k∧k < b
abbrev Aside (a b:Nat) (p:Option Addr):Nat→Prop:=fun k=>a≤k∧k < b∧Off p k
end Go.Proofs.YtcknpcbkofgdoaaGreatDoor
namespace Go.Proofs.YtcknpcbkofgdoaaGreatDoor
open Go Go.RowKit Go.IntWalk
set_option linter.unusedSimpArgs false
set_option linter.unusedVariables false
set_option maxRecDepth 8000
mutual
def stS:Sm→Sm
 | ⟨k,s,n,ar,b,e,_⟩=>⟨k,s,n,stXs ar,stSs b,stSs e,0⟩
def stSs:List Sm→List Sm
 | []=>[]
 | x :: xs=>stS x :: stSs xs
end
theorem stSs_append:∀a b:List Sm,stSs (a++b)=stSs a++stSs b
 | [],b=>by rw [List.nil_append,stSs,List.nil_append]
 | x :: a,b=>by rw [List.cons_append,stSs,stSs,stSs_append a b,List.cons_append]
theorem stSs_snoc {l:List Sm}{j:Nat}{x:Sm}(h:l.take (j+1)=l.take j++[x]):stSs (l.take (j+1))=stSs (l.take j)++[stS x]:=by
 rw [h,stSs_append,stSs,stSs]
theorem stSs_len:∀l:List Sm,(stSs l).length=l.length
 | []=>by rw [stSs]
 | x :: l=>by rw [stSs,List.length_cons,List.length_cons,stSs_len l]
theorem stS_eq (k n q:Int) (s:ByteArray) (ar:List Xp) (b e:List Sm):stS ⟨k,s,n,ar,b,e,q⟩=⟨k,s,n,stXs ar,stSs b,stSs e,0⟩:=by rw [stS]
mutual
theorem stX_st:∀x:Xp,stX (stX x)=stX x
 | ⟨k,s,v,o,ar,q⟩=>by rw [stX,stX,stXs_st ar]
theorem stXs_st:∀l:List Xp,stXs (stXs l)=stXs l
 | []=>by rw [stXs,stXs]
 | x :: l=>by rw [stXs,stXs,stX_st x,stXs_st l]
end
mutual
theorem stS_st:∀x:Sm,stS (stS x)=stS x
 | ⟨k,s,n,ar,b,e,q⟩=>by rw [stS,stS,stXs_st ar,stSs_st b,stSs_st e]
theorem stSs_st:∀l:List Sm,stSs (stSs l)=stSs l
 | []=>by rw [stSs,stSs]
 | x :: l=>by rw [stSs,stSs,stS_st x,stSs_st l]
end
end Go.Proofs.YtcknpcbkofgdoaaGreatDoor
namespace Go.Proofs.YtcknpcbkofgdoaaGreatDoor
open Go Go.RowKit Go.IntWalk
set_option linter.unusedSimpArgs false
set_option linter.unusedVariables false
set_option maxRecDepth 8000
theorem SL_fit {B:Nat→Prop}{w:World}:∀(n:Nat) (p:Option Addr) (c:Nat) (xs:List Sm),nSs xs < n→SL B w p c xs→fitSs xs:=by
 intro n
 induction n with
 | zero=>intro _ _ _ h;exact absurd h (Nat.not_lt_zero _)
 | succ n ih =>
   intro p c xs hn hx
   obtain ⟨-,L,-,h2⟩:=hx
   induction xs generalizing L with
   | nil=>rw [fitSs];trivial
   | cons x xs ihx =>
     rw [SsAt] at h2
     rw [nSs] at hn
     obtain ⟨d,L',rfl,h3,h4⟩:=h2
     rw [SAt_iff] at h3
     obtain ⟨ap,ac,bp,bc,ep,ec,_,_,h5,h6,h7⟩:=h3
     rw [fitSs]
     rw [nS_be] at hn
     refine⟨?_,ihx (by omega) L' h4⟩
     rw [x.eta,fitS]
     exact⟨h5.fit,ih bp bc x.b (by omega) h6,ih ep ec x.e (by omega) h7⟩
theorem SL.fit {B:Nat→Prop}{w:World}{p:Option Addr}{c:Nat}{xs:List Sm}(h:SL B w p c xs):fitSs xs:=SL_fit _ _ _ _ (Nat.lt_succ_self _) h
end Go.Proofs.YtcknpcbkofgdoaaGreatDoor
namespace Go.Proofs.YtcknpcbkofgdoaaGreatDoor
open Go Go.RowKit Go.IntWalk
set_option linter.unusedSimpArgs false
set_option linter.unusedVariables false
set_option maxRecDepth 8000
section
variable {dst:Option Tmp}{ty:TypeId}{pos:String}{after:Array Edge}{g:Option (Nat × Bool)}{a:Act}{w:World}{T:Value→World→Prop}
theorem rn_cv_32_3 {x:Operand}{z:Int}(hx:a.eval x=.int .i16 z) (hb:-9223372036854775808≤z∧z≤9223372036854775807) (h:T (.int .i64 z) w):Runs Tryz.prog ⟨dst,.convert 32 3 x,ty,pos,after,g⟩ a w T:=by
 refine Runs.value (v:=.int .i64 z) (w':=w) ?_ h
 have hw:IntKind.i64.wrap z=z:=IntWalk.i64_in _ hb
 simp only [execOp,hx]
 go_simp
end
theorem tskT_len (t:Ta) (h:okT t=true) (hf:fitSs t.b) (hd:4+4 * dSs t.b≤400):(tskT t).length≤3000 * nSs t.b+64 * mSs t.b+400:=by
 obtain ⟨c1,c2,c3,c4⟩:=okT_cases h
 have l1:=linL_len t.b [32,32,32,32] c3 hf (by simpa using hd)
 have ls:=idn_len c1
 have lod:=optT_len [100,101,97,100,108,105,110,101] t.d c2
 simp only [List.length_cons,List.length_nil] at lod
 have lO:(tskO t.s).length≤37:=by rw [tskO,List.length_append];simp only [List.length_cons,List.length_nil];omega
 have lH:(tskH t).length≤200:=by
  rw [tskH]
  rcases c4 with ⟨c4,c5,c6,c7⟩ | ⟨c4,-,-,-⟩
  ·rw [if_pos c4,tskC]
   have lh:=idn_len c5
   have lm:=idn_len c6
   have low:=optT_len [119,105,116,104,105,110] t.w c7
   simp only [List.length_cons,List.length_nil] at low
   simp only [List.length_append,List.length_cons,List.length_nil]
   omega
  ·rw [if_neg (by omega),tskE]
   have lz:=numZ_len (z:=t.p) (by omega)
   simp only [List.length_append,List.length_cons,List.length_nil]
   omega
 rw [tskT,tskF]
 simp only [List.length_append,List.length_cons,List.length_nil]
 omega
end Go.Proofs.YtcknpcbkofgdoaaGreatDoor
namespace Go.Proofs.YtcknpcbkofgdoaaGreatDoor
open Go Go.RowKit Go.IntWalk
set_option linter.unusedSimpArgs false
set_option linter.unusedVariables false
set_option maxRecDepth 8000
def eqH (kx:Int) (sx:ByteArray) (vx ox:Int) (nx:Nat) (ky:Int) (sy:ByteArray) (vy oy:Int) (ny:Nat):Bool:=!((((((kx) != (ky))||(!decide ((sx)=(sy))))||((vx) != (vy)))||((ox) != (oy)))||((((nx:Nat):Int)) != (((ny:Nat):Int))))
mutual
def eqX:Xp→Xp→Bool
 | ⟨k,s,v,o,ar,_⟩,⟨k',s',v',o',ar',_⟩=>eqH k s v o ar.length k' s' v' o' ar'.length&&eqXs ar ar'
def eqXs:List Xp→List Xp→Bool
 | x :: xs,y :: ys=>eqX x y&&eqXs xs ys
 | _,_=>true
end
theorem eqXs_nil (l:List Xp):eqXs [] l=true:=by rw [eqXs];simp
theorem eqXs_snoc:∀(a b:List Xp) (x y:Xp),a.length=b.length→eqXs (a++[x]) (b++[y])=(eqXs a b&&eqX x y)
 | [],[],x,y,_=>by rw [List.nil_append,List.nil_append,eqXs,eqXs_nil,Bool.and_true,Bool.true_and]
 | u :: a,v :: b,x,y,h=>by
   rw [List.cons_append,List.cons_append,eqXs,eqXs,eqXs_snoc a b x y (by simpa using h),Bool.and_assoc]
theorem eqXs_no:∀(a b:List Xp) (j:Nat) (hj:j < a.length) (hj':j < b.length),eqX a[j] b[j]=false→eqXs a b=false
 | x :: a,y :: b,0,_,_,h=>by
   rw [eqXs]
   simp only [zz2] at h
   rw [h,Bool.false_and]
 | x :: a,y :: b,j+1,h1,h2,h=>by
   rw [eqXs,eqXs_no a b j (by simpa using h1) (by simpa using h2) (by simpa using h),Bool.and_false]
end Go.Proofs.YtcknpcbkofgdoaaGreatDoor
namespace Go.Proofs.YtcknpcbkofgdoaaGreatDoor
open Go Go.RowKit Go.IntWalk
set_option linter.unusedSimpArgs false
set_option linter.unusedVariables false
set_option maxRecDepth 8000
def eqHS (ka:Int) (sa:ByteArray) (na:Int) (na_:Nat) (kb:Int) (sb:ByteArray) (nb:Int) (nb_:Nat) (m1 m2:Bool):Bool:=!(((((((ka) != (kb))||(!decide ((sa)=(sb))))||((na) != (nb)))||((((na_:Nat):Int)) != (((nb_:Nat):Int))))||(!(m1)))||(!(m2)))
mutual
def eqS:Sm→Sm→Bool
 | ⟨k,s,n,ar,b,e,_⟩,⟨k',s',n',ar',b',e',_⟩=>eqHS k s n ar.length k' s' n' ar'.length (decide (b.length=b'.length)&&eqSz b b') (decide (e.length=e'.length)&&eqSz e e')&&eqXs ar ar'
def eqSz:List Sm→List Sm→Bool
 | x :: xs,y :: ys=>eqS x y&&eqSz xs ys
 | _,_=>true
end
def eqSs (a b:List Sm):Bool:=decide (a.length=b.length)&&eqSz a b
theorem eqS_eq (k n q k' n' q':Int) (s s':ByteArray) (ar ar':List Xp) (b e b' e':List Sm):eqS ⟨k,s,n,ar,b,e,q⟩ ⟨k',s',n',ar',b',e',q'⟩=(eqHS k s n ar.length k' s' n' ar'.length (eqSs b b') (eqSs e e')&&eqXs ar ar'):=by rw [eqS];rfl
theorem eqSz_nil (l:List Sm):eqSz [] l=true:=by rw [eqSz];simp
theorem eqSz_snoc:∀(a b:List Sm) (x y:Sm),a.length=b.length→eqSz (a++[x]) (b++[y])=(eqSz a b&&eqS x y)
 | [],[],x,y,_=>by rw [List.nil_append,List.nil_append,eqSz,eqSz_nil,Bool.and_true,Bool.true_and]
 | u :: a,v :: b,x,y,h=>by
   rw [List.cons_append,List.cons_append,eqSz,eqSz,eqSz_snoc a b x y (by simpa using h),Bool.and_assoc]
theorem eqSz_no:∀(a b:List Sm) (j:Nat) (hj:j < a.length) (hj':j < b.length),eqS a[j] b[j]=false→eqSz a b=false
 | x :: a,y :: b,0,_,_,h=>by
   rw [eqSz]
   simp only [zz2] at h
   rw [h,Bool.false_and]
 | x :: a,y :: b,j+1,h1,h2,h=>by
   rw [eqSz,eqSz_no a b j (by simpa using h1) (by simpa using h2) (by simpa using h),Bool.and_false]
end Go.Proofs.YtcknpcbkofgdoaaGreatDoor
namespace Go.Proofs.YtcknpcbkofgdoaaGreatDoor
open Go Go.RowKit Go.IntWalk
set_option linter.unusedSimpArgs false
set_option linter.unusedVariables false
set_option maxRecDepth 8000
section
variable {dst:Option Tmp}{ty:TypeId}{pos:String}{after:Array Edge}{g:Option (Nat × Bool)}{a:Act}{w:World}{T:Value→World→Prop}
end
theorem enters_eq:Enters Tryz.prog 24:=fun args w=>by go_simp
set_option maxHeartbeats 16000000 in
theorem eqx_any:∀(x y:Xp) (A B:Nat→Prop) (w:World) (p p':Option Addr) (c c':Nat),XL A w p c x.ar→XL B w p' c' y.ar →
 Calls Tryz.prog 24 #[xv x.k x.s x.v x.o p x.ar.length c x.q,xv y.k y.s y.v y.o p' y.ar.length c' y.q] w fun e w'=>e=.returned (.bool (eqX x y))∧Grew w w':=by
 intro x
 induction x using Xp.ind with
 | h kx sx vx ox rx qx ih =>
 intro y A B w px py cx cy hx hy
 obtain ⟨ky,sy,vy,oy,ry,qy⟩:=y
 replace hx:XL A w px cx rx:=hx
 replace hy:XL B w py cy ry:=hy
 have HX:=Lib.hid hx
 have HY:=Lib.hid hy
 have hcap:rx.length≤cx∧ry.length≤cy:=⟨hx.cap.1,hy.cap.1⟩
 have hmax:=And.intro hx.cap.2.1 hy.cap.2.1
 show Calls Tryz.prog 24 #[xv kx sx vx ox px rx.length cx qx,xv ky sy vy oy py ry.length cy qy] w _
 obtain ⟨b,hb⟩:∃b,eqX ⟨kx,sx,vx,ox,rx,qx⟩ ⟨ky,sy,vy,oy,ry,qy⟩=b:=⟨_,rfl⟩
 rw [hb]
 rw [eqX] at hb
 have HOK:=Lib.hid hb
 clear hx hy hb
 go_enter Tryz.func24,Tryz.ntmps24
 go_upto_region 1 with fail
 have hb1:Blk w.heap.size [.int .i64 kx,.string sx,.int .i16 vx,.int .i64 ox,.slice px rx.length cx,.int .i64 qx] 35 (w.alloc (Obj.cells #[.int .i64 kx,.string sx,.int .i16 vx,.int .i64 ox,.slice px rx.length cx,.int .i64 qx] 35)):=Blk.new w _ _
 have hb2:Blk (w.heap.size+1) [.int .i64 ky,.string sy,.int .i16 vy,.int .i64 oy,.slice py ry.length cy,.int .i64 qy] 35 ((w.alloc (Obj.cells #[.int .i64 kx,.string sx,.int .i16 vx,.int .i64 ox,.slice px rx.length cx,.int .i64 qx] 35)).alloc (Obj.cells #[.int .i64 ky,.string sy,.int .i16 vy,.int .i64 oy,.slice py ry.length cy,.int .i64 qy] 35)):=by
  have h:=Blk.new (w.alloc (Obj.cells #[.int .i64 kx,.string sx,.int .i16 vx,.int .i64 ox,.slice px rx.length cx,.int .i64 qx] 35)) [.int .i64 ky,.string sy,.int .i16 vy,.int .i64 oy,.slice py ry.length cy,.int .i64 qy] 35
  rw [alloc_sz] at h
  exact h
 have hb3:=hb1.grew ((Grew.refl _).alloc (Obj.cells #[.int .i64 ky,.string sy,.int .i16 vy,.int .i64 oy,.slice py ry.length cy,.int .i64 qy] 35))
 have hgV:Grew w ((w.alloc (Obj.cells #[.int .i64 kx,.string sx,.int .i16 vx,.int .i64 ox,.slice px rx.length cx,.int .i64 qx] 35)).alloc (Obj.cells #[.int .i64 ky,.string sy,.int .i16 vy,.int .i64 oy,.slice py ry.length cy,.int .i64 qy] 35)):=((Grew.refl w).alloc _).alloc _
 generalize ((w.alloc (Obj.cells #[.int .i64 kx,.string sx,.int .i16 vx,.int .i64 ox,.slice px rx.length cx,.int .i64 qx] 35)).alloc (Obj.cells #[.int .i64 ky,.string sy,.int .i16 vy,.int .i64 oy,.slice py ry.length cy,.int .i64 qy] 35))=V at hb2 hb3 hgV ⊢
 clear hb1
 generalize w.heap.size+1=U at hb2 ⊢
 generalize w.heap.size=S at hb3 ⊢
 have HBS:=Lib.hid hb3
 have HBU:=Lib.hid hb2
 have HGV:=Lib.hid hgV
 have d0:Atv ⟨S,0,none⟩ (.int .i64 kx) V:=hb3.atv 0 rfl
 have d1:Atv ⟨S,1,none⟩ (.string sx) V:=hb3.atv 1 rfl
 have d2:Atv ⟨S,2,none⟩ (.int .i16 vx) V:=hb3.atv 2 rfl
 have d3:Atv ⟨S,3,none⟩ (.int .i64 ox) V:=hb3.atv 3 rfl
 have d4:Atv ⟨S,4,none⟩ (.slice px rx.length cx) V:=hb3.atv 4 rfl
 have e0:Atv ⟨U,0,none⟩ (.int .i64 ky) V:=hb2.atv 0 rfl
 have e1:Atv ⟨U,1,none⟩ (.string sy) V:=hb2.atv 1 rfl
 have e2:Atv ⟨U,2,none⟩ (.int .i16 vy) V:=hb2.atv 2 rfl
 have e3:Atv ⟨U,3,none⟩ (.int .i64 oy) V:=hb2.atv 3 rfl
 have e4:Atv ⟨U,4,none⟩ (.slice py ry.length cy) V:=hb2.atv 4 rfl
 clear hb2 hb3 hgV
 refine wp_stillL [some 6,some 7,some 8,some 9,some 10,some 11,some 12,some 13,some 14,some 15,some 16,some 17,some 18,some 19,some 20,some 21,some 22,some 23,some 24,some 25,some 26,some 27,some 28,some 29,some 30,some 31,some 32,some 33,some 34,some 35,some 36,some 37,some 38,some 39,some 40] [Zf,Zf,Zf,Zf,Zf,Zf,Zt,Zt,Zt,Zt,Zt,Zt,Zt,Zt,Zt,Zt,Zt,Zt,Zt,Zt,Zt,Zt,Zt,Zt,Zt,Zt,Zt,Zt,Zt,Zt,Zt,Zt,Zt,Zt,Zt,Zt,Zt,Zt,Zt,Zt,Zt,Zf,Zf,Zf,Zf,Zf,Zf,Zf,Zf,Zf,Zf,Zf,Zf,Zf,Zf,Zf,Zf,Zf,Zf,Zf] [fun v _=>v=.pointer (some ⟨S,0,none⟩),fun v _=>v=.int .i64 (kx),fun v _=>v=.pointer (some ⟨U,0,none⟩),fun v _=>v=.int .i64 (ky),fun v _=>v=.bool ((kx) != (ky)),fun v _=>v=.bool ((kx) != (ky)),fun v _=>((((kx) != (ky))=false)→v=.pointer (some ⟨S,1,none⟩))∧(¬ (((kx) != (ky))=false)→v=undef),fun v _=>((((kx) != (ky))=false)→v=.string sx)∧(¬ (((kx) != (ky))=false)→v=undef),fun v _=>((((kx) != (ky))=false)→v=.pointer (some ⟨U,1,none⟩))∧(¬ (((kx) != (ky))=false)→v=undef),fun v _=>((((kx) != (ky))=false)→v=.string sy)∧(¬ (((kx) != (ky))=false)→v=undef),fun v _=>((((kx) != (ky))=false)→v=.bool (!decide ((sx)=(sy))))∧(¬ (((kx) != (ky))=false)→v=undef),fun v _=>v=.bool (((kx) != (ky))||(!decide ((sx)=(sy)))),fun v _=>v=.bool (((kx) != (ky))||(!decide ((sx)=(sy)))),fun v _=>(((((kx) != (ky))||(!decide ((sx)=(sy))))=false)→v=.pointer (some ⟨S,2,none⟩))∧(¬ ((((kx) != (ky))||(!decide ((sx)=(sy))))=false)→v=undef),fun v _=>(((((kx) != (ky))||(!decide ((sx)=(sy))))=false)→v=.int .i16 (vx))∧(¬ ((((kx) != (ky))||(!decide ((sx)=(sy))))=false)→v=undef),fun v _=>(((((kx) != (ky))||(!decide ((sx)=(sy))))=false)→v=.pointer (some ⟨U,2,none⟩))∧(¬ ((((kx) != (ky))||(!decide ((sx)=(sy))))=false)→v=undef),fun v _=>(((((kx) != (ky))||(!decide ((sx)=(sy))))=false)→v=.int .i16 (vy))∧(¬ ((((kx) != (ky))||(!decide ((sx)=(sy))))=false)→v=undef),fun v _=>(((((kx) != (ky))||(!decide ((sx)=(sy))))=false)→v=.bool ((vx) != (vy)))∧(¬ ((((kx) != (ky))||(!decide ((sx)=(sy))))=false)→v=undef),fun v _=>v=.bool ((((kx) != (ky))||(!decide ((sx)=(sy))))||((vx) != (vy))),fun v _=>v=.bool ((((kx) != (ky))||(!decide ((sx)=(sy))))||((vx) != (vy))),fun v _=>((((((kx) != (ky))||(!decide ((sx)=(sy))))||((vx) != (vy)))=false)→v=.pointer (some ⟨S,3,none⟩))∧(¬ (((((kx) != (ky))||(!decide ((sx)=(sy))))||((vx) != (vy)))=false)→v=undef),fun v _=>((((((kx) != (ky))||(!decide ((sx)=(sy))))||((vx) != (vy)))=false)→v=.int .i64 (ox))∧(¬ (((((kx) != (ky))||(!decide ((sx)=(sy))))||((vx) != (vy)))=false)→v=undef),fun v _=>((((((kx) != (ky))||(!decide ((sx)=(sy))))||((vx) != (vy)))=false)→v=.pointer (some ⟨U,3,none⟩))∧(¬ (((((kx) != (ky))||(!decide ((sx)=(sy))))||((vx) != (vy)))=false)→v=undef),fun v _=>((((((kx) != (ky))||(!decide ((sx)=(sy))))||((vx) != (vy)))=false)→v=.int .i64 (oy))∧(¬ (((((kx) != (ky))||(!decide ((sx)=(sy))))||((vx) != (vy)))=false)→v=undef),fun v _=>((((((kx) != (ky))||(!decide ((sx)=(sy))))||((vx) != (vy)))=false)→v=.bool ((ox) != (oy)))∧(¬ (((((kx) != (ky))||(!decide ((sx)=(sy))))||((vx) != (vy)))=false)→v=undef),fun v _=>v=.bool (((((kx) != (ky))||(!decide ((sx)=(sy))))||((vx) != (vy)))||((ox) != (oy))),fun v _=>v=.bool (((((kx) != (ky))||(!decide ((sx)=(sy))))||((vx) != (vy)))||((ox) != (oy))),fun v _=>(((((((kx) != (ky))||(!decide ((sx)=(sy))))||((vx) != (vy)))||((ox) != (oy)))=false)→v=.pointer (some ⟨S,4,none⟩))∧(¬ ((((((kx) != (ky))||(!decide ((sx)=(sy))))||((vx) != (vy)))||((ox) != (oy)))=false)→v=undef),fun v _=>(((((((kx) != (ky))||(!decide ((sx)=(sy))))||((vx) != (vy)))||((ox) != (oy)))=false)→v=.slice px (rx.length) (cx))∧(¬ ((((((kx) != (ky))||(!decide ((sx)=(sy))))||((vx) != (vy)))||((ox) != (oy)))=false)→v=undef),fun v _=>(((((((kx) != (ky))||(!decide ((sx)=(sy))))||((vx) != (vy)))||((ox) != (oy)))=false)→v=.int .i64 (((rx.length:Nat):Int)))∧(¬ ((((((kx) != (ky))||(!decide ((sx)=(sy))))||((vx) != (vy)))||((ox) != (oy)))=false)→v=undef),fun v _=>(((((((kx) != (ky))||(!decide ((sx)=(sy))))||((vx) != (vy)))||((ox) != (oy)))=false)→v=.pointer (some ⟨U,4,none⟩))∧(¬ ((((((kx) != (ky))||(!decide ((sx)=(sy))))||((vx) != (vy)))||((ox) != (oy)))=false)→v=undef),fun v _=>(((((((kx) != (ky))||(!decide ((sx)=(sy))))||((vx) != (vy)))||((ox) != (oy)))=false)→v=.slice py (ry.length) (cy))∧(¬ ((((((kx) != (ky))||(!decide ((sx)=(sy))))||((vx) != (vy)))||((ox) != (oy)))=false)→v=undef),fun v _=>(((((((kx) != (ky))||(!decide ((sx)=(sy))))||((vx) != (vy)))||((ox) != (oy)))=false)→v=.int .i64 (((ry.length:Nat):Int)))∧(¬ ((((((kx) != (ky))||(!decide ((sx)=(sy))))||((vx) != (vy)))||((ox) != (oy)))=false)→v=undef),fun v _=>(((((((kx) != (ky))||(!decide ((sx)=(sy))))||((vx) != (vy)))||((ox) != (oy)))=false)→v=.bool ((((rx.length:Nat):Int)) != (((ry.length:Nat):Int))))∧(¬ ((((((kx) != (ky))||(!decide ((sx)=(sy))))||((vx) != (vy)))||((ox) != (oy)))=false)→v=undef),fun v _=>v=.bool ((((((kx) != (ky))||(!decide ((sx)=(sy))))||((vx) != (vy)))||((ox) != (oy)))||((((rx.length:Nat):Int)) != (((ry.length:Nat):Int))))] (by kernel_rfl) rfl ⟨?_,?_,?_,?_,?_,?_,?_,?_,?_,?_,?_,?_,?_,?_,?_,?_,?_,?_,?_,?_,?_,?_,?_,?_,?_,?_,?_,?_,?_,?_,?_,?_,?_,?_,?_,trivial⟩ ?_
 ·intro u w hR hd;exact rn_fld_35_0 (ev rfl) ⟨rfl,rfl⟩
 ·intro u w hR hd;exact rn_ld_3 (ev (hd.1 rfl)) (d0.kept hR) ⟨rfl,rfl⟩
 ·intro u w hR hd;exact rn_fld_35_0 (ev rfl) ⟨rfl,rfl⟩
 ·intro u w hR hd;exact rn_ld_3 (ev (hd.1 rfl)) (e0.kept hR) ⟨rfl,rfl⟩
 ·intro u w hR hd;exact rn_neq_3 (ev (hd.1 rfl)) (ev (hd.2.1 rfl)) ⟨rfl,rfl⟩
 ·intro u w hR hd;exact runs_mv (ev (hd.1 rfl)) ⟨rfl,rfl⟩
 ·intro u w hR hd;exact⟨fun hg=>have hG:(((kx) != (ky))=false):=Value.bool.inj ((hd.1 rfl).symm.trans hg);rn_fld_35_1 (ev rfl) ⟨rfl,⟨fun _=>rfl,fun hn=>absurd hG hn⟩⟩,Zn (hd.1 rfl)⟩
 ·intro u w hR hd;exact⟨fun hg=>have hG:(((kx) != (ky))=false):=Value.bool.inj ((hd.2.1 rfl).symm.trans hg);rn_ld_9 (ev ((hd.1 rfl).1 hG)) (d1.kept hR) ⟨rfl,⟨fun _=>rfl,fun hn=>absurd hG hn⟩⟩,Zn (hd.2.1 rfl)⟩
 ·intro u w hR hd;exact⟨fun hg=>have hG:(((kx) != (ky))=false):=Value.bool.inj ((hd.1 rfl).symm.trans hg);rn_fld_35_1 (ev rfl) ⟨rfl,⟨fun _=>rfl,fun hn=>absurd hG hn⟩⟩,Zn (hd.1 rfl)⟩
 ·intro u w hR hd;exact⟨fun hg=>have hG:(((kx) != (ky))=false):=Value.bool.inj ((hd.2.1 rfl).symm.trans hg);rn_ld_9 (ev ((hd.1 rfl).1 hG)) (e1.kept hR) ⟨rfl,⟨fun _=>rfl,fun hn=>absurd hG hn⟩⟩,Zn (hd.2.1 rfl)⟩
 ·intro u w hR hd;exact⟨fun hg=>have hG:(((kx) != (ky))=false):=Value.bool.inj ((hd.2.2.1 rfl).symm.trans hg);rn_nes_9 (ev ((hd.1 rfl).1 hG)) (ev ((hd.2.1 rfl).1 hG)) ⟨rfl,⟨fun _=>rfl,fun hn=>absurd hG hn⟩⟩,Zn (hd.2.2.1 rfl)⟩
 ·intro u w hR hd;exact runs_or2 (ev (hd.1 rfl)) (fun hb=>ev ((hd.2.1 rfl).1 hb)) ⟨rfl,rfl⟩
 ·intro u w hR hd;exact runs_mv (ev (hd.1 rfl)) ⟨rfl,rfl⟩
 ·intro u w hR hd;exact⟨fun hg=>have hG:((((kx) != (ky))||(!decide ((sx)=(sy))))=false):=Value.bool.inj ((hd.1 rfl).symm.trans hg);rn_fld_35_2 (ev rfl) ⟨rfl,⟨fun _=>rfl,fun hn=>absurd hG hn⟩⟩,Zn (hd.1 rfl)⟩
 ·intro u w hR hd;exact⟨fun hg=>have hG:((((kx) != (ky))||(!decide ((sx)=(sy))))=false):=Value.bool.inj ((hd.2.1 rfl).symm.trans hg);rn_ld_32 (ev ((hd.1 rfl).1 hG)) (d2.kept hR) ⟨rfl,⟨fun _=>rfl,fun hn=>absurd hG hn⟩⟩,Zn (hd.2.1 rfl)⟩
 ·intro u w hR hd;exact⟨fun hg=>have hG:((((kx) != (ky))||(!decide ((sx)=(sy))))=false):=Value.bool.inj ((hd.1 rfl).symm.trans hg);rn_fld_35_2 (ev rfl) ⟨rfl,⟨fun _=>rfl,fun hn=>absurd hG hn⟩⟩,Zn (hd.1 rfl)⟩
 ·intro u w hR hd;exact⟨fun hg=>have hG:((((kx) != (ky))||(!decide ((sx)=(sy))))=false):=Value.bool.inj ((hd.2.1 rfl).symm.trans hg);rn_ld_32 (ev ((hd.1 rfl).1 hG)) (e2.kept hR) ⟨rfl,⟨fun _=>rfl,fun hn=>absurd hG hn⟩⟩,Zn (hd.2.1 rfl)⟩
 ·intro u w hR hd;exact⟨fun hg=>have hG:((((kx) != (ky))||(!decide ((sx)=(sy))))=false):=Value.bool.inj ((hd.2.2.1 rfl).symm.trans hg);rn_neq_32 (ev ((hd.1 rfl).1 hG)) (ev ((hd.2.1 rfl).1 hG)) ⟨rfl,⟨fun _=>rfl,fun hn=>absurd hG hn⟩⟩,Zn (hd.2.2.1 rfl)⟩
 ·intro u w hR hd;exact runs_or2 (ev (hd.1 rfl)) (fun hb=>ev ((hd.2.1 rfl).1 hb)) ⟨rfl,rfl⟩
 ·intro u w hR hd;exact runs_mv (ev (hd.1 rfl)) ⟨rfl,rfl⟩
 ·intro u w hR hd;exact⟨fun hg=>have hG:(((((kx) != (ky))||(!decide ((sx)=(sy))))||((vx) != (vy)))=false):=Value.bool.inj ((hd.1 rfl).symm.trans hg);rn_fld_35_3 (ev rfl) ⟨rfl,⟨fun _=>rfl,fun hn=>absurd hG hn⟩⟩,Zn (hd.1 rfl)⟩
 ·intro u w hR hd;exact⟨fun hg=>have hG:(((((kx) != (ky))||(!decide ((sx)=(sy))))||((vx) != (vy)))=false):=Value.bool.inj ((hd.2.1 rfl).symm.trans hg);rn_ld_3 (ev ((hd.1 rfl).1 hG)) (d3.kept hR) ⟨rfl,⟨fun _=>rfl,fun hn=>absurd hG hn⟩⟩,Zn (hd.2.1 rfl)⟩
 ·intro u w hR hd;exact⟨fun hg=>have hG:(((((kx) != (ky))||(!decide ((sx)=(sy))))||((vx) != (vy)))=false):=Value.bool.inj ((hd.1 rfl).symm.trans hg);rn_fld_35_3 (ev rfl) ⟨rfl,⟨fun _=>rfl,fun hn=>absurd hG hn⟩⟩,Zn (hd.1 rfl)⟩
 ·intro u w hR hd;exact⟨fun hg=>have hG:(((((kx) != (ky))||(!decide ((sx)=(sy))))||((vx) != (vy)))=false):=Value.bool.inj ((hd.2.1 rfl).symm.trans hg);rn_ld_3 (ev ((hd.1 rfl).1 hG)) (e3.kept hR) ⟨rfl,⟨fun _=>rfl,fun hn=>absurd hG hn⟩⟩,Zn (hd.2.1 rfl)⟩
 ·intro u w hR hd;exact⟨fun hg=>have hG:(((((kx) != (ky))||(!decide ((sx)=(sy))))||((vx) != (vy)))=false):=Value.bool.inj ((hd.2.2.1 rfl).symm.trans hg);rn_neq_3 (ev ((hd.1 rfl).1 hG)) (ev ((hd.2.1 rfl).1 hG)) ⟨rfl,⟨fun _=>rfl,fun hn=>absurd hG hn⟩⟩,Zn (hd.2.2.1 rfl)⟩
 ·intro u w hR hd;exact runs_or2 (ev (hd.1 rfl)) (fun hb=>ev ((hd.2.1 rfl).1 hb)) ⟨rfl,rfl⟩
 ·intro u w hR hd;exact runs_mv (ev (hd.1 rfl)) ⟨rfl,rfl⟩
 ·intro u w hR hd;exact⟨fun hg=>have hG:((((((kx) != (ky))||(!decide ((sx)=(sy))))||((vx) != (vy)))||((ox) != (oy)))=false):=Value.bool.inj ((hd.1 rfl).symm.trans hg);rn_fld_35_4 (ev rfl) ⟨rfl,⟨fun _=>rfl,fun hn=>absurd hG hn⟩⟩,Zn (hd.1 rfl)⟩
 ·intro u w hR hd;exact⟨fun hg=>have hG:((((((kx) != (ky))||(!decide ((sx)=(sy))))||((vx) != (vy)))||((ox) != (oy)))=false):=Value.bool.inj ((hd.2.1 rfl).symm.trans hg);rn_ld_33 (ev ((hd.1 rfl).1 hG)) (d4.kept hR) ⟨rfl,⟨fun _=>rfl,fun hn=>absurd hG hn⟩⟩,Zn (hd.2.1 rfl)⟩
 ·intro u w hR hd;exact⟨fun hg=>have hG:((((((kx) != (ky))||(!decide ((sx)=(sy))))||((vx) != (vy)))||((ox) != (oy)))=false):=Value.bool.inj ((hd.2.1 rfl).symm.trans hg);rn_len_33 (ev ((hd.1 rfl).1 hG)) ⟨rfl,⟨fun _=>rfl,fun hn=>absurd hG hn⟩⟩,Zn (hd.2.1 rfl)⟩
 ·intro u w hR hd;exact⟨fun hg=>have hG:((((((kx) != (ky))||(!decide ((sx)=(sy))))||((vx) != (vy)))||((ox) != (oy)))=false):=Value.bool.inj ((hd.1 rfl).symm.trans hg);rn_fld_35_4 (ev rfl) ⟨rfl,⟨fun _=>rfl,fun hn=>absurd hG hn⟩⟩,Zn (hd.1 rfl)⟩
 ·intro u w hR hd;exact⟨fun hg=>have hG:((((((kx) != (ky))||(!decide ((sx)=(sy))))||((vx) != (vy)))||((ox) != (oy)))=false):=Value.bool.inj ((hd.2.1 rfl).symm.trans hg);rn_ld_33 (ev ((hd.1 rfl).1 hG)) (e4.kept hR) ⟨rfl,⟨fun _=>rfl,fun hn=>absurd hG hn⟩⟩,Zn (hd.2.1 rfl)⟩
 ·intro u w hR hd;exact⟨fun hg=>have hG:((((((kx) != (ky))||(!decide ((sx)=(sy))))||((vx) != (vy)))||((ox) != (oy)))=false):=Value.bool.inj ((hd.2.1 rfl).symm.trans hg);rn_len_33 (ev ((hd.1 rfl).1 hG)) ⟨rfl,⟨fun _=>rfl,fun hn=>absurd hG hn⟩⟩,Zn (hd.2.1 rfl)⟩
 ·intro u w hR hd;exact⟨fun hg=>have hG:((((((kx) != (ky))||(!decide ((sx)=(sy))))||((vx) != (vy)))||((ox) != (oy)))=false):=Value.bool.inj ((hd.2.2.1 rfl).symm.trans hg);rn_neq_3 (ev ((hd.1 rfl).1 hG)) (ev ((hd.2.1 rfl).1 hG)) ⟨rfl,⟨fun _=>rfl,fun hn=>absurd hG hn⟩⟩,Zn (hd.2.2.1 rfl)⟩
 ·intro u w hR hd;exact runs_or2 (ev (hd.1 rfl)) (fun hb=>ev ((hd.2.1 rfl).1 hb)) ⟨rfl,rfl⟩
 ·intro u h
  have he:u 40=.bool ((((((kx) != (ky))||(!decide ((sx)=(sy))))||((vx) != (vy)))||((ox) != (oy)))||((((rx.length:Nat):Int)) != (((ry.length:Nat):Int)))):=h 34 (by decide)
  have hE:((((((kx) != (ky))||(!decide ((sx)=(sy))))||((vx) != (vy)))||((ox) != (oy)))||((((rx.length:Nat):Int)) != (((ry.length:Nat):Int))))=!eqH kx sx vx ox rx.length ky sy vy oy ry.length:=by rw [eqH,Bool.not_not]
  rw [hE] at he
  simp only [mixA,mixL,zz9,zz0,he]
  clear h he hE d0 d1 d2 d3 d4 e0 e1 e2 e3 e4
  cases hh:eqH kx sx vx ox rx.length ky sy vy oy ry.length with
  | false =>
    rw [hh,Bool.false_and] at HOK
    go_wp2
    go_ret
    exact⟨ret_bool HOK.out,HGV.out⟩
  | true =>
    have hlen:rx.length=ry.length:=by
     rw [eqH,Bool.not_eq_true'] at hh
     simp only [Bool.or_eq_false_iff] at hh
     have:=hh.2
     simp at this
     omega
    rw [hh,Bool.true_and] at HOK
    have HLE:=Lib.hid hlen
    have r4:V.cell? ⟨S,4,none⟩=some (.slice px rx.length cx):=HBS.out.cell 4
    clear hh hlen
    go_wp2
    clear r4
    go_loopg [5,44] rx.length (fun gg jv iv wr=>∃(j:Nat),iv=.int .i64 (j:Int)∧j≤rx.length∧gg=rx.length - j∧Hid (eqXs (rx.take j) (ry.take j)=true)∧Hid (Grew V wr))
    case atStart=>exact⟨0,rfl,Nat.zero_le _,rfl,Lib.hid (eqXs_nil _),Lib.hid (Grew.refl _)⟩
    case round =>
     obtain ⟨j,rfl,hj,rfl,HI,HGr⟩:=hrel
     have HG:=Lib.hid (HGV.out.trans HGr.out)
     by_cases hlt:j < rx.length
     ·have hlt2:j < ry.length:=by have:=HLE.out;omega
      have hta:=List.take_succ_eq_append_getElem hlt
      have htb:=List.take_succ_eq_append_getElem hlt2
      have hno:=fun h=>eqXs_no rx ry j hlt hlt2 h
      have hih:=ih _ (List.getElem_mem hlt)
      have HLT:=Lib.hid (Nat.succ_le_of_lt hlt)
      have HL2:=Lib.hid (And.intro hlt hlt2)
      obtain ⟨ba,oa,pa,ca,hpa,hba,haa,hca⟩:=HX.out.get j hlt
      generalize rx[j]'hlt=xa at hba haa hca hih hno hta
      obtain ⟨ka,sa,va,o_a,ra,qa⟩:=xa
      replace haa:XL A w pa ca ra:=haa
      replace hca:∀i_ u_,(xdc ⟨ka,sa,va,o_a,pa,ra.length,ca,qa⟩)[i_]?=some u_→w.cell? ⟨ba,oa+j * 6+i_,none⟩=some u_:=hca
      obtain ⟨bb,ob,pb,cb,hpb,hbb,hab,hcb⟩:=HY.out.get j hlt2
      generalize ry[j]'hlt2=xb at hbb hab hcb hih hno htb
      obtain ⟨kb,sb,vb,o_b,rb,qb⟩:=xb
      replace hab:XL B w pb cb rb:=hab
      replace hcb:∀i_ u_,(xdc ⟨kb,sb,vb,o_b,pb,rb.length,cb,qb⟩)[i_]?=some u_→w.cell? ⟨bb,ob+j * 6+i_,none⟩=some u_:=hcb
      obtain ⟨dd,hd⟩:∃d,eqX ⟨ka,sa,va,o_a,ra,qa⟩ ⟨kb,sb,vb,o_b,rb,qb⟩=d:=⟨_,rfl⟩
      have HD:=Lib.hid hd
      have HTA:=Lib.hid hta
      have HTB:=Lib.hid htb
      have HNO:=Lib.hid (fun(h:dd=false)=>(show b=false from HOK.out ▸ hno (hd.trans h)))
      have HIH:=Lib.hid (fun W (hW:Grew w W)=>(show Calls Tryz.prog 24 #[xv ka sa va o_a pa ra.length ca qa,xv kb sb vb o_b pb rb.length cb qb] W fun e w'=>e=.returned (.bool dd)∧Grew W w' from hd ▸ hih ⟨kb,sb,vb,o_b,rb,qb⟩ A B W pa pb ca cb (haa.kept hW) (hab.kept hW)))
      subst hpa
      subst hpb
      have hbS:=HBS.out.grew (HGr.out.trans (Grew.refl wr).drw)
      have hbU:=HBU.out.grew (HGr.out.trans (Grew.refl wr).drw)
      have d4:Atv ⟨S,4,none⟩ (.slice (some ⟨ba,oa,none⟩) rx.length cx) wr.drew:=hbS.atv 4 rfl
      have e4:Atv ⟨U,4,none⟩ (.slice (some ⟨bb,ob,none⟩) ry.length cy) wr.drew:=hbU.atv 4 rfl
      have f0:Atv ⟨ba,oa+j * 6,none⟩ (.int .i64 ka) wr.drew:=Atv.kept (hca 0 _ rfl) (HG.out.trans (Grew.refl wr).drw)
      have f1:Atv ⟨ba,oa+j * 6+1,none⟩ (.string sa) wr.drew:=Atv.kept (hca 1 _ rfl) (HG.out.trans (Grew.refl wr).drw)
      have f2:Atv ⟨ba,oa+j * 6+2,none⟩ (.int .i16 va) wr.drew:=Atv.kept (hca 2 _ rfl) (HG.out.trans (Grew.refl wr).drw)
      have f3:Atv ⟨ba,oa+j * 6+3,none⟩ (.int .i64 o_a) wr.drew:=Atv.kept (hca 3 _ rfl) (HG.out.trans (Grew.refl wr).drw)
      have f4:Atv ⟨ba,oa+j * 6+4,none⟩ (.slice pa ra.length ca) wr.drew:=Atv.kept (hca 4 _ rfl) (HG.out.trans (Grew.refl wr).drw)
      have f5:Atv ⟨ba,oa+j * 6+5,none⟩ (.int .i64 qa) wr.drew:=Atv.kept (hca 5 _ rfl) (HG.out.trans (Grew.refl wr).drw)
      have h0:Atv ⟨bb,ob+j * 6,none⟩ (.int .i64 kb) wr.drew:=Atv.kept (hcb 0 _ rfl) (HG.out.trans (Grew.refl wr).drw)
      have h1:Atv ⟨bb,ob+j * 6+1,none⟩ (.string sb) wr.drew:=Atv.kept (hcb 1 _ rfl) (HG.out.trans (Grew.refl wr).drw)
      have h2:Atv ⟨bb,ob+j * 6+2,none⟩ (.int .i16 vb) wr.drew:=Atv.kept (hcb 2 _ rfl) (HG.out.trans (Grew.refl wr).drw)
      have h3:Atv ⟨bb,ob+j * 6+3,none⟩ (.int .i64 o_b) wr.drew:=Atv.kept (hcb 3 _ rfl) (HG.out.trans (Grew.refl wr).drw)
      have h4:Atv ⟨bb,ob+j * 6+4,none⟩ (.slice pb rb.length cb) wr.drew:=Atv.kept (hcb 4 _ rfl) (HG.out.trans (Grew.refl wr).drw)
      have h5:Atv ⟨bb,ob+j * 6+5,none⟩ (.int .i64 qb) wr.drew:=Atv.kept (hcb 5 _ rfl) (HG.out.trans (Grew.refl wr).drw)
      clear hta htb hno hih hd haa hab hca hcb hba hbb hbS hbU hlt2
      go_upto_region 6 with fail
      have hlt2:j < ry.length:=HL2.out.2
      refine wp_posts [some 47,some 48,some 49,some 50,some 51,some 52,some 53,some 54,some 55,some 56,some 57,some 58] [Zf,Zf,Zf,Zf,Zf,Zf,Zf,Zf,Zf,Zf,Zf,Zf,Zf,Zf,Zf,Zf,Zf,Zf,Zf,Zf,Zf,Zf,Zf,Zf,Zf,Zf,Zf,Zf,Zf,Zf,Zf,Zf,Zf,Zf,Zf,Zf,Zf,Zf,Zf,Zf,Zf,Zf,Zf,Zf,Zf,Zf,Zf,Zt,Zt,Zt,Zt,Zt,Zt,Zt,Zt,Zt,Zt,Zt,Zt,Zf] [fun v _=>v=.pointer (some ⟨S,4,none⟩),fun v _=>v=.slice (some ⟨ba,oa,none⟩) (rx.length) (cx),fun v _=>v=.int .i64 (((j:Nat):Int)),fun v _=>v=.pointer (some ⟨ba,oa+j * 6,none⟩),fun v _=>v=.agg #[.int .i64 (ka),.string sa,.int .i16 (va),.int .i64 (o_a),.slice pa ra.length ca,.int .i64 (qa)],fun v _=>v=.pointer (some ⟨U,4,none⟩),fun v _=>v=.slice (some ⟨bb,ob,none⟩) (ry.length) (cy),fun v _=>v=.int .i64 (((j:Nat):Int)),fun v _=>v=.pointer (some ⟨bb,ob+j * 6,none⟩),fun v _=>v=.agg #[.int .i64 (kb),.string sb,.int .i16 (vb),.int .i64 (o_b),.slice pb rb.length cb,.int .i64 (qb)],fun v _=>v=.bool (dd),fun v _=>v=.bool (!(dd))] (by kernel_rfl) (by kernel_rfl) rfl ?_ ⟨?_,?_,?_,?_,?_,?_,?_,?_,?_,?_,?_,?_,trivial⟩ ?_
      ·exact⟨Zi,Zi,Zi,Zi,Zi,Zi,Zi,Zi,Zi,Zi,Zi,Zi,trivial⟩
      ·intro u w hR hd;exact rn_fld_35_4 (ev rfl) Zr
      ·intro u w hR hd;exact rn_ld_33 (ev (hd.1 rfl)) (d4.kept hR) Zr
      ·intro u w hR hd;exact runs_mv (ev rfl) Zr
      ·intro u w hR hd;exact rn_idx_33 (j) (ev (hd.1 rfl)) (ev (hd.2.1 rfl)) (by omega) Zr
      ·intro u w hR hd;exact rn_ld_35 (ev (hd.1 rfl)) (f0.kept hR) (f1.kept hR) (f2.kept hR) (f3.kept hR) (f4.kept hR) (f5.kept hR) Zr
      ·intro u w hR hd;exact rn_fld_35_4 (ev rfl) Zr
      ·intro u w hR hd;exact rn_ld_33 (ev (hd.1 rfl)) (e4.kept hR) Zr
      ·intro u w hR hd;exact runs_mv (ev rfl) Zr
      ·intro u w hR hd;exact rn_idx_33 (j) (ev (hd.1 rfl)) (ev (hd.2.1 rfl)) (by omega) Zr
      ·intro u w hR hd;exact rn_ld_35 (ev (hd.1 rfl)) (h0.kept hR) (h1.kept hR) (h2.kept hR) (h3.kept hR) (h4.kept hR) (h5.kept hR) Zr
      ·intro u w hR hd;exact runs_c2 enters_eq (ev (hd.1 rfl)) (ev (hd.2.1 rfl)) (callp (fun _ e=>e) (HIH.out _ (HG.out.trans ((Grew.refl _).drw.trans hR))))
      ·intro u w hR hd;exact runs_nt (ev (hd.1 rfl)) Zr
      ·intro u w4 hR hh
       have he:u 58=.bool (!(dd)):=hh 11 (by decide)
       simp only [mixA,mixL,zz9,zz0,he]
       have HG4:Hid (Grew V w4):=Lib.hid (HGr.out.trans ((Grew.refl wr).drw.trans hR))
       clear hh he hR d4 e4 f0 f1 f2 f3 f4 f5 h0 h1 h2 h3 h4 h5
       cases dd with
       | false =>
         have HN2:=Lib.hid (HNO.out rfl)
         clear HNO
         go_wp2
         go_ret
         exact⟨ret_bool HN2.out.symm,HGV.out.trans HG4.out⟩
       | true =>
         clear HNO
         go_wp2
         go_roundg (rx.length - (j+1))
         case measure=>have:=HLT.out;omega
         case rel=>exact⟨j+1,by go_num,HLT.out,rfl,Lib.hid (by rw [HTA.out,HTB.out,eqXs_snoc _ _ _ _ (by rw [List.length_take,List.length_take,HLE.out]),HI.out,HD.out];rfl),HG4⟩
     ·obtain rfl:j=rx.length:=by omega
      rw [List.take_length,HLE.out,List.take_length] at HI
      go_wp2
      go_ret
      exact⟨ret_bool (HI.out.symm.trans HOK.out),HG.out⟩
end Go.Proofs.YtcknpcbkofgdoaaGreatDoor
namespace Go.Proofs.YtcknpcbkofgdoaaGreatDoor
open Go Go.RowKit Go.IntWalk
set_option linter.unusedSimpArgs false
set_option linter.unusedVariables false
set_option maxRecDepth 8000
section
variable {dst:Option Tmp}{ty:TypeId}{pos:String}{after:Array Edge}{g:Option (Nat × Bool)}{a:Act}{w:World}{T:Value→World→Prop}
end
theorem strip_own {wr w2:World}{S:Nat}{p1:Option Addr}{n1 c1:Nat}{l:List Xp}{o:Obj}{o2:Obj}(h:OwN XsAt 6 xdc (S+2) (Aside (S+2) wr.heap.size p1) wr 35 p1 n1 c1 l) (g:Grew (wr.alloc o) w2):OwN XsAt 6 xdc (S+2) (Aside (S+2) w2.heap.size p1) (w2.alloc o2) 35 p1 n1 c1 l:=by
 have h1:=(((Grew.refl wr).alloc o).trans g)
 exact(h.kept hangsX (h1.alloc o2)).mono hangsX fun b hb=>⟨hb.1,Nat.lt_of_lt_of_le hb.2.1 h1.sz,hb.2.2⟩
theorem strip_at {wr w2:World}{S:Nat}{p1 p2:Option Addr}{n1 c1 c2:Nat}{l ra:List Xp}{o:Obj}{k v oo q:Int}{s:ByteArray}(h:OwN XsAt 6 xdc (S+2) (Aside (S+2) wr.heap.size p1) wr 35 p1 n1 c1 l) (hS:S+2≤wr.heap.size) (hx:XL (Fresh (wr.alloc o).heap.size w2.heap.size) w2 p2 c2 (stXs ra)) (hz:s.size≤1048576∧v≤32767):XsAt (Aside (S+2) w2.heap.size p1) w2 [stX ⟨k,s,v,oo,ra,q⟩] [⟨k,s,v,oo,p2,ra.length,c2,0⟩]:=by
 have h1:=xat1 (k:=k) (v:=v) (o:=oo) (q:=0) (s:=s) (ar:=stXs ra) hz (hx.mono (B':=Aside (S+2) w2.heap.size p1) fun b hb=>⟨by have:=hb.1;rw [alloc_sz] at this;omega,hb.2,h.offTop hangsX (by have:=hb.1;rw [alloc_sz] at this;omega)⟩)
 rw [stXs_len] at h1
 rw [stX]
 exact h1
theorem strip_done {w wr:World}{S:Nat}{p1:Option Addr}{n1 c1:Nat}{l:List Xp}(h:OwN XsAt 6 xdc (S+2) (Aside (S+2) wr.heap.size p1) wr 35 p1 n1 c1 l) (hS:w.heap.size=S) (hg:Grew w wr):∀w',Chg wr w' (fun k=>k=S∨k=S+1)→XL (Fresh w.heap.size w'.heap.size) w' p1 c1 l∧Grew w w':=by
 intro w' hc
 have h2:=h.chg hangsX hc (fun a ha e=>by have:=(h.place hangsX a ha).1;omega) (fun b hb e=>by have:=hb.1;omega)
 have hsz:=hc.size
 refine⟨⟨fun _ a ha=>?_,?_⟩,grew_lift hg hc fun k hk=>by omega⟩
 ·have:=h.place hangsX a ha
  exact⟨by omega,by omega⟩
 ·obtain ⟨_,L,h3,h4⟩:=h2.mono hangsX (B':=Fresh w.heap.size w'.heap.size) fun b hb=>⟨by have:=hb.1;omega,Nat.lt_of_lt_of_le hb.2.1 hsz⟩
  exact⟨L,(h3.rd encXd).2,h4⟩
set_option maxHeartbeats 16000000 in
theorem strip_any:∀(x:Xp) (B:Nat→Prop) (w:World) (p:Option Addr) (c:Nat),(x.s.size≤1048576∧x.v≤32767)→XL B w p c x.ar→nX x≤1048576 →
 Calls Tryz.prog 132 #[xv x.k x.s x.v x.o p x.ar.length c x.q] w fun e w'=>∃p' c',e=.returned (xv x.k x.s x.v x.o p' x.ar.length c' 0)∧XL (Fresh w.heap.size w'.heap.size) w' p' c' (stXs x.ar)∧Grew w w':=by
 intro x
 induction x using Xp.ind with
 | h k s v o ar q ih =>
 intro B w p c hz hx hn
 have HX:Hid (XL B w p c ar):=Lib.hid hx
 have hcap:ar.length≤c:=hx.cap.1
 have hmax:=hx.cap.2.1
 show Calls Tryz.prog 132 #[xv k s v o p ar.length c q] w fun e w'=>∃p' c',e=.returned (xv k s v o p' ar.length c' 0)∧XL (Fresh w.heap.size w'.heap.size) w' p' c' (stXs ar)∧Grew w w'
 rw [nX] at hn
 have hnl:=nXs_len ar
 clear hx hz
 go_enter Tryz.func132,Tryz.ntmps132
 go_wp2
 have hb1:Blk w.heap.size [.int .i64 k,.string s,.int .i16 v,.int .i64 o,.slice p ar.length c,.int .i64 0] 35 ((w.alloc (Obj.cells #[.int .i64 k,.string s,.int .i16 v,.int .i64 o,.slice p ar.length c,.int .i64 0] 35)).alloc (Obj.cells #[.int .i64 0,.string ⟨#[]⟩,.int .i16 0,.int .i64 0,.slice none 0 0,.int .i64 0] 35)):=(Blk.new w _ _).grew ((Grew.refl _).alloc _)
 have hb2:Blk (w.heap.size+1) [.int .i64 0,.string ⟨#[]⟩,.int .i16 0,.int .i64 0,.slice none 0 0,.int .i64 0] 35 ((w.alloc (Obj.cells #[.int .i64 k,.string s,.int .i16 v,.int .i64 o,.slice p ar.length c,.int .i64 0] 35)).alloc (Obj.cells #[.int .i64 0,.string ⟨#[]⟩,.int .i16 0,.int .i64 0,.slice none 0 0,.int .i64 0] 35)):=by
  have h:=Blk.new (w.alloc (Obj.cells #[.int .i64 k,.string s,.int .i16 v,.int .i64 o,.slice p ar.length c,.int .i64 0] 35)) [.int .i64 0,.string ⟨#[]⟩,.int .i16 0,.int .i64 0,.slice none 0 0,.int .i64 0] 35
  rw [alloc_sz] at h
  exact h
 have hg1:Grew w ((w.alloc (Obj.cells #[.int .i64 k,.string s,.int .i16 v,.int .i64 o,.slice p ar.length c,.int .i64 0] 35)).alloc (Obj.cells #[.int .i64 0,.string ⟨#[]⟩,.int .i16 0,.int .i64 0,.slice none 0 0,.int .i64 0] 35)):=((Grew.refl w).alloc _).alloc _
 have hs1:((w.alloc (Obj.cells #[.int .i64 k,.string s,.int .i16 v,.int .i64 o,.slice p ar.length c,.int .i64 0] 35)).alloc (Obj.cells #[.int .i64 0,.string ⟨#[]⟩,.int .i16 0,.int .i64 0,.slice none 0 0,.int .i64 0] 35)).heap.size=w.heap.size+2:=by rw [alloc_sz,alloc_sz]
 obtain ⟨S,hS⟩:∃S,w.heap.size=S:=⟨_,rfl⟩
 have HS0:=Lib.hid hS
 rw [hS] at hb1 hb2 hs1 ⊢
 clear hS
 generalize ((w.alloc (Obj.cells #[.int .i64 k,.string s,.int .i16 v,.int .i64 o,.slice p ar.length c,.int .i64 0] 35)).alloc (Obj.cells #[.int .i64 0,.string ⟨#[]⟩,.int .i16 0,.int .i64 0,.slice none 0 0,.int .i64 0] 35))=w1 at hb1 hb2 hg1 hs1 ⊢
 have HB1:=Lib.hid hb1
 have HB2:=Lib.hid hb2
 have HG1:=Lib.hid hg1
 have HW1:=Lib.hid hs1
 clear hb1 hb2 hg1 hs1
 go_loopg [3,5,10] ar.length (fun gg lv bv iv wr=>∃(j:Nat) (p1:Option Addr) (n1 c1:Nat),lv=.slice p1 n1 c1∧iv=.int .i64 (j:Int)∧j≤ar.length∧gg=ar.length - j∧Hid (OwN XsAt 6 xdc (S+2) (Aside (S+2) wr.heap.size p1) wr 35 p1 n1 c1 (stXs (ar.take j)))∧Hid (Grew w1 wr))
 case atStart=>exact⟨0,none,0,0,rfl,rfl,Nat.zero_le _,rfl,Lib.hid (by rw [List.take_zero,stXs];exact OwN.nil hangsX),Lib.hid (Grew.refl _)⟩
 case round =>
  obtain ⟨j,p1,n1,c1,rfl,rfl,hj,rfl,HR,HGr⟩:=hrel
  have HG:=Lib.hid (HG1.out.trans HGr.out)
  by_cases hlt:j < ar.length
  ·have HN1:Hid (n1≤1048576):=Lib.hid (by have h1:=HR.out.len;rw [stXs_len,List.length_take] at h1;omega)
   obtain ⟨ba,oa,pa,ca,rfl,hba,haa,hca⟩:=HX.out.get j hlt
   have hma:=List.getElem_mem hlt
   have hna:=nXs_mem hma
   have hta:=List.take_succ_eq_append_getElem hlt
   have HLa:=Lib.hid (Nat.succ_le_of_lt hlt)
   have hih:=ih _ hma B
   generalize ar[j]=xa at *
   obtain ⟨ka,sa,va,o_a,ra,qa⟩:=xa
   replace hba:sa.size≤1048576∧va≤32767:=hba.2
   have HTa:=Lib.hid hta
   have HAa:Hid (XL B w pa ca ra):=Lib.hid haa
   have hcapa:ra.length≤ca:=haa.cap.1
   have hmaxa:=haa.cap.2.1
   replace hca:∀i_ u_,(xdc ⟨ka,sa,va,o_a,pa,ra.length,ca,qa⟩)[i_]?=some u_→wr.cell? ⟨ba,oa+j * 6+i_,none⟩=some u_:=fun i_ u_ h_=>Atv.kept (hca i_ u_ h_) HG.out
   have ca0:wr.cell? ⟨ba,oa+j * 6,none⟩=some (.int .i64 ka):=by simpa using hca 0 _ rfl
   have ca1:wr.cell? ⟨ba,oa+j * 6+1,none⟩=some (.string sa):=hca 1 _ rfl
   have ca2:wr.cell? ⟨ba,oa+j * 6+2,none⟩=some (.int .i16 va):=hca 2 _ rfl
   have ca3:wr.cell? ⟨ba,oa+j * 6+3,none⟩=some (.int .i64 o_a):=hca 3 _ rfl
   have ca4:wr.cell? ⟨ba,oa+j * 6+4,none⟩=some (.slice pa ra.length ca):=hca 4 _ rfl
   have ca5:wr.cell? ⟨ba,oa+j * 6+5,none⟩=some (.int .i64 qa):=hca 5 _ rfl
   clear hca haa hta
   have HIH:=Lib.hid (fun W (hW:Grew w W)=>(show Calls Tryz.prog 132 #[xv ka sa va o_a pa ra.length ca qa] W fun e w'=>∃p' c',e=.returned (xv ka sa va o_a p' ra.length c' 0)∧XL (Fresh W.heap.size w'.heap.size) w' p' c' (stXs ra)∧Grew W w' from hih W pa ca hba (HAa.out.kept hW) (by omega)))
   clear hih hma hna
   go_wp2_with (first
    | (go_at_call 132;(with_reducible refine(HIH.out _ (HG.out.alloc _)).mono ?_);rintro e_ w2 ⟨p2,c2,rfl,hx2,g2⟩;have HX2:=Lib.hid hx2;have HQ2:=Lib.hid g2;clear hx2 g2)
    | (at_builtin;refine wpList_append_own hangsX rfl _ _ 33 rfl (S+2) 35 zX 72 Tryz.underlying33 infoX rfl p1 n1 c1 (stXs (ar.take j)) rfl (B:=Aside (S+2) w2.heap.size p1) (strip_own HR.out HQ2.out) _ 1 1 [stX ⟨ka,sa,va,o_a,ra,qa⟩] rfl (InN.made hangsX _ _ _ _ _ _ _ (strip_at HR.out (by have h2:=HGr.out.sz;have h3:=HW1.out;omega) HX2.out hba) rfl rfl) (fun b hb=>hb.2.2) (by have:=HN1.out;omega) (by have:=HN1.out;omega) (by have h1:=HQ2.out.sz;have h2:=HGr.out.sz;have h3:=HW1.out;rw [alloc_sz] at h1 ⊢;omega) ?_;intro p3 c3 w3 ho3 hp3;have HO3:=Lib.hid ho3;have HP3:=Lib.hid hp3;clear ho3 hp3))
   have HG3:Hid (Grew w1 w3):=Lib.hid (Below.trans (((HGr.out.alloc _).trans HQ2.out).alloc _) (HW1.out ▸ HP3.out.below))
   go_roundg (ar.length - (j+1))
   case measure=>have:=HLa.out;omega
   case rel=>exact⟨j+1,p3,n1+1,c3,rfl,by go_num,HLa.out,rfl,Lib.hid (by
    rw [stXs_snoc HTa.out]
    refine HO3.out.mono hangsX fun b hb=>?_
    have h1:b < (w2.alloc (Obj.cells #[.int .i64 ka,.string sa,.int .i16 va,.int .i64 o_a,.slice p2 ra.length c2,.int .i64 0] 35)).heap.size:=by rw [alloc_sz];have:=hb.2.1;omega
    exact⟨hb.1,Nat.lt_of_lt_of_le h1 HP3.out.below.size,HP3.out.off h1 hb.2.2⟩),HG3⟩
  ·obtain rfl:j=ar.length:=by omega
   rw [List.take_length] at HR
   have hn1:n1=ar.length:=by have h1:=HR.out.len;rwa [stXs_len] at h1
   subst hn1
   have hbx:=HB1.out.grew HGr.out
   have hby:=HB2.out.grew HGr.out
   have r0:=hbx.cell 0
   have t0:=hby.cell 0
   have rf0:=hbx.free 0
   have tf0:=hby.free 0
   have r1:=hbx.cell 1
   have t1:=hby.cell 1
   have rf1:=hbx.free 1
   have tf1:=hby.free 1
   have r2:=hbx.cell 2
   have t2:=hby.cell 2
   have rf2:=hbx.free 2
   have tf2:=hby.free 2
   have r3:=hbx.cell 3
   have t3:=hby.cell 3
   have rf3:=hbx.free 3
   have tf3:=hby.free 3
   have r4:=hbx.cell 4
   have t4:=hby.cell 4
   have rf4:=hbx.free 4
   have tf4:=hby.free 4
   have r5:=hbx.cell 5
   have t5:=hby.cell 5
   have rf5:=hbx.free 5
   have tf5:=hby.free 5
   simp only [zz7,zz8] at r0 r1 r2 r3 r4 r5 t0 t1 t2 t3 t4 t5
   have HRR:=Lib.hid (strip_done (w:=w) HR.out HS0.out HG.out)
   have hsz1:=HR.out.inN hangsX
   have hcp:=hsz1.cap hangsX
   clear hsz1 HR hbx hby
   go_wp2
   refine rn_ret_c35 Tryz.results132 (S0:=S+1) (v0_0:=.int .i64 k) (v0_1:=.string s) (v0_2:=.int .i16 v) (v0_3:=.int .i64 o) (v0_4:=.slice p1 ar.length c1) (v0_5:=.int .i64 0) rfl (by go_simp) (by go_simp) (by go_simp) (by go_simp) (by go_simp) (by go_simp) ?_
   have g0:=Chg.refl wr (fun k=>k=S∨k=S+1)
   have g1:=g0.then_set ⟨S,4,none⟩ (.slice p1 ar.length c1) (.inl rfl)
   have g2:=g1.then_set ⟨S+1,0,none⟩ (.int .i64 k) (.inr rfl)
   have g3:=g2.then_set ⟨S+1,1,none⟩ (.string s) (.inr rfl)
   have g4:=g3.then_set ⟨S+1,2,none⟩ (.int .i16 v) (.inr rfl)
   have g5:=g4.then_set ⟨S+1,3,none⟩ (.int .i64 o) (.inr rfl)
   have g6:=g5.then_set ⟨S+1,4,none⟩ (.slice p1 ar.length c1) (.inr rfl)
   have g7:=g6.then_set ⟨S+1,5,none⟩ (.int .i64 0) (.inr rfl)
   obtain ⟨h5,h6⟩:=HRR.out _ g7
   exact⟨p1,c1,rfl,h5,h6⟩
end Go.Proofs.YtcknpcbkofgdoaaGreatDoor
namespace Go.Proofs.YtcknpcbkofgdoaaGreatDoor
open Go Go.RowKit Go.IntWalk
set_option linter.unusedSimpArgs false
set_option linter.unusedVariables false
set_option maxRecDepth 8000
section
variable {dst:Option Tmp}{ty:TypeId}{pos:String}{after:Array Edge}{g:Option (Nat × Bool)}{a:Act}{w:World}{T:Value→World→Prop}
theorem rn_fld_49_0 {x:Operand}{S o:Nat}(hx:a.eval x=.pointer (some ⟨S,o,none⟩)) (h:T (.pointer (some ⟨S,o,none⟩)) w):Runs Tryz.prog ⟨dst,.fieldAddr 49 x 0,ty,pos,after,g⟩ a w T:=by
 refine Runs.value (v:=.pointer (some ⟨S,o,none⟩)) (w':=w) ?_ h
 simp only [execOp,hx]
 go_simp
end
theorem enters_qs:Enters Tryz.prog 30:=fun args w=>by go_simp
set_option maxHeartbeats 16000000 in
theorem eqs_any:∀(n:Nat) (l m:List Sm),nSs l < n→∀(A B:Nat→Prop) (w:World) (p p':Option Addr) (c c':Nat),SL A w p c l→SL B w p' c' m →
 Calls Tryz.prog 30 #[.slice p l.length c,.slice p' m.length c'] w fun e w'=>e=.returned (.bool (eqSs l m))∧Grew w w':=by
 intro n
 induction n with
 | zero=>intro _ _ h;exact absurd h (Nat.not_lt_zero _)
 | succ n ih =>
 intro l m hln A B w p p' c c' hx hy
 have HX:=Lib.hid hx
 have HY:=Lib.hid hy
 have hcap:l.length≤c∧m.length≤c':=⟨hx.cap.1,hy.cap.1⟩
 have hmax:=And.intro hx.cap.2.1 hy.cap.2.1
 obtain ⟨b,hb⟩:∃b,eqSs l m=b:=⟨_,rfl⟩
 rw [hb]
 rw [eqSs] at hb
 clear hx hy
 by_cases hlen:l.length=m.length
 ·rw [decide_eq_true hlen,Bool.true_and] at hb
  have HOK:=Lib.hid hb
  have HLE:=Lib.hid hlen
  have hne:((l.length:Int) != (m.length:Int))=false:=by rw [hlen];simp
  clear hb hlen
  go_enter Tryz.func30,Tryz.ntmps30
  go_wp2
  go_loopg [5,6,7,8,16] l.length (fun gg v5 v6 v7 v8 iv wr=>∃(j:Nat),iv=.int .i64 (j:Int)∧j≤l.length∧gg=l.length - j∧Hid (eqSz (l.take j) (m.take j)=true)∧Hid (Grew w wr))
  case atStart=>exact⟨0,rfl,Nat.zero_le _,rfl,Lib.hid (eqSz_nil _),Lib.hid (Grew.refl _)⟩
  case round =>
   obtain ⟨j,rfl,hj,rfl,HI,HG⟩:=hrel
   by_cases hlt:j < l.length
   ·have hlt2:j < m.length:=by have:=HLE.out;omega
    have hta:=List.take_succ_eq_append_getElem hlt
    have htb:=List.take_succ_eq_append_getElem hlt2
    have hno:=fun h=>eqSz_no l m j hlt hlt2 h
    have hma:=List.getElem_mem hlt
    have hmb:=List.getElem_mem hlt2
    have hna:=nSs_mem hma
    have hnb:=nSs_mem hmb
    have HLT:=Lib.hid (Nat.succ_le_of_lt hlt)
    have HL2:=Lib.hid (And.intro hlt hlt2)
    obtain ⟨ba,oa,paa,caa,pba,cba,pea,cea,hpa,hba,haa,hboa,hela,hca⟩:=HX.out.get j hlt
    generalize l[j]'hlt=xa at hba haa hboa hela hca hno hta hma hna
    obtain ⟨ka,sa,na,ra,ya,ea,qa⟩:=xa
    replace haa:XL A w paa caa ra:=haa
    replace hboa:SL A w pba cba ya:=hboa
    replace hela:SL A w pea cea ea:=hela
    have hcapa:ra.length≤caa∧ya.length≤cba∧ea.length≤cea:=⟨haa.cap.1,hboa.cap.1,hela.cap.1⟩
    have hmaxa:=And.intro haa.cap.2.1 (And.intro hboa.cap.2.1 hela.cap.2.1)
    replace hca:∀i_ u_,(sdc ⟨ka,sa,na,paa,ra.length,caa,pba,ya.length,cba,pea,ea.length,cea,qa⟩)[i_]?=some u_→(wr).cell? ⟨ba,oa+j * 7+i_,none⟩=some u_:=fun i_ u_ h_=>Atv.kept (hca i_ u_ h_) (HG.out)
    have ca0:(wr).cell? ⟨ba,oa+j * 7,none⟩=some (.int .i64 ka):=by simpa using hca 0 _ rfl
    have ca1:(wr).cell? ⟨ba,oa+j * 7+1,none⟩=some (.string sa):=hca 1 _ rfl
    have ca2:(wr).cell? ⟨ba,oa+j * 7+2,none⟩=some (.int .i64 na):=hca 2 _ rfl
    have ca3:(wr).cell? ⟨ba,oa+j * 7+3,none⟩=some (.slice paa ra.length caa):=hca 3 _ rfl
    have ca4:(wr).cell? ⟨ba,oa+j * 7+4,none⟩=some (.slice pba ya.length cba):=hca 4 _ rfl
    have ca5:(wr).cell? ⟨ba,oa+j * 7+5,none⟩=some (.slice pea ea.length cea):=hca 5 _ rfl
    have ca6:(wr).cell? ⟨ba,oa+j * 7+6,none⟩=some (.int .i64 qa):=hca 6 _ rfl
    obtain ⟨bb,ob,pab,cab,pbb,cbb,peb,ceb,hpb,hbb,hab,hbob,helb,hcb⟩:=HY.out.get j hlt2
    generalize m[j]'hlt2=xb at hbb hab hbob helb hcb hno htb hmb hnb
    obtain ⟨kb,sb,nb,rb,yb,eb,qb⟩:=xb
    replace hab:XL B w pab cab rb:=hab
    replace hbob:SL B w pbb cbb yb:=hbob
    replace helb:SL B w peb ceb eb:=helb
    have hcapb:rb.length≤cab∧yb.length≤cbb∧eb.length≤ceb:=⟨hab.cap.1,hbob.cap.1,helb.cap.1⟩
    have hmaxb:=And.intro hab.cap.2.1 (And.intro hbob.cap.2.1 helb.cap.2.1)
    replace hcb:∀i_ u_,(sdc ⟨kb,sb,nb,pab,rb.length,cab,pbb,yb.length,cbb,peb,eb.length,ceb,qb⟩)[i_]?=some u_→(wr.alloc (Obj.cells #[.int .i64 ka,.string sa,.int .i64 na,.slice paa ra.length caa,.slice pba ya.length cba,.slice pea ea.length cea,.int .i64 qa] 49)).cell? ⟨bb,ob+j * 7+i_,none⟩=some u_:=fun i_ u_ h_=>Atv.kept (hcb i_ u_ h_) (HG.out.alloc _)
    have cb0:(wr.alloc (Obj.cells #[.int .i64 ka,.string sa,.int .i64 na,.slice paa ra.length caa,.slice pba ya.length cba,.slice pea ea.length cea,.int .i64 qa] 49)).cell? ⟨bb,ob+j * 7,none⟩=some (.int .i64 kb):=by simpa using hcb 0 _ rfl
    have cb1:(wr.alloc (Obj.cells #[.int .i64 ka,.string sa,.int .i64 na,.slice paa ra.length caa,.slice pba ya.length cba,.slice pea ea.length cea,.int .i64 qa] 49)).cell? ⟨bb,ob+j * 7+1,none⟩=some (.string sb):=hcb 1 _ rfl
    have cb2:(wr.alloc (Obj.cells #[.int .i64 ka,.string sa,.int .i64 na,.slice paa ra.length caa,.slice pba ya.length cba,.slice pea ea.length cea,.int .i64 qa] 49)).cell? ⟨bb,ob+j * 7+2,none⟩=some (.int .i64 nb):=hcb 2 _ rfl
    have cb3:(wr.alloc (Obj.cells #[.int .i64 ka,.string sa,.int .i64 na,.slice paa ra.length caa,.slice pba ya.length cba,.slice pea ea.length cea,.int .i64 qa] 49)).cell? ⟨bb,ob+j * 7+3,none⟩=some (.slice pab rb.length cab):=hcb 3 _ rfl
    have cb4:(wr.alloc (Obj.cells #[.int .i64 ka,.string sa,.int .i64 na,.slice paa ra.length caa,.slice pba ya.length cba,.slice pea ea.length cea,.int .i64 qa] 49)).cell? ⟨bb,ob+j * 7+4,none⟩=some (.slice pbb yb.length cbb):=hcb 4 _ rfl
    have cb5:(wr.alloc (Obj.cells #[.int .i64 ka,.string sa,.int .i64 na,.slice paa ra.length caa,.slice pba ya.length cba,.slice pea ea.length cea,.int .i64 qa] 49)).cell? ⟨bb,ob+j * 7+5,none⟩=some (.slice peb eb.length ceb):=hcb 5 _ rfl
    have cb6:(wr.alloc (Obj.cells #[.int .i64 ka,.string sa,.int .i64 na,.slice paa ra.length caa,.slice pba ya.length cba,.slice pea ea.length cea,.int .i64 qa] 49)).cell? ⟨bb,ob+j * 7+6,none⟩=some (.int .i64 qb):=hcb 6 _ rfl
    have hns:nS ⟨ka,sa,na,ra,ya,ea,qa⟩=nSs ya+nSs ea+1:=rfl
    obtain ⟨m1,hm1⟩:∃t,eqSs ya yb=t:=⟨_,rfl⟩
    obtain ⟨m2,hm2⟩:∃t,eqSs ea eb=t:=⟨_,rfl⟩
    have hq:=eqS_eq ka na qa kb nb qb sa sb ra rb ya ea yb eb
    rw [hm1,hm2] at hq
    have HIY:=Lib.hid (fun W (hW:Grew w W)=>(show Calls Tryz.prog 30 #[.slice pba ya.length cba,.slice pbb yb.length cbb] W fun e w'=>e=.returned (.bool m1)∧Grew W w' from hm1 ▸ ih ya yb (by omega) A B W pba pbb cba cbb (hboa.kept hW) (hbob.kept hW)))
    have HIE:=Lib.hid (fun W (hW:Grew w W)=>(show Calls Tryz.prog 30 #[.slice pea ea.length cea,.slice peb eb.length ceb] W fun e w'=>e=.returned (.bool m2)∧Grew W w' from hm2 ▸ ih ea eb (by omega) A B W pea peb cea ceb (hela.kept hW) (helb.kept hW)))
    have HNO:=Lib.hid (fun(h:(eqHS ka sa na ra.length kb sb nb rb.length m1 m2&&eqXs ra rb)=false)=>(show b=false from HOK.out ▸ hno (hq.trans h)))
    have HQ:=Lib.hid hq
    have HTA:=Lib.hid hta
    have HTB:=Lib.hid htb
    have HAA:=Lib.hid haa
    have HAB:=Lib.hid hab
    subst hpa
    subst hpb
    clear hta htb hno hma hmb hna hnb hns hm1 hm2 hq haa hab hboa hela hbob helb hca hcb hba hbb
    go_upto_region 7 with fail
    clear ca0 ca1 ca2 ca3 ca4 ca5 ca6 cb0 cb1 cb2 cb3 cb4 cb5 cb6
    have hb1:Blk wr.heap.size [.int .i64 ka,.string sa,.int .i64 na,.slice paa ra.length caa,.slice pba ya.length cba,.slice pea ea.length cea,.int .i64 qa] 49 (wr.alloc (Obj.cells #[.int .i64 ka,.string sa,.int .i64 na,.slice paa ra.length caa,.slice pba ya.length cba,.slice pea ea.length cea,.int .i64 qa] 49)):=Blk.new wr _ _
    have hb2:Blk (wr.heap.size+1) [.int .i64 kb,.string sb,.int .i64 nb,.slice pab rb.length cab,.slice pbb yb.length cbb,.slice peb eb.length ceb,.int .i64 qb] 49 ((wr.alloc (Obj.cells #[.int .i64 ka,.string sa,.int .i64 na,.slice paa ra.length caa,.slice pba ya.length cba,.slice pea ea.length cea,.int .i64 qa] 49)).alloc (Obj.cells #[.int .i64 kb,.string sb,.int .i64 nb,.slice pab rb.length cab,.slice pbb yb.length cbb,.slice peb eb.length ceb,.int .i64 qb] 49)):=by
     have h:=Blk.new (wr.alloc (Obj.cells #[.int .i64 ka,.string sa,.int .i64 na,.slice paa ra.length caa,.slice pba ya.length cba,.slice pea ea.length cea,.int .i64 qa] 49)) [.int .i64 kb,.string sb,.int .i64 nb,.slice pab rb.length cab,.slice pbb yb.length cbb,.slice peb eb.length ceb,.int .i64 qb] 49
     rw [alloc_sz] at h
     exact h
    have hb3:=hb1.grew ((Grew.refl _).alloc (Obj.cells #[.int .i64 kb,.string sb,.int .i64 nb,.slice pab rb.length cab,.slice pbb yb.length cbb,.slice peb eb.length ceb,.int .i64 qb] 49))
    have hgV:Grew w ((wr.alloc (Obj.cells #[.int .i64 ka,.string sa,.int .i64 na,.slice paa ra.length caa,.slice pba ya.length cba,.slice pea ea.length cea,.int .i64 qa] 49)).alloc (Obj.cells #[.int .i64 kb,.string sb,.int .i64 nb,.slice pab rb.length cab,.slice pbb yb.length cbb,.slice peb eb.length ceb,.int .i64 qb] 49)):=((HG.out).alloc _).alloc _
    generalize ((wr.alloc (Obj.cells #[.int .i64 ka,.string sa,.int .i64 na,.slice paa ra.length caa,.slice pba ya.length cba,.slice pea ea.length cea,.int .i64 qa] 49)).alloc (Obj.cells #[.int .i64 kb,.string sb,.int .i64 nb,.slice pab rb.length cab,.slice pbb yb.length cbb,.slice peb eb.length ceb,.int .i64 qb] 49))=V at hb2 hb3 hgV ⊢
    clear hb1
    generalize wr.heap.size+1=U at hb2 ⊢
    generalize wr.heap.size=S at hb3 ⊢
    have HBS:=Lib.hid hb3
    have HBU:=Lib.hid hb2
    have HGV:=Lib.hid hgV
    clear hgV
    have d0:Atv ⟨S,0,none⟩ (.int .i64 ka) V:=hb3.atv 0 rfl
    have d1:Atv ⟨S,1,none⟩ (.string sa) V:=hb3.atv 1 rfl
    have d2:Atv ⟨S,2,none⟩ (.int .i64 na) V:=hb3.atv 2 rfl
    have d3:Atv ⟨S,3,none⟩ (.slice paa ra.length caa) V:=hb3.atv 3 rfl
    have d4:Atv ⟨S,4,none⟩ (.slice pba ya.length cba) V:=hb3.atv 4 rfl
    have d5:Atv ⟨S,5,none⟩ (.slice pea ea.length cea) V:=hb3.atv 5 rfl
    have e0:Atv ⟨U,0,none⟩ (.int .i64 kb) V:=hb2.atv 0 rfl
    have e1:Atv ⟨U,1,none⟩ (.string sb) V:=hb2.atv 1 rfl
    have e2:Atv ⟨U,2,none⟩ (.int .i64 nb) V:=hb2.atv 2 rfl
    have e3:Atv ⟨U,3,none⟩ (.slice pab rb.length cab) V:=hb2.atv 3 rfl
    have e4:Atv ⟨U,4,none⟩ (.slice pbb yb.length cbb) V:=hb2.atv 4 rfl
    have e5:Atv ⟨U,5,none⟩ (.slice peb eb.length ceb) V:=hb2.atv 5 rfl
    clear hb2 hb3
    refine wp_postsL [some 25,some 26,some 27,some 28,some 29,some 30,some 31,some 32,some 33,some 34,some 35,some 36,some 37,some 38,some 39,some 40,some 41,some 42,some 43,some 44,some 45,some 46,some 47,some 48,some 49,some 50,some 51,some 52,some 53,some 54,some 55,some 56,some 57,some 58,some 59,some 60,some 61,some 62,some 63,some 64,some 65,some 66,some 67,some 68] [Zf,Zf,Zf,Zf,Zf,Zf,Zf,Zf,Zf,Zf,Zf,Zf,Zf,Zf,Zf,Zf,Zf,Zf,Zf,Zf,Zf,Zf,Zf,Zf,Zf,Zt,Zt,Zt,Zt,Zt,Zt,Zt,Zt,Zt,Zt,Zt,Zt,Zt,Zt,Zt,Zt,Zt,Zt,Zt,Zt,Zt,Zt,Zt,Zt,Zt,Zt,Zt,Zt,Zt,Zt,Zt,Zt,Zt,Zt,Zt,Zt,Zt,Zt,Zt,Zt,Zt,Zt,Zt,Zt,Zf,Zf,Zf,Zf,Zf,Zf,Zf,Zf,Zf,Zf,Zf,Zf,Zf,Zf,Zf,Zf,Zf,Zf,Zf,Zf] [fun v _=>v=.pointer (some ⟨S,0,none⟩),fun v _=>v=.int .i64 (ka),fun v _=>v=.pointer (some ⟨U,0,none⟩),fun v _=>v=.int .i64 (kb),fun v _=>v=.bool ((ka) != (kb)),fun v _=>v=.bool ((ka) != (kb)),fun v _=>((((ka) != (kb))=false)→v=.pointer (some ⟨S,1,none⟩))∧(¬ (((ka) != (kb))=false)→v=undef),fun v _=>((((ka) != (kb))=false)→v=.string sa)∧(¬ (((ka) != (kb))=false)→v=undef),fun v _=>((((ka) != (kb))=false)→v=.pointer (some ⟨U,1,none⟩))∧(¬ (((ka) != (kb))=false)→v=undef),fun v _=>((((ka) != (kb))=false)→v=.string sb)∧(¬ (((ka) != (kb))=false)→v=undef),fun v _=>((((ka) != (kb))=false)→v=.bool (!decide ((sa)=(sb))))∧(¬ (((ka) != (kb))=false)→v=undef),fun v _=>v=.bool (((ka) != (kb))||(!decide ((sa)=(sb)))),fun v _=>v=.bool (((ka) != (kb))||(!decide ((sa)=(sb)))),fun v _=>(((((ka) != (kb))||(!decide ((sa)=(sb))))=false)→v=.pointer (some ⟨S,2,none⟩))∧(¬ ((((ka) != (kb))||(!decide ((sa)=(sb))))=false)→v=undef),fun v _=>(((((ka) != (kb))||(!decide ((sa)=(sb))))=false)→v=.int .i64 (na))∧(¬ ((((ka) != (kb))||(!decide ((sa)=(sb))))=false)→v=undef),fun v _=>(((((ka) != (kb))||(!decide ((sa)=(sb))))=false)→v=.pointer (some ⟨U,2,none⟩))∧(¬ ((((ka) != (kb))||(!decide ((sa)=(sb))))=false)→v=undef),fun v _=>(((((ka) != (kb))||(!decide ((sa)=(sb))))=false)→v=.int .i64 (nb))∧(¬ ((((ka) != (kb))||(!decide ((sa)=(sb))))=false)→v=undef),fun v _=>(((((ka) != (kb))||(!decide ((sa)=(sb))))=false)→v=.bool ((na) != (nb)))∧(¬ ((((ka) != (kb))||(!decide ((sa)=(sb))))=false)→v=undef),fun v _=>v=.bool ((((ka) != (kb))||(!decide ((sa)=(sb))))||((na) != (nb))),fun v _=>v=.bool ((((ka) != (kb))||(!decide ((sa)=(sb))))||((na) != (nb))),fun v _=>((((((ka) != (kb))||(!decide ((sa)=(sb))))||((na) != (nb)))=false)→v=.pointer (some ⟨S,3,none⟩))∧(¬ (((((ka) != (kb))||(!decide ((sa)=(sb))))||((na) != (nb)))=false)→v=undef),fun v _=>((((((ka) != (kb))||(!decide ((sa)=(sb))))||((na) != (nb)))=false)→v=.slice paa (ra.length) (caa))∧(¬ (((((ka) != (kb))||(!decide ((sa)=(sb))))||((na) != (nb)))=false)→v=undef),fun v _=>((((((ka) != (kb))||(!decide ((sa)=(sb))))||((na) != (nb)))=false)→v=.int .i64 (((ra.length:Nat):Int)))∧(¬ (((((ka) != (kb))||(!decide ((sa)=(sb))))||((na) != (nb)))=false)→v=undef),fun v _=>((((((ka) != (kb))||(!decide ((sa)=(sb))))||((na) != (nb)))=false)→v=.pointer (some ⟨U,3,none⟩))∧(¬ (((((ka) != (kb))||(!decide ((sa)=(sb))))||((na) != (nb)))=false)→v=undef),fun v _=>((((((ka) != (kb))||(!decide ((sa)=(sb))))||((na) != (nb)))=false)→v=.slice pab (rb.length) (cab))∧(¬ (((((ka) != (kb))||(!decide ((sa)=(sb))))||((na) != (nb)))=false)→v=undef),fun v _=>((((((ka) != (kb))||(!decide ((sa)=(sb))))||((na) != (nb)))=false)→v=.int .i64 (((rb.length:Nat):Int)))∧(¬ (((((ka) != (kb))||(!decide ((sa)=(sb))))||((na) != (nb)))=false)→v=undef),fun v _=>((((((ka) != (kb))||(!decide ((sa)=(sb))))||((na) != (nb)))=false)→v=.bool ((((ra.length:Nat):Int)) != (((rb.length:Nat):Int))))∧(¬ (((((ka) != (kb))||(!decide ((sa)=(sb))))||((na) != (nb)))=false)→v=undef),fun v _=>v=.bool (((((ka) != (kb))||(!decide ((sa)=(sb))))||((na) != (nb)))||((((ra.length:Nat):Int)) != (((rb.length:Nat):Int)))),fun v _=>v=.bool (((((ka) != (kb))||(!decide ((sa)=(sb))))||((na) != (nb)))||((((ra.length:Nat):Int)) != (((rb.length:Nat):Int)))),fun v _=>(((((((ka) != (kb))||(!decide ((sa)=(sb))))||((na) != (nb)))||((((ra.length:Nat):Int)) != (((rb.length:Nat):Int))))=false)→v=.pointer (some ⟨S,4,none⟩))∧(¬ ((((((ka) != (kb))||(!decide ((sa)=(sb))))||((na) != (nb)))||((((ra.length:Nat):Int)) != (((rb.length:Nat):Int))))=false)→v=undef),fun v _=>(((((((ka) != (kb))||(!decide ((sa)=(sb))))||((na) != (nb)))||((((ra.length:Nat):Int)) != (((rb.length:Nat):Int))))=false)→v=.slice pba (ya.length) (cba))∧(¬ ((((((ka) != (kb))||(!decide ((sa)=(sb))))||((na) != (nb)))||((((ra.length:Nat):Int)) != (((rb.length:Nat):Int))))=false)→v=undef),fun v _=>(((((((ka) != (kb))||(!decide ((sa)=(sb))))||((na) != (nb)))||((((ra.length:Nat):Int)) != (((rb.length:Nat):Int))))=false)→v=.pointer (some ⟨U,4,none⟩))∧(¬ ((((((ka) != (kb))||(!decide ((sa)=(sb))))||((na) != (nb)))||((((ra.length:Nat):Int)) != (((rb.length:Nat):Int))))=false)→v=undef),fun v _=>(((((((ka) != (kb))||(!decide ((sa)=(sb))))||((na) != (nb)))||((((ra.length:Nat):Int)) != (((rb.length:Nat):Int))))=false)→v=.slice pbb (yb.length) (cbb))∧(¬ ((((((ka) != (kb))||(!decide ((sa)=(sb))))||((na) != (nb)))||((((ra.length:Nat):Int)) != (((rb.length:Nat):Int))))=false)→v=undef),fun v _=>(((((((ka) != (kb))||(!decide ((sa)=(sb))))||((na) != (nb)))||((((ra.length:Nat):Int)) != (((rb.length:Nat):Int))))=false)→v=.bool (m1))∧(¬ ((((((ka) != (kb))||(!decide ((sa)=(sb))))||((na) != (nb)))||((((ra.length:Nat):Int)) != (((rb.length:Nat):Int))))=false)→v=undef),fun v _=>(((((((ka) != (kb))||(!decide ((sa)=(sb))))||((na) != (nb)))||((((ra.length:Nat):Int)) != (((rb.length:Nat):Int))))=false)→v=.bool (!(m1)))∧(¬ ((((((ka) != (kb))||(!decide ((sa)=(sb))))||((na) != (nb)))||((((ra.length:Nat):Int)) != (((rb.length:Nat):Int))))=false)→v=undef),fun v _=>v=.bool ((((((ka) != (kb))||(!decide ((sa)=(sb))))||((na) != (nb)))||((((ra.length:Nat):Int)) != (((rb.length:Nat):Int))))||(!(m1))),fun v _=>v=.bool ((((((ka) != (kb))||(!decide ((sa)=(sb))))||((na) != (nb)))||((((ra.length:Nat):Int)) != (((rb.length:Nat):Int))))||(!(m1))),fun v _=>((((((((ka) != (kb))||(!decide ((sa)=(sb))))||((na) != (nb)))||((((ra.length:Nat):Int)) != (((rb.length:Nat):Int))))||(!(m1)))=false)→v=.pointer (some ⟨S,5,none⟩))∧(¬ (((((((ka) != (kb))||(!decide ((sa)=(sb))))||((na) != (nb)))||((((ra.length:Nat):Int)) != (((rb.length:Nat):Int))))||(!(m1)))=false)→v=undef),fun v _=>((((((((ka) != (kb))||(!decide ((sa)=(sb))))||((na) != (nb)))||((((ra.length:Nat):Int)) != (((rb.length:Nat):Int))))||(!(m1)))=false)→v=.slice pea (ea.length) (cea))∧(¬ (((((((ka) != (kb))||(!decide ((sa)=(sb))))||((na) != (nb)))||((((ra.length:Nat):Int)) != (((rb.length:Nat):Int))))||(!(m1)))=false)→v=undef),fun v _=>((((((((ka) != (kb))||(!decide ((sa)=(sb))))||((na) != (nb)))||((((ra.length:Nat):Int)) != (((rb.length:Nat):Int))))||(!(m1)))=false)→v=.pointer (some ⟨U,5,none⟩))∧(¬ (((((((ka) != (kb))||(!decide ((sa)=(sb))))||((na) != (nb)))||((((ra.length:Nat):Int)) != (((rb.length:Nat):Int))))||(!(m1)))=false)→v=undef),fun v _=>((((((((ka) != (kb))||(!decide ((sa)=(sb))))||((na) != (nb)))||((((ra.length:Nat):Int)) != (((rb.length:Nat):Int))))||(!(m1)))=false)→v=.slice peb (eb.length) (ceb))∧(¬ (((((((ka) != (kb))||(!decide ((sa)=(sb))))||((na) != (nb)))||((((ra.length:Nat):Int)) != (((rb.length:Nat):Int))))||(!(m1)))=false)→v=undef),fun v _=>((((((((ka) != (kb))||(!decide ((sa)=(sb))))||((na) != (nb)))||((((ra.length:Nat):Int)) != (((rb.length:Nat):Int))))||(!(m1)))=false)→v=.bool (m2))∧(¬ (((((((ka) != (kb))||(!decide ((sa)=(sb))))||((na) != (nb)))||((((ra.length:Nat):Int)) != (((rb.length:Nat):Int))))||(!(m1)))=false)→v=undef),fun v _=>((((((((ka) != (kb))||(!decide ((sa)=(sb))))||((na) != (nb)))||((((ra.length:Nat):Int)) != (((rb.length:Nat):Int))))||(!(m1)))=false)→v=.bool (!(m2)))∧(¬ (((((((ka) != (kb))||(!decide ((sa)=(sb))))||((na) != (nb)))||((((ra.length:Nat):Int)) != (((rb.length:Nat):Int))))||(!(m1)))=false)→v=undef),fun v _=>v=.bool (((((((ka) != (kb))||(!decide ((sa)=(sb))))||((na) != (nb)))||((((ra.length:Nat):Int)) != (((rb.length:Nat):Int))))||(!(m1)))||(!(m2)))] (by kernel_rfl) rfl ?_ ⟨?_,?_,?_,?_,?_,?_,?_,?_,?_,?_,?_,?_,?_,?_,?_,?_,?_,?_,?_,?_,?_,?_,?_,?_,?_,?_,?_,?_,?_,?_,?_,?_,?_,?_,?_,?_,?_,?_,?_,?_,?_,?_,?_,?_,trivial⟩ ?_
    ·exact⟨Zi,Zi,Zi,Zi,Zi,Zi,Zi,Zi,Zi,Zi,Zi,Zi,Zi,Zi,Zi,Zi,Zi,Zi,Zi,Zi,Zi,Zi,Zi,Zi,Zi,Zi,Zi,Zi,Zi,Zi,Zi,Zi,Zi,Zi,Zi,Zi,Zi,Zi,Zi,Zi,Zi,Zi,Zi,Zi,trivial⟩
    ·intro u w hR hd;exact rn_fld_49_0 (ev rfl) Zr
    ·intro u w hR hd;exact rn_ld_3 (ev (hd.1 rfl)) (d0.kept hR) Zr
    ·intro u w hR hd;exact rn_fld_49_0 (ev rfl) Zr
    ·intro u w hR hd;exact rn_ld_3 (ev (hd.1 rfl)) (e0.kept hR) Zr
    ·intro u w hR hd;exact rn_neq_3 (ev (hd.1 rfl)) (ev (hd.2.1 rfl)) Zr
    ·intro u w hR hd;exact runs_mv (ev (hd.1 rfl)) Zr
    ·intro u w hR hd;exact⟨fun hg=>have hG:(((ka) != (kb))=false):=Value.bool.inj ((hd.1 rfl).symm.trans hg);rn_fld_49_1 (ev rfl) (Zs hG),Zn (hd.1 rfl)⟩
    ·intro u w hR hd;exact⟨fun hg=>have hG:(((ka) != (kb))=false):=Value.bool.inj ((hd.2.1 rfl).symm.trans hg);rn_ld_9 (ev ((hd.1 rfl).1 hG)) (d1.kept hR) (Zs hG),Zn (hd.2.1 rfl)⟩
    ·intro u w hR hd;exact⟨fun hg=>have hG:(((ka) != (kb))=false):=Value.bool.inj ((hd.1 rfl).symm.trans hg);rn_fld_49_1 (ev rfl) (Zs hG),Zn (hd.1 rfl)⟩
    ·intro u w hR hd;exact⟨fun hg=>have hG:(((ka) != (kb))=false):=Value.bool.inj ((hd.2.1 rfl).symm.trans hg);rn_ld_9 (ev ((hd.1 rfl).1 hG)) (e1.kept hR) (Zs hG),Zn (hd.2.1 rfl)⟩
    ·intro u w hR hd;exact⟨fun hg=>have hG:(((ka) != (kb))=false):=Value.bool.inj ((hd.2.2.1 rfl).symm.trans hg);rn_nes_9 (ev ((hd.1 rfl).1 hG)) (ev ((hd.2.1 rfl).1 hG)) (Zs hG),Zn (hd.2.2.1 rfl)⟩
    ·intro u w hR hd;exact runs_or2 (ev (hd.1 rfl)) (fun hb=>ev ((hd.2.1 rfl).1 hb)) Zr
    ·intro u w hR hd;exact runs_mv (ev (hd.1 rfl)) Zr
    ·intro u w hR hd;exact⟨fun hg=>have hG:((((ka) != (kb))||(!decide ((sa)=(sb))))=false):=Value.bool.inj ((hd.1 rfl).symm.trans hg);rn_fld_49_2 (ev rfl) (Zs hG),Zn (hd.1 rfl)⟩
    ·intro u w hR hd;exact⟨fun hg=>have hG:((((ka) != (kb))||(!decide ((sa)=(sb))))=false):=Value.bool.inj ((hd.2.1 rfl).symm.trans hg);rn_ld_3 (ev ((hd.1 rfl).1 hG)) (d2.kept hR) (Zs hG),Zn (hd.2.1 rfl)⟩
    ·intro u w hR hd;exact⟨fun hg=>have hG:((((ka) != (kb))||(!decide ((sa)=(sb))))=false):=Value.bool.inj ((hd.1 rfl).symm.trans hg);rn_fld_49_2 (ev rfl) (Zs hG),Zn (hd.1 rfl)⟩
    ·intro u w hR hd;exact⟨fun hg=>have hG:((((ka) != (kb))||(!decide ((sa)=(sb))))=false):=Value.bool.inj ((hd.2.1 rfl).symm.trans hg);rn_ld_3 (ev ((hd.1 rfl).1 hG)) (e2.kept hR) (Zs hG),Zn (hd.2.1 rfl)⟩
    ·intro u w hR hd;exact⟨fun hg=>have hG:((((ka) != (kb))||(!decide ((sa)=(sb))))=false):=Value.bool.inj ((hd.2.2.1 rfl).symm.trans hg);rn_neq_3 (ev ((hd.1 rfl).1 hG)) (ev ((hd.2.1 rfl).1 hG)) (Zs hG),Zn (hd.2.2.1 rfl)⟩
    ·intro u w hR hd;exact runs_or2 (ev (hd.1 rfl)) (fun hb=>ev ((hd.2.1 rfl).1 hb)) Zr
    ·intro u w hR hd;exact runs_mv (ev (hd.1 rfl)) Zr
    ·intro u w hR hd;exact⟨fun hg=>have hG:(((((ka) != (kb))||(!decide ((sa)=(sb))))||((na) != (nb)))=false):=Value.bool.inj ((hd.1 rfl).symm.trans hg);rn_fld_49_3 (ev rfl) (Zs hG),Zn (hd.1 rfl)⟩
    ·intro u w hR hd;exact⟨fun hg=>have hG:(((((ka) != (kb))||(!decide ((sa)=(sb))))||((na) != (nb)))=false):=Value.bool.inj ((hd.2.1 rfl).symm.trans hg);rn_ld_33 (ev ((hd.1 rfl).1 hG)) (d3.kept hR) (Zs hG),Zn (hd.2.1 rfl)⟩
    ·intro u w hR hd;exact⟨fun hg=>have hG:(((((ka) != (kb))||(!decide ((sa)=(sb))))||((na) != (nb)))=false):=Value.bool.inj ((hd.2.1 rfl).symm.trans hg);rn_len_33 (ev ((hd.1 rfl).1 hG)) (Zs hG),Zn (hd.2.1 rfl)⟩
    ·intro u w hR hd;exact⟨fun hg=>have hG:(((((ka) != (kb))||(!decide ((sa)=(sb))))||((na) != (nb)))=false):=Value.bool.inj ((hd.1 rfl).symm.trans hg);rn_fld_49_3 (ev rfl) (Zs hG),Zn (hd.1 rfl)⟩
    ·intro u w hR hd;exact⟨fun hg=>have hG:(((((ka) != (kb))||(!decide ((sa)=(sb))))||((na) != (nb)))=false):=Value.bool.inj ((hd.2.1 rfl).symm.trans hg);rn_ld_33 (ev ((hd.1 rfl).1 hG)) (e3.kept hR) (Zs hG),Zn (hd.2.1 rfl)⟩
    ·intro u w hR hd;exact⟨fun hg=>have hG:(((((ka) != (kb))||(!decide ((sa)=(sb))))||((na) != (nb)))=false):=Value.bool.inj ((hd.2.1 rfl).symm.trans hg);rn_len_33 (ev ((hd.1 rfl).1 hG)) (Zs hG),Zn (hd.2.1 rfl)⟩
    ·intro u w hR hd;exact⟨fun hg=>have hG:(((((ka) != (kb))||(!decide ((sa)=(sb))))||((na) != (nb)))=false):=Value.bool.inj ((hd.2.2.1 rfl).symm.trans hg);rn_neq_3 (ev ((hd.1 rfl).1 hG)) (ev ((hd.2.1 rfl).1 hG)) (Zs hG),Zn (hd.2.2.1 rfl)⟩
    ·intro u w hR hd;exact runs_or2 (ev (hd.1 rfl)) (fun hb=>ev ((hd.2.1 rfl).1 hb)) Zr
    ·intro u w hR hd;exact runs_mv (ev (hd.1 rfl)) Zr
    ·intro u w hR hd;exact⟨fun hg=>have hG:((((((ka) != (kb))||(!decide ((sa)=(sb))))||((na) != (nb)))||((((ra.length:Nat):Int)) != (((rb.length:Nat):Int))))=false):=Value.bool.inj ((hd.1 rfl).symm.trans hg);rn_fld_49_4 (ev rfl) (Zs hG),Zn (hd.1 rfl)⟩
    ·intro u w hR hd;exact⟨fun hg=>have hG:((((((ka) != (kb))||(!decide ((sa)=(sb))))||((na) != (nb)))||((((ra.length:Nat):Int)) != (((rb.length:Nat):Int))))=false):=Value.bool.inj ((hd.2.1 rfl).symm.trans hg);rn_ld_40 (ev ((hd.1 rfl).1 hG)) (d4.kept hR) (Zs hG),Zn (hd.2.1 rfl)⟩
    ·intro u w hR hd;exact⟨fun hg=>have hG:((((((ka) != (kb))||(!decide ((sa)=(sb))))||((na) != (nb)))||((((ra.length:Nat):Int)) != (((rb.length:Nat):Int))))=false):=Value.bool.inj ((hd.1 rfl).symm.trans hg);rn_fld_49_4 (ev rfl) (Zs hG),Zn (hd.1 rfl)⟩
    ·intro u w hR hd;exact⟨fun hg=>have hG:((((((ka) != (kb))||(!decide ((sa)=(sb))))||((na) != (nb)))||((((ra.length:Nat):Int)) != (((rb.length:Nat):Int))))=false):=Value.bool.inj ((hd.2.1 rfl).symm.trans hg);rn_ld_40 (ev ((hd.1 rfl).1 hG)) (e4.kept hR) (Zs hG),Zn (hd.2.1 rfl)⟩
    ·intro u w hR hd;exact⟨fun hg=>have hG:((((((ka) != (kb))||(!decide ((sa)=(sb))))||((na) != (nb)))||((((ra.length:Nat):Int)) != (((rb.length:Nat):Int))))=false):=Value.bool.inj ((hd.2.2.1 rfl).symm.trans hg);runs_c2 enters_qs (ev ((hd.1 rfl).1 hG)) (ev ((hd.2.1 rfl).1 hG)) (callp (fun _ e=>⟨fun _=>e,fun hn=>absurd hG hn⟩) (HIY.out _ (HGV.out.trans hR))),Zn (hd.2.2.1 rfl)⟩
    ·intro u w hR hd;exact⟨fun hg=>have hG:((((((ka) != (kb))||(!decide ((sa)=(sb))))||((na) != (nb)))||((((ra.length:Nat):Int)) != (((rb.length:Nat):Int))))=false):=Value.bool.inj ((hd.2.1 rfl).symm.trans hg);runs_nt (ev ((hd.1 rfl).1 hG)) (Zs hG),Zn (hd.2.1 rfl)⟩
    ·intro u w hR hd;exact runs_or2 (ev (hd.1 rfl)) (fun hb=>ev ((hd.2.1 rfl).1 hb)) Zr
    ·intro u w hR hd;exact runs_mv (ev (hd.1 rfl)) Zr
    ·intro u w hR hd;exact⟨fun hg=>have hG:(((((((ka) != (kb))||(!decide ((sa)=(sb))))||((na) != (nb)))||((((ra.length:Nat):Int)) != (((rb.length:Nat):Int))))||(!(m1)))=false):=Value.bool.inj ((hd.1 rfl).symm.trans hg);rn_fld_49_5 (ev rfl) (Zs hG),Zn (hd.1 rfl)⟩
    ·intro u w hR hd;exact⟨fun hg=>have hG:(((((((ka) != (kb))||(!decide ((sa)=(sb))))||((na) != (nb)))||((((ra.length:Nat):Int)) != (((rb.length:Nat):Int))))||(!(m1)))=false):=Value.bool.inj ((hd.2.1 rfl).symm.trans hg);rn_ld_40 (ev ((hd.1 rfl).1 hG)) (d5.kept hR) (Zs hG),Zn (hd.2.1 rfl)⟩
    ·intro u w hR hd;exact⟨fun hg=>have hG:(((((((ka) != (kb))||(!decide ((sa)=(sb))))||((na) != (nb)))||((((ra.length:Nat):Int)) != (((rb.length:Nat):Int))))||(!(m1)))=false):=Value.bool.inj ((hd.1 rfl).symm.trans hg);rn_fld_49_5 (ev rfl) (Zs hG),Zn (hd.1 rfl)⟩
    ·intro u w hR hd;exact⟨fun hg=>have hG:(((((((ka) != (kb))||(!decide ((sa)=(sb))))||((na) != (nb)))||((((ra.length:Nat):Int)) != (((rb.length:Nat):Int))))||(!(m1)))=false):=Value.bool.inj ((hd.2.1 rfl).symm.trans hg);rn_ld_40 (ev ((hd.1 rfl).1 hG)) (e5.kept hR) (Zs hG),Zn (hd.2.1 rfl)⟩
    ·intro u w hR hd;exact⟨fun hg=>have hG:(((((((ka) != (kb))||(!decide ((sa)=(sb))))||((na) != (nb)))||((((ra.length:Nat):Int)) != (((rb.length:Nat):Int))))||(!(m1)))=false):=Value.bool.inj ((hd.2.2.1 rfl).symm.trans hg);runs_c2 enters_qs (ev ((hd.1 rfl).1 hG)) (ev ((hd.2.1 rfl).1 hG)) (callp (fun _ e=>⟨fun _=>e,fun hn=>absurd hG hn⟩) (HIE.out _ (HGV.out.trans hR))),Zn (hd.2.2.1 rfl)⟩
    ·intro u w hR hd;exact⟨fun hg=>have hG:(((((((ka) != (kb))||(!decide ((sa)=(sb))))||((na) != (nb)))||((((ra.length:Nat):Int)) != (((rb.length:Nat):Int))))||(!(m1)))=false):=Value.bool.inj ((hd.2.1 rfl).symm.trans hg);runs_nt (ev ((hd.1 rfl).1 hG)) (Zs hG),Zn (hd.2.1 rfl)⟩
    ·intro u w hR hd;exact runs_or2 (ev (hd.1 rfl)) (fun hb=>ev ((hd.2.1 rfl).1 hb)) Zr
    ·intro u w4 hR hh
     have he:u 68=.bool (((((((ka) != (kb))||(!decide ((sa)=(sb))))||((na) != (nb)))||((((ra.length:Nat):Int)) != (((rb.length:Nat):Int))))||(!(m1)))||(!(m2))):=hh 43 (by decide)
     have hE:(((((((ka) != (kb))||(!decide ((sa)=(sb))))||((na) != (nb)))||((((ra.length:Nat):Int)) != (((rb.length:Nat):Int))))||(!(m1)))||(!(m2)))=!eqHS ka sa na ra.length kb sb nb rb.length m1 m2:=by rw [eqHS,Bool.not_not]
     rw [hE] at he
     simp only [mixA,mixL,zz9,zz0,he]
     have HG4:Hid (Grew V w4):=Lib.hid hR
     have HGw:=Lib.hid (HGV.out.trans hR)
     clear hh he hE hR d0 d1 d2 d3 d4 d5 e0 e1 e2 e3 e4 e5 HIY HIE
     cases hh:eqHS ka sa na ra.length kb sb nb rb.length m1 m2 with
     | false =>
       rw [hh,Bool.false_and] at HNO
       have HN2:=Lib.hid (HNO.out rfl)
       clear HNO hh HQ
       go_wp2
       go_ret
       exact⟨ret_bool HN2.out.symm,HGw.out⟩
     | true =>
       have hlen:ra.length=rb.length:=by
        rw [eqHS,Bool.not_eq_true'] at hh
        simp only [Bool.or_eq_false_iff] at hh
        have:=hh.1.1.2
        simp at this
        omega
       rw [hh,Bool.true_and] at HNO HQ
       have HLA:=Lib.hid hlen
       have r3:w4.cell? ⟨S,3,none⟩=some (.slice paa ra.length caa):=(HBS.out.grew HG4.out).cell 3
       clear hh hlen
       go_wp2
       clear r3
       go_loopg [8,72] ra.length (fun gg jv iv wr=>∃(i:Nat),iv=.int .i64 (i:Int)∧i≤ra.length∧gg=ra.length - i∧Hid (eqXs (ra.take i) (rb.take i)=true)∧Hid (Grew V wr))
       case atStart=>exact⟨0,rfl,Nat.zero_le _,rfl,Lib.hid (eqXs_nil _),HG4⟩
       case round =>
        obtain ⟨i,rfl,hi,rfl,HJ,HGq⟩:=hrel
        have HG:=Lib.hid (HGV.out.trans HGq.out)
        by_cases hlt:i < ra.length
        ·have hlt2:i < rb.length:=by have:=HLA.out;omega
         have hta:=List.take_succ_eq_append_getElem hlt
         have htb:=List.take_succ_eq_append_getElem hlt2
         have hno:=fun h=>eqXs_no ra rb i hlt hlt2 h
         have HLT2:=Lib.hid (Nat.succ_le_of_lt hlt)
         have HL3:=Lib.hid (And.intro hlt hlt2)
         obtain ⟨bu,ou,pu,cu,hpu,hbu,hau,hcu⟩:=HAA.out.get i hlt
         generalize ra[i]'hlt=xu at hbu hau hcu hno hta
         obtain ⟨ku,su,vu,o_u,ru,qu⟩:=xu
         replace hau:XL A w pu cu ru:=hau
         replace hcu:∀i_ u_,(xdc ⟨ku,su,vu,o_u,pu,ru.length,cu,qu⟩)[i_]?=some u_→w.cell? ⟨bu,ou+i * 6+i_,none⟩=some u_:=hcu
         obtain ⟨bv,ov,pv,cv,hpv,hbv,hav,hcv⟩:=HAB.out.get i hlt2
         generalize rb[i]'hlt2=xv at hbv hav hcv hno htb
         obtain ⟨kv,sv,vv,o_v,rv,qv⟩:=xv
         replace hav:XL B w pv cv rv:=hav
         replace hcv:∀i_ u_,(xdc ⟨kv,sv,vv,o_v,pv,rv.length,cv,qv⟩)[i_]?=some u_→w.cell? ⟨bv,ov+i * 6+i_,none⟩=some u_:=hcv
         obtain ⟨dd,hd⟩:∃d,eqX ⟨ku,su,vu,o_u,ru,qu⟩ ⟨kv,sv,vv,o_v,rv,qv⟩=d:=⟨_,rfl⟩
         have HD:=Lib.hid hd
         have HTU:=Lib.hid hta
         have HTV:=Lib.hid htb
         have HN3:=Lib.hid (fun(h:dd=false)=>(show b=false from HNO.out (hno (hd.trans h))))
         have HIH:=Lib.hid (fun W (hW:Grew w W)=>(show Calls Tryz.prog 24 #[xv ku su vu o_u pu ru.length cu qu,xv kv sv vv o_v pv rv.length cv qv] W fun e w'=>e=.returned (.bool dd)∧Grew W w' from hd ▸ eqx_any ⟨ku,su,vu,o_u,ru,qu⟩ ⟨kv,sv,vv,o_v,rv,qv⟩ A B W pu pv cu cv (hau.kept hW) (hav.kept hW)))
         subst hpu
         subst hpv
         have hbS:=HBS.out.grew (HGq.out.trans (Grew.refl wr).drw)
         have hbU:=HBU.out.grew (HGq.out.trans (Grew.refl wr).drw)
         have d3:Atv ⟨S,3,none⟩ (.slice (some ⟨bu,ou,none⟩) ra.length caa) wr.drew:=hbS.atv 3 rfl
         have e3:Atv ⟨U,3,none⟩ (.slice (some ⟨bv,ov,none⟩) rb.length cab) wr.drew:=hbU.atv 3 rfl
         have f0:Atv ⟨bu,ou+i * 6,none⟩ (.int .i64 ku) wr.drew:=Atv.kept (hcu 0 _ rfl) (HG.out.trans (Grew.refl wr).drw)
         have f1:Atv ⟨bu,ou+i * 6+1,none⟩ (.string su) wr.drew:=Atv.kept (hcu 1 _ rfl) (HG.out.trans (Grew.refl wr).drw)
         have f2:Atv ⟨bu,ou+i * 6+2,none⟩ (.int .i16 vu) wr.drew:=Atv.kept (hcu 2 _ rfl) (HG.out.trans (Grew.refl wr).drw)
         have f3:Atv ⟨bu,ou+i * 6+3,none⟩ (.int .i64 o_u) wr.drew:=Atv.kept (hcu 3 _ rfl) (HG.out.trans (Grew.refl wr).drw)
         have f4:Atv ⟨bu,ou+i * 6+4,none⟩ (.slice pu ru.length cu) wr.drew:=Atv.kept (hcu 4 _ rfl) (HG.out.trans (Grew.refl wr).drw)
         have f5:Atv ⟨bu,ou+i * 6+5,none⟩ (.int .i64 qu) wr.drew:=Atv.kept (hcu 5 _ rfl) (HG.out.trans (Grew.refl wr).drw)
         have h0:Atv ⟨bv,ov+i * 6,none⟩ (.int .i64 kv) wr.drew:=Atv.kept (hcv 0 _ rfl) (HG.out.trans (Grew.refl wr).drw)
         have h1:Atv ⟨bv,ov+i * 6+1,none⟩ (.string sv) wr.drew:=Atv.kept (hcv 1 _ rfl) (HG.out.trans (Grew.refl wr).drw)
         have h2:Atv ⟨bv,ov+i * 6+2,none⟩ (.int .i16 vv) wr.drew:=Atv.kept (hcv 2 _ rfl) (HG.out.trans (Grew.refl wr).drw)
         have h3:Atv ⟨bv,ov+i * 6+3,none⟩ (.int .i64 o_v) wr.drew:=Atv.kept (hcv 3 _ rfl) (HG.out.trans (Grew.refl wr).drw)
         have h4:Atv ⟨bv,ov+i * 6+4,none⟩ (.slice pv rv.length cv) wr.drew:=Atv.kept (hcv 4 _ rfl) (HG.out.trans (Grew.refl wr).drw)
         have h5:Atv ⟨bv,ov+i * 6+5,none⟩ (.int .i64 qv) wr.drew:=Atv.kept (hcv 5 _ rfl) (HG.out.trans (Grew.refl wr).drw)
         clear hta htb hno hd hau hav hcu hcv hbu hbv hbS hbU hlt2
         go_upto_region 12 with fail
         have hlt2:i < rb.length:=HL3.out.2
         refine wp_posts [some 75,some 76,some 77,some 78,some 79,some 80,some 81,some 82,some 83,some 84,some 85,some 86] [Zf,Zf,Zf,Zf,Zf,Zf,Zf,Zf,Zf,Zf,Zf,Zf,Zf,Zf,Zf,Zf,Zf,Zf,Zf,Zf,Zf,Zf,Zf,Zf,Zf,Zf,Zf,Zf,Zf,Zf,Zf,Zf,Zf,Zf,Zf,Zf,Zf,Zf,Zf,Zf,Zf,Zf,Zf,Zf,Zf,Zf,Zf,Zf,Zf,Zf,Zf,Zf,Zf,Zf,Zf,Zf,Zf,Zf,Zf,Zf,Zf,Zf,Zf,Zf,Zf,Zf,Zf,Zf,Zf,Zf,Zf,Zf,Zf,Zf,Zf,Zt,Zt,Zt,Zt,Zt,Zt,Zt,Zt,Zt,Zt,Zt,Zt,Zf,Zf] [fun v _=>v=.pointer (some ⟨S,3,none⟩),fun v _=>v=.slice (some ⟨bu,ou,none⟩) (ra.length) (caa),fun v _=>v=.int .i64 (((i:Nat):Int)),fun v _=>v=.pointer (some ⟨bu,ou+i * 6,none⟩),fun v _=>v=.agg #[.int .i64 (ku),.string su,.int .i16 (vu),.int .i64 (o_u),.slice pu ru.length cu,.int .i64 (qu)],fun v _=>v=.pointer (some ⟨U,3,none⟩),fun v _=>v=.slice (some ⟨bv,ov,none⟩) (rb.length) (cab),fun v _=>v=.int .i64 (((i:Nat):Int)),fun v _=>v=.pointer (some ⟨bv,ov+i * 6,none⟩),fun v _=>v=.agg #[.int .i64 (kv),.string sv,.int .i16 (vv),.int .i64 (o_v),.slice pv rv.length cv,.int .i64 (qv)],fun v _=>v=.bool (dd),fun v _=>v=.bool (!(dd))] (by kernel_rfl) (by kernel_rfl) rfl ?_ ⟨?_,?_,?_,?_,?_,?_,?_,?_,?_,?_,?_,?_,trivial⟩ ?_
         ·exact⟨Zi,Zi,Zi,Zi,Zi,Zi,Zi,Zi,Zi,Zi,Zi,Zi,trivial⟩
         ·intro u w hR hd;exact rn_fld_49_3 (ev rfl) Zr
         ·intro u w hR hd;exact rn_ld_33 (ev (hd.1 rfl)) (d3.kept hR) Zr
         ·intro u w hR hd;exact runs_mv (ev rfl) Zr
         ·intro u w hR hd;exact rn_idx_33 (i) (ev (hd.1 rfl)) (ev (hd.2.1 rfl)) (by omega) Zr
         ·intro u w hR hd;exact rn_ld_35 (ev (hd.1 rfl)) (f0.kept hR) (f1.kept hR) (f2.kept hR) (f3.kept hR) (f4.kept hR) (f5.kept hR) Zr
         ·intro u w hR hd;exact rn_fld_49_3 (ev rfl) Zr
         ·intro u w hR hd;exact rn_ld_33 (ev (hd.1 rfl)) (e3.kept hR) Zr
         ·intro u w hR hd;exact runs_mv (ev rfl) Zr
         ·intro u w hR hd;exact rn_idx_33 (i) (ev (hd.1 rfl)) (ev (hd.2.1 rfl)) (by omega) Zr
         ·intro u w hR hd;exact rn_ld_35 (ev (hd.1 rfl)) (h0.kept hR) (h1.kept hR) (h2.kept hR) (h3.kept hR) (h4.kept hR) (h5.kept hR) Zr
         ·intro u w hR hd;exact runs_c2 enters_eq (ev (hd.1 rfl)) (ev (hd.2.1 rfl)) (callp (fun _ e=>e) (HIH.out _ (HG.out.trans ((Grew.refl _).drw.trans hR))))
         ·intro u w hR hd;exact runs_nt (ev (hd.1 rfl)) Zr
         ·intro u w4 hR hh
          have he:u 86=.bool (!(dd)):=hh 11 (by decide)
          simp only [mixA,mixL,zz9,zz0,he]
          have HG5:Hid (Grew V w4):=Lib.hid (HGq.out.trans ((Grew.refl wr).drw.trans hR))
          clear hh he hR d3 e3 f0 f1 f2 f3 f4 f5 h0 h1 h2 h3 h4 h5
          cases dd with
          | false =>
            have HN4:=Lib.hid (HN3.out rfl)
            clear HN3
            go_wp2
            go_ret
            exact⟨ret_bool HN4.out.symm,HGV.out.trans HG5.out⟩
          | true =>
            clear HN3
            go_wp2
            go_roundg (ra.length - (i+1))
            case measure=>have:=HLT2.out;omega
            case rel=>exact⟨i+1,by go_num,HLT2.out,rfl,Lib.hid (by rw [HTU.out,HTV.out,eqXs_snoc _ _ _ _ (by rw [List.length_take,List.length_take,HLA.out]),HJ.out,HD.out];rfl),HG5⟩
        ·obtain rfl:i=ra.length:=by omega
         rw [List.take_length,HLA.out,List.take_length] at HJ
         have HQ2:=Lib.hid (HQ.out.trans HJ.out)
         clear HNO HQ HJ
         go_wp2
         go_roundg (l.length - (j+1))
         case measure=>have:=HLT.out;omega
         case rel=>exact⟨j+1,by go_num,HLT.out,rfl,Lib.hid (by rw [HTA.out,HTB.out,eqSz_snoc _ _ _ _ (by rw [List.length_take,List.length_take,HLE.out]),HI.out,HQ2.out];rfl),HG⟩
   ·obtain rfl:j=l.length:=by omega
    rw [List.take_length,HLE.out,List.take_length] at HI
    go_wp2
    go_ret
    exact⟨ret_bool (HI.out.symm.trans HOK.out),HG.out⟩
 ·rw [decide_eq_false hlen,Bool.false_and] at hb
  have hne:((l.length:Int) != (m.length:Int))=true:=by simp;omega
  go_enter Tryz.func30,Tryz.ntmps30
  go_wp2
  go_ret
  exact⟨ret_bool hb,Grew.refl _⟩
end Go.Proofs.YtcknpcbkofgdoaaGreatDoor
namespace Go.Proofs.YtcknpcbkofgdoaaGreatDoor
open Go Go.RowKit Go.IntWalk
set_option linter.unusedSimpArgs false
set_option linter.unusedVariables false
set_option maxRecDepth 8000
section
variable {dst:Option Tmp}{ty:TypeId}{pos:String}{after:Array Edge}{g:Option (Nat × Bool)}{a:Act}{w:World}{T:Value→World→Prop}
theorem rn_idx_24 {x y:Operand}{b o n c:Nat}(i:Nat) (hx:a.eval x=.slice (some ⟨b,o,none⟩) n c) (hy:a.eval y=.int .i64 (i:Int)) (hi:i < n) (h:T (.pointer (some ⟨b,o+i,none⟩)) w):Runs Tryz.prog ⟨dst,.indexAddr 24 x y,ty,pos,after,g⟩ a w T:=by
 have hi2:(i:Int) < (n:Int):=by omega
 refine Runs.value (v:=.pointer (some ⟨b,o+i,none⟩)) (w':=w) ?_ h
 simp only [execOp,hx,hy]
 go_simp
end
theorem take_ne {α:Type}{l m:List α}{j:Nat}(h1:j < l.length) (h2:j < m.length) (h:l[j]≠m[j]):l≠m:=fun e=>h (by subst e;rfl)
set_option maxHeartbeats 16000000 in
theorem names_any (A B:Nat→Prop) (w:World) (l m:List ByteArray) (p p':Option Addr) (c c':Nat) (hx:InN FlatAt 1 strc A w p l.length c l) (hy:InN FlatAt 1 strc B w p' m.length c' m) :
 Calls Tryz.prog 74 #[.slice p l.length c,.slice p' m.length c'] w fun e w'=>e=.returned (.bool (decide (l=m)))∧Grew w w':=by
 have HX:=Lib.hid hx
 have HY:=Lib.hid hy
 have hcap:l.length≤c∧m.length≤c':=⟨(hx.cap (hangsF encStr)).1,(hy.cap (hangsF encStr)).1⟩
 have hmax:=And.intro (hx.cap (hangsF encStr)).2.1 (hy.cap (hangsF encStr)).2.1
 clear hx hy
 obtain ⟨b,hb⟩:∃b,decide (l=m)=b:=⟨_,rfl⟩
 rw [hb]
 have HOK:=Lib.hid hb
 clear hb
 by_cases hlen:l.length=m.length
 ·have HLE:=Lib.hid hlen
  have hne:((l.length:Int) != (m.length:Int))=false:=by rw [hlen];simp
  clear hlen
  go_enter Tryz.func74,Tryz.ntmps74
  go_wp2
  go_loopg [5,13] l.length (fun gg v5 iv wr=>∃(j:Nat),iv=.int .i64 (j:Int)∧j≤l.length∧gg=l.length - j∧Hid (l.take j=m.take j)∧Hid (Grew w wr))
  case atStart=>exact⟨0,rfl,Nat.zero_le _,rfl,Lib.hid rfl,Lib.hid (Grew.refl _)⟩
  case round =>
   obtain ⟨j,rfl,hj,rfl,HI,HG⟩:=hrel
   by_cases hlt:j < l.length
   ·have hlt2:j < m.length:=by have:=HLE.out;omega
    have hta:=List.take_succ_eq_append_getElem hlt
    have htb:=List.take_succ_eq_append_getElem hlt2
    have hno:=fun h=>take_ne hlt hlt2 h
    have HLT:=Lib.hid (Nat.succ_le_of_lt hlt)
    have HL2:=Lib.hid (And.intro hlt hlt2)
    obtain ⟨ba,oa,rfl,hca⟩:=HX.out.getF j hlt
    obtain ⟨bb,ob,rfl,hcb⟩:=HY.out.getF j hlt2
    generalize l[j]'hlt=sa at hca hta hno
    generalize m[j]'hlt2=sb at hcb htb hno
    have hca':w.cell? ⟨ba,oa+j,none⟩=some (.string sa):=by simpa using hca 0 _ rfl
    have hcb':w.cell? ⟨bb,ob+j,none⟩=some (.string sb):=by simpa using hcb 0 _ rfl
    have d0:Atv ⟨ba,oa+j,none⟩ (.string sa) wr.drew:=Atv.kept hca' (HG.out.trans (Grew.refl wr).drw)
    have e0:Atv ⟨bb,ob+j,none⟩ (.string sb) wr.drew:=Atv.kept hcb' (HG.out.trans (Grew.refl wr).drw)
    have HNO:=Lib.hid (fun(h:sa≠sb)=>(show b=false from HOK.out ▸ decide_eq_false (hno h)))
    have HTA:=Lib.hid hta
    have HTB:=Lib.hid htb
    clear hta htb hno hca hcb hca' hcb' hlt2
    go_upto_region 6 with fail
    have hlt2:j < m.length:=HL2.out.2
    refine wp_posts [some 16,some 17,some 18,some 19,some 20,some 21,some 22,some 23,some 24] zD1 [fun v _=>v=.slice (some ⟨ba,oa,none⟩) (l.length) (c),fun v _=>v=.int .i64 (((j:Nat):Int)),fun v _=>v=.pointer (some ⟨ba,oa+j,none⟩),fun v _=>v=.string sa,fun v _=>v=.slice (some ⟨bb,ob,none⟩) (m.length) (c'),fun v _=>v=.int .i64 (((j:Nat):Int)),fun v _=>v=.pointer (some ⟨bb,ob+j,none⟩),fun v _=>v=.string sb,fun v _=>v=.bool (!decide ((sa)=(sb)))] (by kernel_rfl) (by kernel_rfl) rfl ?_ ⟨?_,?_,?_,?_,?_,?_,?_,?_,?_,trivial⟩ ?_
    ·exact⟨Zi,Zi,Zi,Zi,Zi,Zi,Zi,Zi,Zi,trivial⟩
    ·intro u w hR hd;exact runs_mv (ev rfl) Zr
    ·intro u w hR hd;exact runs_mv (ev rfl) Zr
    ·intro u w hR hd;exact rn_idx_24 (j) (ev (hd.1 rfl)) (ev (hd.2.1 rfl)) (by omega) Zr
    ·intro u w hR hd;exact rn_ld_9 (ev (hd.1 rfl)) (d0.kept hR) Zr
    ·intro u w hR hd;exact runs_mv (ev rfl) Zr
    ·intro u w hR hd;exact runs_mv (ev rfl) Zr
    ·intro u w hR hd;exact rn_idx_24 (j) (ev (hd.1 rfl)) (ev (hd.2.1 rfl)) (by omega) Zr
    ·intro u w hR hd;exact rn_ld_9 (ev (hd.1 rfl)) (e0.kept hR) Zr
    ·intro u w hR hd;exact rn_nes_9 (ev (hd.1 rfl)) (ev (hd.2.1 rfl)) Zr
    ·intro u w4 hR hh
     have he:u 24=.bool (!decide (sa=sb)):=hh 8 (by decide)
     simp only [mixA,mixL,zz9,zz0,he]
     have HG4:Hid (Grew w w4):=Lib.hid (HG.out.trans ((Grew.refl wr).drw.trans hR))
     clear hh he hR d0 e0
     by_cases hs:sa=sb
     ·have HS:=Lib.hid hs
      rw [decide_eq_true hs]
      clear HNO hs
      go_wp2
      go_roundg (l.length - (j+1))
      case measure=>have:=HLT.out;omega
      case rel=>exact⟨j+1,by go_num,HLT.out,rfl,Lib.hid (by rw [HTA.out,HTB.out,HI.out,HS.out]),HG4⟩
     ·have HN2:=Lib.hid (HNO.out hs)
      rw [decide_eq_false hs]
      clear HNO hs
      go_wp2
      go_ret
      exact⟨ret_bool HN2.out.symm,HG4.out⟩
   ·obtain rfl:j=l.length:=by omega
    rw [List.take_length,HLE.out,List.take_length] at HI
    go_wp2
    go_ret
    exact⟨ret_bool ((decide_eq_true HI.out).symm.trans HOK.out),HG.out⟩
 ·have hne:((l.length:Int) != (m.length:Int))=true:=by simp;omega
  have hlm:b=false:=HOK.out ▸ decide_eq_false fun e=>hlen (by rw [e])
  go_enter Tryz.func74,Tryz.ntmps74
  go_wp2
  go_ret
  exact⟨ret_bool hlm.symm,Grew.refl _⟩
end Go.Proofs.YtcknpcbkofgdoaaGreatDoor
namespace Go.Proofs.YtcknpcbkofgdoaaGreatDoor
open Go Go.RowKit Go.IntWalk
set_option linter.unusedSimpArgs false
set_option linter.unusedVariables false
set_option maxRecDepth 8000
section
variable {dst:Option Tmp}{ty:TypeId}{pos:String}{after:Array Edge}{g:Option (Nat × Bool)}{a:Act}{w:World}{T:Value→World→Prop}
theorem rn_st_33 {x y:Operand}{q:Addr}{p:Option Addr}{m c:Nat}{v':Value}(hx:a.eval x=.pointer (some q)) (hy:a.eval y=(.slice p m c)) (hc:w.cell? q=some v') (hf:w.frozen? q=false) (h:T undef (w.setCell q (.slice p m c))):Runs Tryz.prog ⟨dst,.store 33 x y,ty,pos,after,g⟩ a w T:=by
 refine Runs.skip (w':=w.setCell q (.slice p m c)) ?_ h
 simp only [execOp,hx,hy]
 go_simp
theorem rn_st_40 {x y:Operand}{q:Addr}{p:Option Addr}{m c:Nat}{v':Value}(hx:a.eval x=.pointer (some q)) (hy:a.eval y=(.slice p m c)) (hc:w.cell? q=some v') (hf:w.frozen? q=false) (h:T undef (w.setCell q (.slice p m c))):Runs Tryz.prog ⟨dst,.store 40 x y,ty,pos,after,g⟩ a w T:=by
 refine Runs.skip (w':=w.setCell q (.slice p m c)) ?_ h
 simp only [execOp,hx,hy]
 go_simp
end
theorem strips_own {wr w2:World}{S:Nat}{p1:Option Addr}{n1 c1:Nat}{l:List Xp}{o:Obj}{o2:Obj}(h:OwN XsAt 6 xdc S (Aside S wr.heap.size p1) wr 35 p1 n1 c1 l) (g:Grew (wr.alloc o) w2):OwN XsAt 6 xdc S (Aside S w2.heap.size p1) (w2.alloc o2) 35 p1 n1 c1 l:=by
 have h1:=(((Grew.refl wr).alloc o).trans g)
 exact(h.kept hangsX (h1.alloc o2)).mono hangsX fun b hb=>⟨hb.1,Nat.lt_of_lt_of_le hb.2.1 h1.sz,hb.2.2⟩
theorem strips_at {wr w2:World}{S:Nat}{p1 p2:Option Addr}{n1 c1 c2:Nat}{l ra:List Xp}{o:Obj}{k v oo q:Int}{s:ByteArray}(h:OwN XsAt 6 xdc S (Aside S wr.heap.size p1) wr 35 p1 n1 c1 l) (hS:S≤wr.heap.size) (hx:XL (Fresh (wr.alloc o).heap.size w2.heap.size) w2 p2 c2 (stXs ra)) (hz:s.size≤1048576∧v≤32767):XsAt (Aside S w2.heap.size p1) w2 [stX ⟨k,s,v,oo,ra,q⟩] [⟨k,s,v,oo,p2,ra.length,c2,0⟩]:=by
 have h1:=xat1 (k:=k) (v:=v) (o:=oo) (q:=0) (s:=s) (ar:=stXs ra) hz (hx.mono (B':=Aside S w2.heap.size p1) fun b hb=>⟨by have:=hb.1;rw [alloc_sz] at this;omega,hb.2,h.offTop hangsX (by have:=hb.1;rw [alloc_sz] at this;omega)⟩)
 rw [stXs_len] at h1
 rw [stX]
 exact h1
theorem strips_row {wr w4:World}{W:World}{S T:Nat}{p1:Option Addr}{n1 c1:Nat}{l:List Sm}(h:OwN SsAt 7 sdc S (Aside S wr.heap.size p1) wr 49 p1 n1 c1 l) (hT:wr.heap.size=T) (g:Grew wr W) (hc:Chg W w4 (fun k=>k=T)):OwN SsAt 7 sdc S (Aside S w4.heap.size p1) w4 49 p1 n1 c1 l:=by
 have h1:=(h.kept hangsS g).chg hangsS hc (fun a ha e=>by have:=(h.place hangsS a ha).2;omega) (fun b hb e=>by have:=hb.2.1;omega)
 have h2:=g.sz
 have h3:=hc.size
 exact h1.mono hangsS fun b hb=>⟨hb.1,by have:=hb.2.1;omega,hb.2.2⟩
theorem strips_args {wr W w4:World}{T:Nat}{p2:Option Addr}{n2 c2:Nat}{l:List Xp}(h:OwN XsAt 6 xdc (T+1) (Aside (T+1) wr.heap.size p2) wr 35 p2 n2 c2 l) (g:Grew wr W) (hc:Chg W w4 (fun k=>k=T)):XL (fun b=>T+1≤b∧b < w4.heap.size) w4 p2 c2 l:=by
 have h2:=(h.kept hangsX g).chg hangsX hc (fun a ha e=>by have:=(h.place hangsX a ha).1;omega) (fun b hb e=>by have:=hb.1;omega)
 have hs1:=g.sz
 have hs2:=hc.size
 refine⟨fun _ a ha=>?_,?_⟩
 ·have:=h.place hangsX a ha
  exact⟨by omega,by omega⟩
 ·obtain ⟨_,L,h3,h4⟩:=h2.mono hangsX (B':=fun b=>T+1≤b∧b < w4.heap.size) fun b hb=>⟨hb.1,by have:=hb.2.1;omega⟩
  exact⟨L,(h3.rd encXd).2,h4⟩
theorem strips_done {w wr:World}{S:Nat}{p1:Option Addr}{n1 c1:Nat}{l:List Sm}(h:OwN SsAt 7 sdc S (Aside S wr.heap.size p1) wr 49 p1 n1 c1 l) (hS:w.heap.size=S):SL (Fresh w.heap.size wr.heap.size) wr p1 c1 l:=by
 refine⟨fun _ a ha=>?_,?_⟩
 ·have:=h.place hangsS a ha
  exact⟨by omega,by omega⟩
 ·obtain ⟨_,L,h3,h4⟩:=h.mono hangsS (B':=Fresh w.heap.size wr.heap.size) fun b hb=>⟨by have:=hb.1;omega,hb.2.1⟩
  exact⟨L,(h3.rd encSd).2,h4⟩
def SsG (T S3 k:Nat) (ys:List Sm) (w:World):Prop:=∃p_ c_,w.cell? ⟨T,k,none⟩=some (.slice p_ ys.length c_)∧SL (Fresh S3 w.heap.size) w p_ c_ (stSs ys)
def SsB (T:Nat) (ka:Int) (sa:ByteArray) (na:Int) (w:World):Prop:=∃v3 v4 v5:Value,Blk T [.int .i64 ka,.string sa,.int .i64 na,v3,v4,v5,.int .i64 0] 49 w
structure SsR (T S3:Nat) (ka:Int) (sa:ByteArray) (na:Int) (x3:Value) (ya ea:List Sm) (w w':World):Prop where
 ch:Chg w w' (fun k=>k=T)
 b:SsB T ka sa na w→SsB T ka sa na w'
 c:w.cell? ⟨T,3,none⟩=some x3→w'.cell? ⟨T,3,none⟩=some x3
 g4:SsG T S3 4 ya w→SsG T S3 4 ya w'
 g5:SsG T S3 5 ea w→SsG T S3 5 ea w'
theorem SsG.grew {T S3 k:Nat}{ys:List Sm}{w w':World}(h:SsG T S3 k ys w) (hg:Grew w w'):SsG T S3 k ys w':=by
 obtain ⟨p_,c_,h1,h2⟩:=h
 exact⟨p_,c_,Atv.kept (R:=Grew) h1 hg,(h2.kept hg).mono fun b hb=>⟨hb.1,Nat.lt_of_lt_of_le hb.2 hg.sz⟩⟩
section
variable {T S3:Nat}{ka:Int}{sa:ByteArray}{na:Int}{x3:Value}{ya ea:List Sm}{w w' w'':World}
theorem SsR.of_grew (hg:Grew w w'):SsR T S3 ka sa na x3 ya ea w w' :=
 ⟨Chg.of_grew hg _,fun⟨v3,v4,v5,h⟩=>⟨v3,v4,v5,h.grew hg⟩,fun h=>Atv.kept (R:=Grew) h hg,fun h=>h.grew hg,fun h=>h.grew hg⟩
theorem SsR.trans (h:SsR T S3 ka sa na x3 ya ea w w') (h':SsR T S3 ka sa na x3 ya ea w' w''):SsR T S3 ka sa na x3 ya ea w w'' :=
 ⟨h.ch.trans h'.ch,fun x=>h'.b (h.b x),fun x=>h'.c (h.c x),fun x=>h'.g4 (h.g4 x),fun x=>h'.g5 (h.g5 x)⟩
theorem SsG.chg {k:Nat}{ys:List Sm}(h:SsG T S3 k ys w) (hT:T < S3) (hc:Chg w w' (fun k=>k=T)) (hk:w'.cell? ⟨T,k,none⟩=w.cell? ⟨T,k,none⟩):SsG T S3 k ys w':=by
 obtain ⟨p_,c_,h1,h2⟩:=h
 exact⟨p_,c_,hk.trans h1,(h2.chg hc (fun b hb e=>by have:=hb.1;omega)).mono fun b hb=>⟨hb.1,Nat.lt_of_lt_of_le hb.2 hc.size⟩⟩
theorem SsL.mem {v:Value}{k:Nat}{ys:List Sm}(h:∃p_ c_,v=.slice p_ ys.length c_∧SL (Fresh S3 w.heap.size) w p_ c_ (stSs ys)) (hT:T < S3) (hc:Chg w w' (fun k=>k=T)) (hk:w'.cell? ⟨T,k,none⟩=some v):SsG T S3 k ys w':=by
 obtain ⟨p_,c_,rfl,h2⟩:=h
 exact⟨p_,c_,hk,(h2.chg hc (fun b hb e=>by have:=hb.1;omega)).mono fun b hb=>⟨hb.1,Nat.lt_of_lt_of_le hb.2 hc.size⟩⟩
theorem SsB.st3 (hb:SsB T ka sa na w) (hT:T < S3):SsR T S3 ka sa na x3 ya ea w (w.setCell ⟨T,3,none⟩ x3)∧(w.setCell ⟨T,3,none⟩ x3).cell? ⟨T,3,none⟩=some x3:=by
 obtain ⟨v3,v4,v5,hb⟩:=hb
 have h1:=hb.set 3 x3
 have hc:=Chg.set w ⟨T,3,none⟩ x3
 have k4:(w.setCell ⟨T,3,none⟩ x3).cell? ⟨T,4,none⟩=w.cell? ⟨T,4,none⟩:=by rw [h1.cell 4,hb.cell 4];rfl
 have k5:(w.setCell ⟨T,3,none⟩ x3).cell? ⟨T,5,none⟩=w.cell? ⟨T,5,none⟩:=by rw [h1.cell 5,hb.cell 5];rfl
 have k3:(w.setCell ⟨T,3,none⟩ x3).cell? ⟨T,3,none⟩=some x3:=by rw [h1.cell 3];rfl
 exact⟨⟨hc,fun _=>⟨x3,v4,v5,h1⟩,fun _=>k3,fun h=>h.chg hT hc k4,fun h=>h.chg hT hc k5⟩,k3⟩
theorem SsB.st4 {v:Value}(hb:SsB T ka sa na w) (hT:T < S3) (hv:∃p_ c_,v=.slice p_ ya.length c_∧SL (Fresh S3 w.heap.size) w p_ c_ (stSs ya)):SsR T S3 ka sa na x3 ya ea w (w.setCell ⟨T,4,none⟩ v)∧SsG T S3 4 ya (w.setCell ⟨T,4,none⟩ v):=by
 obtain ⟨v3,v4,v5,hb⟩:=hb
 have h1:=hb.set 4 v
 have hc:=Chg.set w ⟨T,4,none⟩ v
 have k3:(w.setCell ⟨T,4,none⟩ v).cell? ⟨T,3,none⟩=w.cell? ⟨T,3,none⟩:=by rw [h1.cell 3,hb.cell 3];rfl
 have k5:(w.setCell ⟨T,4,none⟩ v).cell? ⟨T,5,none⟩=w.cell? ⟨T,5,none⟩:=by rw [h1.cell 5,hb.cell 5];rfl
 have k4:(w.setCell ⟨T,4,none⟩ v).cell? ⟨T,4,none⟩=some v:=by rw [h1.cell 4];rfl
 have hg:=SsL.mem (T:=T) hv hT hc k4
 exact⟨⟨hc,fun _=>⟨v3,v,v5,h1⟩,fun h=>k3.trans h,fun _=>hg,fun h=>h.chg hT hc k5⟩,hg⟩
theorem SsB.st5 {v:Value}(hb:SsB T ka sa na w) (hT:T < S3) (hv:∃p_ c_,v=.slice p_ ea.length c_∧SL (Fresh S3 w.heap.size) w p_ c_ (stSs ea)):SsR T S3 ka sa na x3 ya ea w (w.setCell ⟨T,5,none⟩ v)∧SsG T S3 5 ea (w.setCell ⟨T,5,none⟩ v):=by
 obtain ⟨v3,v4,v5,hb⟩:=hb
 have h1:=hb.set 5 v
 have hc:=Chg.set w ⟨T,5,none⟩ v
 have k3:(w.setCell ⟨T,5,none⟩ v).cell? ⟨T,3,none⟩=w.cell? ⟨T,3,none⟩:=by rw [h1.cell 3,hb.cell 3];rfl
 have k4:(w.setCell ⟨T,5,none⟩ v).cell? ⟨T,4,none⟩=w.cell? ⟨T,4,none⟩:=by rw [h1.cell 4,hb.cell 4];rfl
 have k5:(w.setCell ⟨T,5,none⟩ v).cell? ⟨T,5,none⟩=some v:=by rw [h1.cell 5];rfl
 have hg:=SsL.mem (T:=T) hv hT hc k5
 exact⟨⟨hc,fun _=>⟨v3,v4,v,h1⟩,fun h=>k3.trans h,fun h=>h.chg hT hc k4,fun _=>hg⟩,hg⟩
theorem SsR.done {x4:List Value}(h:SsR T S3 ka sa na x3 ya ea w w') (hb:SsB T ka sa na w) (hc:w'.cell? ⟨T,3,none⟩=some x3) (h4:SsG T S3 4 ya w') (h5:SsG T S3 5 ea w'):∃p3 c3 p5 c5,Blk T [.int .i64 ka,.string sa,.int .i64 na,x3,.slice p3 ya.length c3,.slice p5 ea.length c5,.int .i64 0] 49 w'∧SL (Fresh S3 w'.heap.size) w' p3 c3 (stSs ya)∧SL (Fresh S3 w'.heap.size) w' p5 c5 (stSs ea):=by
 obtain ⟨v3,v4,v5,hb'⟩:=h.b hb
 obtain ⟨p3,c3,e4,s4⟩:=h4
 obtain ⟨p5,c5,e5,s5⟩:=h5
 have f3:some v3=some x3:=(hb'.cell 3).symm.trans hc
 have f4:some v4=some (.slice p3 ya.length c3):=(hb'.cell 4).symm.trans e4
 have f5:some v5=some (.slice p5 ea.length c5):=(hb'.cell 5).symm.trans e5
 obtain rfl:=Option.some.inj f3
 obtain rfl:=Option.some.inj f4
 obtain rfl:=Option.some.inj f5
 exact⟨p3,c3,p5,c5,hb',s4,s5⟩
end
theorem strips_node {w:World}{S T S3:Nat}{p1 p2 p3 p5:Option Addr}{n1 c1 c2 c3 c5:Nat}{l0:List Sm}{k n q:Int}{s:ByteArray}{ra:List Xp}{ya ea:List Sm}(hz:s.size≤1048576) (hr:∀a,p1=some a→a.block < T) (hS:S≤T) (hT:T < S3) (h1:XL (fun b=>T+1≤b∧b < w.heap.size) w p2 c2 (stXs ra)) (h2:SL (Fresh S3 w.heap.size) w p3 c3 (stSs ya)) (h3:SL (Fresh S3 w.heap.size) w p5 c5 (stSs ea)):SsAt (Aside S w.heap.size p1) w [stS ⟨k,s,n,ra,ya,ea,q⟩] [⟨k,s,n,p2,ra.length,c2,p3,ya.length,c3,p5,ea.length,c5,0⟩]:=by
 have ho:∀b,T < b→Off p1 b:=fun b hb a ha=>by have:=hr a ha;omega
 have h4:=sat1 (k:=k) (n:=n) (q:=0) (s:=s) hz (h1.mono (B':=Aside S w.heap.size p1) fun b hb=>⟨by have:=hb.1;omega,hb.2,ho b (by have:=hb.1;omega)⟩) (h2.mono (B':=Aside S w.heap.size p1) fun b hb=>⟨by have:=hb.1;omega,hb.2,ho b (by have:=hb.1;omega)⟩) (h3.mono (B':=Aside S w.heap.size p1) fun b hb=>⟨by have:=hb.1;omega,hb.2,ho b (by have:=hb.1;omega)⟩)
 rw [stXs_len,stSs_len,stSs_len] at h4
 rw [stS_eq]
 exact h4
theorem enters_ss:Enters Tryz.prog 92:=fun args w=>by go_simp
set_option maxHeartbeats 16000000 in
theorem strips_any:∀(n:Nat) (l:List Sm),nSs l < n→∀(B:Nat→Prop) (w:World) (p:Option Addr) (c:Nat),SL B w p c l→nSs l≤1048576→mSs l≤1048576 →
 Calls Tryz.prog 92 #[.slice p l.length c] w fun e w'=>∃p' c',e=.returned (.slice p' l.length c')∧SL (Fresh w.heap.size w'.heap.size) w' p' c' (stSs l)∧Grew w w':=by
 intro n
 induction n with
 | zero=>intro _ h;exact absurd h (Nat.not_lt_zero _)
 | succ n ih =>
 intro l hln B w p c hx hnS hmS
 have HX:=Lib.hid hx
 have hcap:l.length≤c:=hx.cap.1
 have hmax:=hx.cap.2.1
 have hnl:=nSs_len l
 clear hx
 go_enter Tryz.func92,Tryz.ntmps92
 go_wp2
 obtain ⟨S,hS⟩:∃S,w.heap.size=S:=⟨_,rfl⟩
 have HS0:=Lib.hid hS
 clear hS
 go_loopg [3,5,6,8,11] l.length (fun gg lv v5 v6 v8 iv wr=>∃(j:Nat) (p1:Option Addr) (n1 c1:Nat),lv=.slice p1 n1 c1∧iv=.int .i64 (j:Int)∧j≤l.length∧gg=l.length - j∧Hid (OwN SsAt 7 sdc S (Aside S wr.heap.size p1) wr 49 p1 n1 c1 (stSs (l.take j)))∧Hid (Grew w wr))
 case atStart=>exact⟨0,none,0,0,rfl,rfl,Nat.zero_le _,rfl,Lib.hid (by rw [List.take_zero,stSs];exact OwN.nil hangsS),Lib.hid (Grew.refl _)⟩
 case round =>
  obtain ⟨j,p1,n1,c1,rfl,rfl,hj,rfl,HR,HG⟩:=hrel
  have HGO:=HG
  by_cases hlt:j < l.length
  ·have HN1:Hid (n1≤1048576):=Lib.hid (by have h1:=HR.out.len;rw [stSs_len,List.length_take] at h1;omega)
   obtain ⟨ba,oa,paa,caa,pba,cba,pea,cea,rfl,hba,haa,hboa,hela,hca⟩:=HX.out.get j hlt
   have hma:=List.getElem_mem hlt
   have hna:=nSs_mem hma
   have hta:=List.take_succ_eq_append_getElem hlt
   have HLa:=Lib.hid (Nat.succ_le_of_lt hlt)
   have hm1:=mSs_mem hma
   generalize l[j]=xa at *
   obtain ⟨ka,sa,na,ra,ya,ea,qa⟩:=xa
   replace hba:sa.size≤1048576:=hba.2
   have HTa:=Lib.hid hta
   have HAa:Hid (XL B w paa caa ra):=Lib.hid haa
   have HYa:Hid (SL B w pba cba ya):=Lib.hid hboa
   have HEa:Hid (SL B w pea cea ea):=Lib.hid hela
   have hcapa:ra.length≤caa∧ya.length≤cba∧ea.length≤cea:=⟨haa.cap.1,hboa.cap.1,hela.cap.1⟩
   have hmaxa:=And.intro haa.cap.2.1 (And.intro hboa.cap.2.1 hela.cap.2.1)
   replace hca:∀i_ u_,(sdc ⟨ka,sa,na,paa,ra.length,caa,pba,ya.length,cba,pea,ea.length,cea,qa⟩)[i_]?=some u_→wr.cell? ⟨ba,oa+j * 7+i_,none⟩=some u_:=fun i_ u_ h_=>Atv.kept (hca i_ u_ h_) HG.out
   have ca0:wr.cell? ⟨ba,oa+j * 7,none⟩=some (.int .i64 ka):=by simpa using hca 0 _ rfl
   have ca1:wr.cell? ⟨ba,oa+j * 7+1,none⟩=some (.string sa):=hca 1 _ rfl
   have ca2:wr.cell? ⟨ba,oa+j * 7+2,none⟩=some (.int .i64 na):=hca 2 _ rfl
   have ca3:wr.cell? ⟨ba,oa+j * 7+3,none⟩=some (.slice paa ra.length caa):=hca 3 _ rfl
   have ca4:wr.cell? ⟨ba,oa+j * 7+4,none⟩=some (.slice pba ya.length cba):=hca 4 _ rfl
   have ca5:wr.cell? ⟨ba,oa+j * 7+5,none⟩=some (.slice pea ea.length cea):=hca 5 _ rfl
   have ca6:wr.cell? ⟨ba,oa+j * 7+6,none⟩=some (.int .i64 qa):=hca 6 _ rfl
   clear hca haa hboa hela hta
   have hns:nS ⟨ka,sa,na,ra,ya,ea,qa⟩=nSs ya+nSs ea+1:=rfl
   have hms:mS ⟨ka,sa,na,ra,ya,ea,qa⟩=nXs ra+mSs ya+mSs ea:=rfl
   rw [hns] at hna
   rw [hms] at hm1
   have hra:=nXs_len ra
   have HNS:=Lib.hid (And.intro hna (And.intro hm1 (And.intro hra (And.intro hnS (And.intro hmS hln)))))
   have HIY:=Lib.hid (fun W (hW:Grew w W)=>(show Calls Tryz.prog 92 #[.slice pba ya.length cba] W fun e w'=>∃p' c',e=.returned (.slice p' ya.length c')∧SL (Fresh W.heap.size w'.heap.size) w' p' c' (stSs ya)∧Grew W w' from ih ya (by omega) B W pba cba (HYa.out.kept hW) (by omega) (by omega)))
   have HIE:=Lib.hid (fun W (hW:Grew w W)=>(show Calls Tryz.prog 92 #[.slice pea ea.length cea] W fun e w'=>∃p' c',e=.returned (.slice p' ea.length c')∧SL (Fresh W.heap.size w'.heap.size) w' p' c' (stSs ea)∧Grew W w' from ih ea (by omega) B W pea cea (HEa.out.kept hW) (by omega) (by omega)))
   clear hns hms hna hm1 hra
   go_wp2
   have hb1:Blk wr.heap.size [.int .i64 ka,.string sa,.int .i64 na,.slice paa ra.length caa,.slice pba ya.length cba,.slice pea ea.length cea,.int .i64 0] 49 (wr.alloc (Obj.cells #[.int .i64 ka,.string sa,.int .i64 na,.slice paa ra.length caa,.slice pba ya.length cba,.slice pea ea.length cea,.int .i64 0] 49)):=Blk.new wr _ _
   have hg1:Grew wr (wr.alloc (Obj.cells #[.int .i64 ka,.string sa,.int .i64 na,.slice paa ra.length caa,.slice pba ya.length cba,.slice pea ea.length cea,.int .i64 0] 49)):=(Grew.refl wr).alloc _
   have hs1:(wr.alloc (Obj.cells #[.int .i64 ka,.string sa,.int .i64 na,.slice paa ra.length caa,.slice pba ya.length cba,.slice pea ea.length cea,.int .i64 0] 49)).heap.size=wr.heap.size+1:=by rw [alloc_sz]
   obtain ⟨T,hT⟩:∃T,wr.heap.size=T:=⟨_,rfl⟩
   have HT0:=Lib.hid hT
   rw [hT] at hb1 hs1 ⊢
   clear hT
   generalize (wr.alloc (Obj.cells #[.int .i64 ka,.string sa,.int .i64 na,.slice paa ra.length caa,.slice pba ya.length cba,.slice pea ea.length cea,.int .i64 0] 49))=V at hb1 hg1 hs1 ⊢
   have HB1:=Lib.hid hb1
   have HGV:=Lib.hid hg1
   have HWV:=Lib.hid hs1
   have HGw:=Lib.hid (HG.out.trans hg1)
   clear hb1 hg1 hs1 ca0 ca1 ca2 ca3 ca4 ca5 ca6
   go_loopg [6,8,19] ra.length (fun gg bv v8 iv wr=>∃(i:Nat) (p2:Option Addr) (n2 c2:Nat),bv=.slice p2 n2 c2∧iv=.int .i64 (i:Int)∧i≤ra.length∧gg=ra.length - i∧Hid (OwN XsAt 6 xdc (T+1) (Aside (T+1) wr.heap.size p2) wr 35 p2 n2 c2 (stXs (ra.take i)))∧Hid (Grew V wr))
   case atStart=>exact⟨0,none,0,0,rfl,rfl,Nat.zero_le _,rfl,Lib.hid (by rw [List.take_zero,stXs];exact OwN.nil hangsX),Lib.hid (Grew.refl _)⟩
   case round =>
    obtain ⟨i,p2,n2,c2,rfl,rfl,hi,rfl,HR2,HGq⟩:=hrel
    have HLa2:=HLa
    have HG:=Lib.hid (HGw.out.trans HGq.out)
    by_cases hlt:i < ra.length
    ·have HN2:Hid (n2≤1048576):=Lib.hid (by have h1:=HR2.out.len;have:=HNS.out;rw [stXs_len,List.length_take] at h1;omega)
     obtain ⟨bu,ou,pu,cu,rfl,hbu,hau,hcu⟩:=HAa.out.get i hlt
     have hmu:=List.getElem_mem hlt
     have hnu:=nXs_mem hmu
     have htu:=List.take_succ_eq_append_getElem hlt
     have HLu:=Lib.hid (Nat.succ_le_of_lt hlt)
     generalize ra[i]=xu at *
     obtain ⟨ku,su,vu,o_u,ru,qu⟩:=xu
     replace hbu:su.size≤1048576∧vu≤32767:=hbu.2
     have HTu:=Lib.hid htu
     have HAu:Hid (XL B w pu cu ru):=Lib.hid hau
     have hcapu:ru.length≤cu:=hau.cap.1
     have hmaxu:=hau.cap.2.1
     replace hcu:∀i_ u_,(xdc ⟨ku,su,vu,o_u,pu,ru.length,cu,qu⟩)[i_]?=some u_→wr.cell? ⟨bu,ou+i * 6+i_,none⟩=some u_:=fun i_ u_ h_=>Atv.kept (hcu i_ u_ h_) HG.out
     have cu0:wr.cell? ⟨bu,ou+i * 6,none⟩=some (.int .i64 ku):=by simpa using hcu 0 _ rfl
     have cu1:wr.cell? ⟨bu,ou+i * 6+1,none⟩=some (.string su):=hcu 1 _ rfl
     have cu2:wr.cell? ⟨bu,ou+i * 6+2,none⟩=some (.int .i16 vu):=hcu 2 _ rfl
     have cu3:wr.cell? ⟨bu,ou+i * 6+3,none⟩=some (.int .i64 o_u):=hcu 3 _ rfl
     have cu4:wr.cell? ⟨bu,ou+i * 6+4,none⟩=some (.slice pu ru.length cu):=hcu 4 _ rfl
     have cu5:wr.cell? ⟨bu,ou+i * 6+5,none⟩=some (.int .i64 qu):=hcu 5 _ rfl
     clear hcu hau htu
     have HIX:=Lib.hid (fun W (hW:Grew w W)=>(show Calls Tryz.prog 132 #[xv ku su vu o_u pu ru.length cu qu] W fun e w'=>∃p' c',e=.returned (xv ku su vu o_u p' ru.length c' 0)∧XL (Fresh W.heap.size w'.heap.size) w' p' c' (stXs ru)∧Grew W w' from strip_any ⟨ku,su,vu,o_u,ru,qu⟩ B W pu cu hbu (HAu.out.kept hW) (by have:=HNS.out;omega)))
     clear hmu hnu
     go_wp2_with (first
      | (go_at_call 132;(with_reducible refine(HIX.out _ (HG.out.alloc _)).mono ?_);rintro e_ w2 ⟨p3,c3,rfl,hx2,g2⟩;have HX2:=Lib.hid hx2;have HQ2:=Lib.hid g2;clear hx2 g2)
      | (at_builtin;refine wpList_append_own hangsX rfl _ _ 33 rfl (T+1) 35 zX 72 Tryz.underlying33 infoX rfl p2 n2 c2 (stXs (ra.take i)) rfl (B:=Aside (T+1) w2.heap.size p2) (strips_own HR2.out HQ2.out) _ 1 1 [stX ⟨ku,su,vu,o_u,ru,qu⟩] rfl (InN.made hangsX _ _ _ _ _ _ _ (strips_at HR2.out (by have h2:=HGq.out.sz;have h3:=HWV.out;omega) HX2.out hbu) rfl rfl) (fun b hb=>hb.2.2) (by have:=HN2.out;omega) (by have:=HN2.out;omega) (by have h1:=HQ2.out.sz;have h2:=HGq.out.sz;have h3:=HWV.out;rw [alloc_sz] at h1 ⊢;omega) ?_;intro p4 c4 w3 ho3 hp3;have HO3:=Lib.hid ho3;have HP3:=Lib.hid hp3;clear ho3 hp3))
     have HG3:Hid (Grew V w3):=Lib.hid (Below.trans (((HGq.out.alloc _).trans HQ2.out).alloc _) (HWV.out ▸ HP3.out.below))
     go_roundg (ra.length - (i+1))
     case measure=>have:=HLu.out;omega
     case rel=>exact⟨i+1,p4,n2+1,c4,rfl,by go_num,HLu.out,rfl,Lib.hid (by
      rw [stXs_snoc HTu.out]
      refine HO3.out.mono hangsX fun b hb=>?_
      have h1:b < (w2.alloc (Obj.cells #[.int .i64 ku,.string su,.int .i16 vu,.int .i64 o_u,.slice p3 ru.length c3,.int .i64 0] 35)).heap.size:=by rw [alloc_sz];have:=hb.2.1;omega
      exact⟨hb.1,Nat.lt_of_lt_of_le h1 HP3.out.below.size,HP3.out.off h1 hb.2.2⟩),HG3⟩
    ·obtain rfl:i=ra.length:=by omega
     rw [List.take_length] at HR2
     have hn2:n2=ra.length:=by have h1:=HR2.out.len;rwa [stXs_len] at h1
     subst hn2
     have HG3:=Lib.hid HG.out
     go_upto_region 12 with fail
     have HBq:=Lib.hid (HB1.out.grew (HGq.out.trans (Grew.refl wr).drw))
     have d4:Atv ⟨T,4,none⟩ (.slice pba ya.length cba) wr.drew:=HBq.out.atv 4 rfl
     have d5:Atv ⟨T,5,none⟩ (.slice pea ea.length cea) wr.drew:=HBq.out.atv 5 rfl
     have HG4:∀W,Grew wr.drew W→Grew w W:=fun W h=>HG3.out.trans ((Grew.refl wr).drw.trans h)
     have HSB:Hid (SsB T ka sa na wr.drew):=Lib.hid ⟨_,_,_,HBq.out⟩
     have HTS:Hid (T < wr.drew.heap.size):=Lib.hid HBq.out.lt
     refine wp_postsV (fun i=>Nat.beq i 8||(Nat.beq i 10||Nat.beq i 12)) (fun i=>Nat.blt i 7) (SsR T wr.drew.heap.size ka sa na (.slice p2 ra.length c2) ya ea) Grew Grew.refl Grew.trans SsR.of_grew SsR.trans [some 29,some 30,some 31,some 32,some 33,some 34,some 35,some 36,none,some 37,none,some 38,none] [Zf,Zf,Zf,Zf,Zf,Zf,Zf,Zf,Zf,Zf,Zf,Zf,Zf,Zf,Zf,Zf,Zf,Zf,Zf,Zf,Zf,Zf,Zf,Zf,Zf,Zf,Zf,Zf,Zf,Zt,Zt,Zt,Zt,Zt,Zt,Zt,Zt,Zt,Zt,Zf,Zf,Zf,Zf,Zf,Zf] (postAt [fun v _=>v=.slice p2 ra.length c2,fun v _=>v=.pointer (some ⟨T,4,none⟩),fun v _=>v=.slice pba ya.length cba,fun v w=>∃p_ c_,v=.slice p_ ya.length c_∧SL (Fresh wr.drew.heap.size w.heap.size) w p_ c_ (stSs ya),fun v _=>v=.pointer (some ⟨T,5,none⟩),fun v _=>v=.slice pea ea.length cea,fun v w=>∃p_ c_,v=.slice p_ ea.length c_∧SL (Fresh wr.drew.heap.size w.heap.size) w p_ c_ (stSs ea),fun v _=>v=.pointer (some ⟨T,3,none⟩),fun _ w=>w.cell? ⟨T,3,none⟩=some (.slice p2 ra.length c2),fun v _=>v=.pointer (some ⟨T,4,none⟩),fun _ w=>SsG T wr.drew.heap.size 4 ya w,fun v _=>v=.pointer (some ⟨T,5,none⟩),fun _ w=>SsG T wr.drew.heap.size 5 ea w]) (by kernel_rfl) (by kernel_rfl) (by kernel_rfl) rfl ?_ ⟨?_,?_,?_,?_,?_,?_,?_,?_,?_,?_,?_,?_,?_,trivial⟩ ?_
     ·exact MonosR.at (R:=(SsR T wr.drew.heap.size ka sa na (.slice p2 ra.length c2) ya ea)) ⟨Zi,Zi,Zi,fun _ _ _ hg ⟨p_,c_,h1,h2⟩=>⟨p_,c_,h1,(h2.chg hg.ch (fun b hb e=>by have h1:=hb.1;have h2:=HTS.out;omega)).mono fun b hb=>⟨hb.1,Nat.lt_of_lt_of_le hb.2 hg.ch.size⟩⟩,Zi,Zi,fun _ _ _ hg ⟨p_,c_,h1,h2⟩=>⟨p_,c_,h1,(h2.chg hg.ch (fun b hb e=>by have h1:=hb.1;have h2:=HTS.out;omega)).mono fun b hb=>⟨hb.1,Nat.lt_of_lt_of_le hb.2 hg.ch.size⟩⟩,Zi,fun _ _ _ hg h=>hg.c h,Zi,fun _ _ _ hg h=>hg.g4 h,Zi,fun _ _ _ hg h=>hg.g5 h,trivial⟩
     ·intro u w hR he hd;exact runs_mv (ev rfl) Zr
     ·intro u w hR he hd;exact rn_fld_49_4 (ev rfl) Zr
     ·intro u w hR he hd;exact rn_ld_40 (ev (hd.1 rfl)) (d4.kept (he rfl)) Zr
     ·intro u w hR he hd;exact runs_c1 enters_ss (ev (hd.1 rfl)) ((HIY.out _ (HG4 _ (he rfl))).mono fun e w9 ⟨p9,c9,h1,h2,h3⟩=>⟨_,h1,h3,p9,c9,rfl,h2.mono fun b hb=>⟨Nat.le_trans (he rfl).sz hb.1,hb.2⟩⟩)
     ·intro u w hR he hd;exact rn_fld_49_5 (ev rfl) Zr
     ·intro u w hR he hd;exact rn_ld_40 (ev (hd.1 rfl)) (d5.kept (he rfl)) Zr
     ·intro u w hR he hd;exact runs_c1 enters_ss (ev (hd.1 rfl)) ((HIE.out _ (HG4 _ (he rfl))).mono fun e w9 ⟨p9,c9,h1,h2,h3⟩=>⟨_,h1,h3,p9,c9,rfl,h2.mono fun b hb=>⟨Nat.le_trans (he rfl).sz hb.1,hb.2⟩⟩)
     ·intro u w hR he hd;exact rn_fld_49_3 (ev rfl) Zr
     ·intro u w hR he hd
      have hb0:SsB T ka sa na w:=hR.b HSB.out
      obtain ⟨v3,v4,v5,hbb⟩:=hb0
      exact rn_st_33 (ev (hd.1 rfl)) (ev (hd.2.1 rfl)) (hbb.cell 3) (hbb.free 3) (SsB.st3 ⟨v3,v4,v5,hbb⟩ HTS.out)
     ·intro u w hR he hd;exact rn_fld_49_4 (ev rfl) Zr
     ·intro u w hR he hd
      have hb0:SsB T ka sa na w:=hR.b HSB.out
      obtain ⟨v3,v4,v5,hbb⟩:=hb0
      have h3:=hd.2.1 rfl
      obtain ⟨p_,c_,hv,hs⟩:=id h3
      exact rn_st_40 (ev (hd.1 rfl)) (ev hv) (hbb.cell 4) (hbb.free 4) (SsB.st4 ⟨v3,v4,v5,hbb⟩ HTS.out ⟨p_,c_,rfl,hs⟩)
     ·intro u w hR he hd;exact rn_fld_49_5 (ev rfl) Zr
     ·intro u w hR he hd
      have hb0:SsB T ka sa na w:=hR.b HSB.out
      obtain ⟨v3,v4,v5,hbb⟩:=hb0
      have h3:=hd.2.1 rfl
      obtain ⟨p_,c_,hv,hs⟩:=id h3
      exact rn_st_40 (ev (hd.1 rfl)) (ev hv) (hbb.cell 5) (hbb.free 5) (SsB.st5 ⟨v3,v4,v5,hbb⟩ HTS.out ⟨p_,c_,rfl,hs⟩)
     ·intro u w4 hR hh
      have h8:w4.cell? ⟨T,3,none⟩=some (.slice p2 ra.length c2):=hh 8 (by decide)
      have h10:SsG T wr.drew.heap.size 4 ya w4:=hh 10 (by decide)
      have h12:SsG T wr.drew.heap.size 5 ea w4:=hh 12 (by decide)
      obtain ⟨p3,c3,p5,c5,hb4,hl4,hl5⟩:=hR.done (x4:=[]) HSB.out h8 h10 h12
      have hch:=hR.ch
      have HRW:=Lib.hid (strips_row HR.out HT0.out (HGV.out.trans (HGq.out.trans (Grew.refl wr).drw)) hch)
      have HAT:=Lib.hid (strips_node (S:=S) (T:=T) (p1:=p1) (n1:=n1) (c1:=c1) (l0:=[]) (k:=ka) (n:=na) (q:=qa) hba (fun a ha=>HT0.out ▸ (HR.out.place hangsS a ha).2) (by have h1:=HG.out.sz;have h2:=HS0.out;have h3:=HT0.out;have h4:=HGO.out.sz;omega) HTS.out (strips_args HR2.out (Grew.refl wr).drw hch) hl4 hl5)
      have HG5:Hid (Grew w w4):=Lib.hid (grew_lift (HG.out.trans (Grew.refl wr).drw) hch (fun k hk=>by have h2:=HS0.out;have h3:=HT0.out;have h4:=HGO.out.sz;omega))
      have t0:=hb4.cell 0
      have t1:=hb4.cell 1
      have t2:=hb4.cell 2
      have t3:=hb4.cell 3
      have t4:=hb4.cell 4
      have t5:=hb4.cell 5
      have t6:=hb4.cell 6
      simp only [zz7,zz8] at t0 t1 t2 t3 t4 t5 t6
      have hk2:=(HR2.out.inN hangsX).cap hangsX
      have hk4:=hl4.cap
      have hk5:=hl5.cap
      rw [stSs_len] at hk4 hk5
      clear hh hR h8 h10 h12 hb4 hl4 hl5 hch
      simp only [mixA,mixL,zz9,zz0]
      go_wp2_with (at_builtin;refine wpList_append_own hangsS rfl _ _ 40 rfl S 49 zS 112 Tryz.underlying40 infoS rfl p1 n1 c1 (stSs (l.take j)) rfl (B:=Aside S w4.heap.size p1) (HRW.out.kept hangsS ((Grew.refl w4).alloc _)) _ 1 1 [stS ⟨ka,sa,na,ra,ya,ea,qa⟩] rfl (InN.made hangsS _ _ _ _ _ _ _ HAT.out rfl rfl) (fun b hb=>hb.2.2) (by have:=HN1.out;omega) (by have:=HN1.out;omega) (by have h2:=HS0.out;have h3:=HG5.out.sz;rw [alloc_sz];omega) ?_;intro p6 c6 w6 ho3 hp3;have HO3:=Lib.hid ho3;have HP3:=Lib.hid hp3;clear ho3 hp3)
      have HG6:Hid (Grew w w6):=Lib.hid (Below.trans (HG5.out.alloc _) (HS0.out.symm ▸ HP3.out.below))
      go_roundg (l.length - (j+1))
      case measure=>have:=HLa2.out;omega
      case rel=>exact⟨j+1,p6,n1+1,c6,rfl,by go_num,HLa2.out,rfl,Lib.hid (by
       rw [stSs_snoc HTa.out]
       refine HO3.out.mono hangsS fun b hb=>?_
       have h1:b < (w4.alloc (Obj.cells #[.int .i64 ka,.string sa,.int .i64 na,.slice p2 ra.length c2,.slice p3 ya.length c3,.slice p5 ea.length c5,.int .i64 0] 49)).heap.size:=by rw [alloc_sz];have:=hb.2.1;omega
       exact⟨hb.1,Nat.lt_of_lt_of_le h1 HP3.out.below.size,HP3.out.off h1 hb.2.2⟩),HG6⟩
  ·obtain rfl:j=l.length:=by omega
   rw [List.take_length] at HR
   have hn1:n1=l.length:=by have h1:=HR.out.len;rwa [stSs_len] at h1
   subst hn1
   have HDN:=Lib.hid (strips_done HR.out HS0.out)
   have hcp:=HDN.out.cap
   rw [stSs_len] at hcp
   go_wp2
   go_ret
   exact⟨p1,c1,rfl,HDN.out,HG.out⟩
end Go.Proofs.YtcknpcbkofgdoaaGreatDoor
namespace Go.Proofs.YtcknpcbkofgdoaaGreatDoor
open Go
open Go.Lib (decDigits)
set_option linter.unusedSimpArgs false
set_option linter.unusedVariables false
set_option maxRecDepth 8000
def HN (p:UInt8→Bool):List UInt8→Bool
 | []=>true
 | c :: _=>!p c
def one (c:UInt8):Bool:=[40,41,91,93,59,123,125,45].contains c
theorem o15 {o:Int}(h:3≤o∧o≤15):o=3∨o=4∨o=5∨o=6∨o=7∨o=8∨o=9∨o=10∨o=11∨o=12∨o=13∨o=14∨o=15:=by omega
def opdK (least k o:Int) (t:List (List UInt8)):List (List UInt8):=if lvX k o < least then [40] :: (t++[[41]]) else t
def asmK (k:Int) (s:ByteArray) (v o:Int) (hs:List (Int × Int)) (ts:List (List (List UInt8))):List (List UInt8) :=
 if k=1 then [numZ v] else if k=3 then s.data.toList :: [91] :: (ts.getD 0 []++[[93]]) else if k=4 then [[114,101,97,100],[40],s.data.toList,[41]]
 else if k=5 then sgT o :: opdK 6 (hs.getD 0 (0,0)).1 (hs.getD 0 (0,0)).2 (ts.getD 0 [])
 else if k=6 then opdK (lfT o) (hs.getD 0 (0,0)).1 (hs.getD 0 (0,0)).2 (ts.getD 0 [])++sgT o :: opdK (lvT o+1) (hs.getD 1 (0,0)).1 (hs.getD 1 (0,0)).2 (ts.getD 1 [])
 else [s.data.toList]
mutual
def tkX:Xp→List (List UInt8)
 | ⟨k,s,v,o,ar,_⟩=>asmK k s v o (ar.map fun a=>(a.k,a.o)) (tkXs ar)
def tkXs:List Xp→List (List (List UInt8))
 | []=>[]
 | x :: xs=>tkX x :: tkXs xs
end
def agK (ar:List Xp) (i:Nat):List (List UInt8):=(tkXs ar).getD i []
theorem ag0 (a:Xp) (l:List Xp):agT (a :: l) 0=txX a∧agK (a :: l) 0=tkX a:=by
 rw [agT,agK,txXs,tkXs];exact⟨rfl,rfl⟩
theorem ag1 (a b:Xp) (l:List Xp):agT (a :: b :: l) 1=txX b∧agK (a :: b :: l) 1=tkX b:=by
 rw [agT,agK,txXs,tkXs,txXs,tkXs];exact⟨rfl,rfl⟩
theorem ok1 {a:Xp}{l:List Xp}(h:okXs (a :: l)=true):okX a=true:=by rw [okXs,Bool.and_eq_true] at h;exact h.1
theorem ok2 {a b:Xp}{l:List Xp}(h:okXs (a :: b :: l)=true):okX b=true:=by rw [okXs,okXs,Bool.and_eq_true,Bool.and_eq_true] at h;exact h.2.1
end Go.Proofs.YtcknpcbkofgdoaaGreatDoor
namespace Go.Proofs.YtcknpcbkofgdoaaGreatDoor
open Go
open Go.Lib (decDigits)
set_option linter.unusedSimpArgs false
set_option linter.unusedVariables false
set_option maxRecDepth 8000
def okN (t:List UInt8):Bool:=decide (dval 0 t≤32767)&&!(decide (1 < t.length)&&t.head?==some 48)
def kdT (t:List UInt8):Int:=match t with
 | []=>5
 | c :: r=>if ltr c=true then (if kwT.contains (c :: r)=true then 3 else if (c :: r).length≤32 then 1 else 5) else if dig c=true then (if okN (c :: r)=true then 2 else 5) else if mkl (c :: r)=0 then 5 else 4
structure Kz (T:Type) where
 tx:T→List UInt8
 kn:T→Int
 vl:T→Int
 ps:T→Int
structure Kz.Good {T:Type}(Z:Kz T):Prop where
 kn:∀t,Z.kn t=kdT (Z.tx t)
 vl:∀t,Z.kn t=2→Z.vl t=(dval 0 (Z.tx t):Nat)
abbrev Ro (T α:Type):=Except (List T) (α × List T)
def bd {T α β:Type}(x:Ro T α) (f:α→List T→Ro T β):Ro T β:=match x with
 | .ok (a,r)=>f a r
 | .error e=>.error e
def opF (u:List UInt8):Option Int:=([3,4,5,6,7,8,9,10,11,12,13,14,15]:List Int).find? (fun o=>sgT o==u)
def Ev {α:Type}(f:Nat→α) (v:α):Prop:=∃n,∀m,n≤m→f m=v
section
variable {α β T:Type}
theorem Ev.pure (v:α):Ev (fun _=>v) v:=⟨0,fun _ _=>rfl⟩
theorem Ev.one {f:Nat→α}{v v':α}(h:Ev f v) (h':Ev f v'):v=v':=by
 obtain ⟨n,h⟩:=h
 obtain ⟨n',h'⟩:=h'
 rw [← h (n+n') (by omega),h' (n+n') (by omega)]
theorem Ev.succ {f g:Nat→α}{v:α}(e:∀m,f (m+1)=g m) (h:Ev g v):Ev f v:=by
 obtain ⟨n,h⟩:=h
 refine⟨n+1,fun m hm=>?_⟩
 obtain ⟨k,rfl⟩:∃k,m=k+1:=⟨m - 1,by omega⟩
 rw [e,h k (by omega)]
theorem Ev.pred {f g:Nat→α}{v:α}(e:∀m,f (m+1)=g m) (h:Ev f v):Ev g v:=by
 obtain ⟨n,h⟩:=h
 exact⟨n,fun m hm=>by rw [← e,h (m+1) (by omega)]⟩
theorem Ev.bd {g:Nat→Ro T α}{k:Nat→α→List T→Ro T β}{a:α}{r:List T}{v:Ro T β}(h:Ev g (.ok (a,r))) (h':Ev (fun m=>k m a r) v):Ev (fun m=>Go.Proofs.YtcknpcbkofgdoaaGreatDoor.bd (g m) (k m)) v:=by
 obtain ⟨n,h⟩:=h
 obtain ⟨n',h'⟩:=h'
 refine⟨n+n',fun m hm=>?_⟩
 show Go.Proofs.YtcknpcbkofgdoaaGreatDoor.bd (g m) (k m)=v
 rw [h m (by omega)]
 exact h' m (by omega)
theorem Ev.congr {f g:Nat→α}{v:α}(e:∀m,f m=g m) (h:Ev g v):Ev f v:=by
 obtain ⟨n,h⟩:=h
 exact⟨n,fun m hm=>by rw [e,h m hm]⟩
end
section
variable {T:Type}(Z:Kz T)
def isT (u:List UInt8):List T→Bool
 | t :: _=>Z.tx t==u
 | []=>false
def tkT (u:List UInt8):List T→Ro T T
 | t :: r=>if Z.tx t=u then .ok (t,r) else .error (t :: r)
 | []=>.error []
def idT:List T→Ro T T
 | t :: r=>if Z.kn t=1 then .ok (t,r) else .error (t :: r)
 | []=>.error []
abbrev nmT (t:T):ByteArray:=⟨(Z.tx t).toArray⟩
inductive Md where
 | prim
 | unar
 | expr (l:Int)
 | loop (l:Int) (x:Xp)
def rd:Nat→Md→List T→Ro T Xp
 | 0,_,ts=>.error ts
 | _+1,.prim,[]=>.error []
 | n+1,.prim,t :: r =>
   if Z.kn t=2 then .ok (⟨1,⟨#[]⟩,Z.vl t,0,[],Z.ps t⟩,r)
   else if Z.kn t=1 then
    (if isT Z [91] r=true then bd (tkT Z [91] r) fun _ r=>bd (rd n (.expr 1) r) fun x r=>bd (tkT Z [93] r) fun _ r=>.ok (⟨3,nmT Z t,0,0,[x],Z.ps t⟩,r)
    else .ok (⟨2,nmT Z t,0,0,[],Z.ps t⟩,r))
   else if Z.tx t=[114,101,97,100] then bd (tkT Z [40] r) fun _ r=>bd (idT Z r) fun s r=>bd (tkT Z [41] r) fun _ r=>.ok (⟨4,nmT Z s,0,0,[],Z.ps t⟩,r)
   else bd (tkT Z [40] (t :: r)) fun _ r=>bd (rd n (.expr 1) r) fun x r=>bd (tkT Z [41] r) fun _ r=>.ok (x,r)
 | _+1,.unar,[]=>.error []
 | n+1,.unar,t :: r =>
   if Z.tx t=[45] then bd (rd n .unar r) fun x r=>.ok (⟨5,⟨#[]⟩,0,1,[x],Z.ps t⟩,r)
   else if Z.tx t=[33] then bd (rd n .unar r) fun x r=>.ok (⟨5,⟨#[]⟩,0,2,[x],Z.ps t⟩,r)
   else rd n .prim (t :: r)
 | n+1,.expr l,ts=>if 5 < l then rd n .unar ts else bd (rd n (.expr (l+1)) ts) fun x r=>rd n (.loop l x) r
 | _+1,.loop _ x,[]=>.ok (x,[])
 | n+1,.loop l x,t :: r=>match opF (Z.tx t) with
   | none=>.ok (x,t :: r)
   | some o=>if lvT o=l then bd (rd n (.expr (l+1)) r) fun y r=>(if l=3 then .ok (⟨6,⟨#[]⟩,0,o,[x,y],Z.ps t⟩,r) else rd n (.loop l ⟨6,⟨#[]⟩,0,o,[x,y],Z.ps t⟩) r) else .ok (x,t :: r)
def Fo (l:Int) (r:List T):Prop:=∀t r',r=t :: r'→Z.tx t≠[91]∧∀o,opF (Z.tx t)=some o→lvT o < l∨(lvT o=l∧l≠3)
def Es (ts:List T) (x:Xp) (l:Int):Prop:=∀r v,Fo Z l r→Ev (fun n=>rd Z n (.loop l x) r) v→Ev (fun n=>rd Z n (.expr l) (ts++r)) v
variable {Z}
theorem opF_lv {u:List UInt8}{o:Int}(h:opF u=some o):3≤o∧o≤15∧1≤lvT o∧lvT o≤5:=by
 have h1:=List.mem_of_find?_eq_some h
 have h2:∀o ∈ ([3,4,5,6,7,8,9,10,11,12,13,14,15]:List Int),3≤o∧o≤15∧1≤lvT o∧lvT o≤5:=by decide
 exact h2 o h1
theorem opF_sg {o:Int}(h:3≤o∧o≤15):opF (sgT o)=some o∧sgT o≠[91]:=by
 rcases o15 h with rfl | rfl | rfl | rfl | rfl | rfl | rfl | rfl | rfl | rfl | rfl | rfl | rfl <;> decide
theorem Fo.up {l m:Int}{r:List T}(h:Fo Z l r) (hm:l < m):Fo Z m r:=fun t r' e=>⟨(h t r' e).1,fun o ho=>by have:=(h t r' e).2 o ho;omega⟩
theorem Fo.of {l:Int}{t:T}{r:List T}(h:Z.tx t≠[91]) (ho:opF (Z.tx t)=none):Fo Z l (t :: r):=fun t' r' e=>by
 obtain ⟨rfl,rfl⟩:=List.cons.inj e
 exact⟨h,fun o h'=>by rw [ho] at h';cases h'⟩
theorem loop_ok {l:Int}{x:Xp}{r:List T}(h:∀t r',r=t :: r'→∀o,opF (Z.tx t)=some o→lvT o≠l):Ev (fun n=>rd Z n (.loop l x) r) (.ok (x,r)):=by
 refine Ev.succ (g:=fun _=>.ok (x,r)) (fun m=>?_) (Ev.pure _)
 match r,h with
 | [],_=>rw [rd]
 | t :: r,h =>
   rw [rd]
   cases ho:opF (Z.tx t) with
   | none=>rfl
   | some o =>
     show (if lvT o=l then _ else _)=_
     rw [if_neg (h t r rfl o ho)]
theorem Fo.stop {l m:Int}{x:Xp}{r:List T}(h:Fo Z l r) (hm:l < m):Ev (fun n=>rd Z n (.loop m x) r) (.ok (x,r)):=loop_ok fun t r' e o ho=>by have:=(h t r' e).2 o ho;omega
theorem loop6 {x:Xp}{r:List T}:Ev (fun n=>rd Z n (.loop 6 x) r) (.ok (x,r)):=loop_ok fun t r' e o ho=>by have:=opF_lv ho;omega
theorem Es.down {ts:List T}{x:Xp}{L:Int}(h:Es Z ts x L) (hL:L≤6):∀(d:Nat) (l:Int),l+d=L→Es Z ts x l:=by
 intro d
 induction d with
 | zero =>
   intro l hl
   obtain rfl:l=L:=by omega
   exact h
 | succ d ih =>
   intro l hl r v hf hv
   have h1:=ih (l+1) (by omega) r (.ok (x,r)) (hf.up (by omega)) (hf.stop (by omega))
   refine Ev.succ (g:=fun m=>bd (rd Z m (.expr (l+1)) (ts++r)) fun x r=>rd Z m (.loop l x) r) (fun m=>by rw [rd,if_neg (by omega)]) (Ev.bd h1 hv)
theorem Es.at {ts:List T}{x:Xp}{L l:Int}(h:Es Z ts x L) (hL:L≤6) (hl:l≤L):Es Z ts x l:=h.down hL (L - l).toNat l (by omega)
theorem Es.unar {ts:List T}{x:Xp}(h:Es Z ts x 6){r:List T}(hf:Fo Z 6 r):Ev (fun n=>rd Z n .unar (ts++r)) (.ok (x,r)) :=
 Ev.pred (f:=fun n=>rd Z n (.expr 6) (ts++r)) (fun m=>by rw [rd,if_pos (by omega)]) (h r _ hf loop6)
theorem Es.whole {ts:List T}{x:Xp}(h:Es Z ts x 1){t:T}{r:List T}(h1:Z.tx t≠[91]) (ho:opF (Z.tx t)=none):Ev (fun n=>rd Z n (.expr 1) (ts++t :: r)) (.ok (x,t :: r)) :=
 h (t :: r) _ (Fo.of h1 ho) (loop_ok fun t' r' e o ho'=>by
  obtain ⟨rfl,rfl⟩:=List.cons.inj e
  rw [ho] at ho';cases ho')
variable (hZ:Z.Good)
include hZ
omit hZ in
end
end Go.Proofs.YtcknpcbkofgdoaaGreatDoor
