/-
  CANONICAL TEXTS: expressions (layer 16).
  WHAT IS WELL-FORMED: statements (layer 16).
  LISTS OF NODES OF THE CALL's OWN (any program): a row that the call has made, whose elements are nodes of trees; append to it. Nothing of one program stands here.
  THE REFERENCE OF LAYER 16: all expressions of an expression (Sub).
  THE REFERENCE OF LAYER 16: all statements (Stmts).
  THE REFERENCE OF LAYER 16: all expressions of statements (Exprs).
  THE REFERENCE OF LAYER 16: depths, sizes, what is small.
  THE REFERENCE OF LAYER 16: depthStmts.
  PROGRAMS IN MEMORY; how large they are.
  THE REFERENCE OF LAYER 16: Size.
  THE REFERENCE OF LAYER 16: Depth, Small.
  THE REFERENCE OF LAYER 16: Keywords, Ident, number.
  THE REFERENCE OF LAYER 16: bare, arity, ExprOK.
  THE REFERENCE OF LAYER 16: ExprOK.
  THE REFERENCE OF LAYER 16: shape.
-/
import Derived.Test.YtcknpcbkofgdoaaGreatDoorZbShort
import Derived.Test.YtcknpcbkofgdoaaGreatDoorZb00
import Derived.Deep.LoopGhost
import Derived.Deep.Cut
import Derived.Test.YtcknpcbkofgdoaaGreatDoorProg
namespace Go.Proofs.YtcknpcbkofgdoaaGreatDoor
open Go Go.RowKit Go.IntWalk
set_option linter.unusedSimpArgs false
set_option linter.unusedVariables false
set_option maxRecDepth 8000
theorem kx6' (k:Int):k=1∨k=2∨k=3∨k=4∨k=5∨k=6∨(k≠1∧k≠2∧k≠3∧k≠4∧k≠5∧k≠6):=by omega
open Go.Lib (decDigits)
def numZ (z:Int):List UInt8:=if z < 0 then 45 :: decDigits (-z).toNat else decDigits z.toNat
def sgL:List (List UInt8):=[[],[45],[33],[43],[45],[42],[47],[37],[61,61],[33,61],[60],[60,61],[62],[62,61],[38,38],[124,124]]
def lvL:List Int:=[0,0,0,4,4,5,5,5,3,3,3,3,3,3,2,1]
def sgT (o:Int):List UInt8:=sgL.getD o.toNat []
def lvT (o:Int):Int:=lvL.getD o.toNat 0
def lvX (k o:Int):Int:=if k=5 then 6 else if k=6 then lvT o else 7
def lfT (o:Int):Int:=if lvT o=3 then 4 else lvT o
def opd (least k o:Int) (t:List UInt8):List UInt8:=if lvX k o < least then 40 :: (t++[41]) else t
def asm (k:Int) (s:ByteArray) (v o:Int) (hs:List (Int × Int)) (ts:List (List UInt8)):List UInt8 :=
 if k=1 then numZ v else if k=3 then (s.data.toList++[91])++ts.getD 0 []++[93] else if k=4 then ([114,101,97,100,40]++s.data.toList)++[41]
 else if k=5 then sgT o++opd 6 (hs.getD 0 (0,0)).1 (hs.getD 0 (0,0)).2 (ts.getD 0 [])
 else if k=6 then ((((opd (lfT o) (hs.getD 0 (0,0)).1 (hs.getD 0 (0,0)).2 (ts.getD 0 []))++[32])++sgT o)++[32])++opd (lvT o+1) (hs.getD 1 (0,0)).1 (hs.getD 1 (0,0)).2 (ts.getD 1 [])
 else s.data.toList
mutual
def txX:Xp→List UInt8
 | ⟨k,s,v,o,ar,_⟩=>asm k s v o (ar.map fun a=>(a.k,a.o)) (txXs ar)
def txXs:List Xp→List (List UInt8)
 | []=>[]
 | x :: xs=>txX x :: txXs xs
end
theorem tx1 (s:ByteArray) (v o q:Int) (ar:List Xp):txX ⟨1,s,v,o,ar,q⟩=numZ v:=by rw [txX];rfl
theorem tx2 (s:ByteArray) (v o q:Int) (ar:List Xp):txX ⟨2,s,v,o,ar,q⟩=s.data.toList:=by rw [txX];rfl
theorem tx3 (s:ByteArray) (v o q:Int) (a:Xp):txX ⟨3,s,v,o,[a],q⟩=(s.data.toList++[91])++txX a++[93]:=by rw [txX,txXs,txXs];rfl
theorem tx4 (s:ByteArray) (v o q:Int) (ar:List Xp):txX ⟨4,s,v,o,ar,q⟩=([114,101,97,100,40]++s.data.toList)++[41]:=by rw [txX];rfl
theorem tx5 (s:ByteArray) (v o q:Int) (a:Xp):txX ⟨5,s,v,o,[a],q⟩=sgT o++opd 6 a.k a.o (txX a):=by rw [txX,txXs,txXs];rfl
theorem tx6 (s:ByteArray) (v o q:Int) (a b:Xp):txX ⟨6,s,v,o,[a,b],q⟩=((((opd (lfT o) a.k a.o (txX a))++[32])++sgT o)++[32])++opd (lvT o+1) b.k b.o (txX b):=by rw [txX,txXs,txXs,txXs];rfl
theorem len2 {α:Type}:∀{l:List α},l.length=2→∃a b,l=[a,b]
 | [a,b],_=>⟨a,b,rfl⟩
theorem ok_cases {k v o q:Int}{s:ByteArray}{ar:List Xp}(h:okX ⟨k,s,v,o,ar,q⟩=true) :
 (k=1∧ar=[]∧s=⟨#[]⟩∧o=0∧0≤v)∨((k=2∨k=4)∧ar=[]∧v=0∧o=0∧idn s=true)∨(k=3∧∃a,ar=[a]∧v=0∧o=0∧idn s=true∧okX a=true) ∨
 (k=5∧∃a,ar=[a]∧s=⟨#[]⟩∧v=0∧(o=1∨o=2)∧okX a=true)∨(k=6∧∃a b,ar=[a,b]∧s=⟨#[]⟩∧v=0∧(3≤o∧o≤15)∧okX a=true∧okX b=true):=by
 rw [okX,Bool.and_eq_true,Bool.and_eq_true] at h
 obtain ⟨h1,h2,h3⟩:=h
 rw [hdX,Bool.not_eq_true',Bool.or_eq_false_iff,Bool.or_eq_false_iff,Bool.or_eq_false_iff] at h1
 obtain ⟨⟨⟨h4,h5⟩,h6⟩,h7⟩:=h1
 replace h4:(ar.length:Int)=arK k:=by simpa using h4
 replace h5:s=bnS k s:=by simpa using h5
 replace h6:v=bnV k v:=by simpa using h6
 replace h7:o=bnO k o:=by simpa using h7
 rcases kx6' k with rfl | rfl | rfl | rfl | rfl | rfl | ⟨n1,n2,n3,n4,n5,n6⟩
 ·exact .inl ⟨rfl,List.eq_nil_of_length_eq_zero (by have:arK 1=0:=rfl;omega),h5,h7,by simpa [kdX] using h3⟩
 ·exact .inr (.inl ⟨.inl rfl,List.eq_nil_of_length_eq_zero (by have:arK 2=0:=rfl;omega),h6,h7,h3⟩)
 ·obtain ⟨a,rfl⟩:∃a,ar=[a]:=List.length_eq_one_iff.1 (by have:arK 3=1:=rfl;omega)
  exact .inr (.inr (.inl ⟨rfl,a,rfl,h6,h7,h3,okXs_all.1 h2 a (by simp)⟩))
 ·exact .inr (.inl ⟨.inr rfl,List.eq_nil_of_length_eq_zero (by have:arK 4=0:=rfl;omega),h6,h7,h3⟩)
 ·obtain ⟨a,rfl⟩:∃a,ar=[a]:=List.length_eq_one_iff.1 (by have:arK 5=1:=rfl;omega)
  exact .inr (.inr (.inr (.inl ⟨rfl,a,rfl,h5,h6,by simpa [kdX] using h3,okXs_all.1 h2 a (by simp)⟩)))
 ·obtain ⟨a,b,rfl⟩:∃a b,ar=[a,b]:=len2 (by have:arK 6=2:=rfl;omega)
  exact .inr (.inr (.inr (.inr ⟨rfl,a,b,rfl,h5,h6,by simpa [kdX] using h3,okXs_all.1 h2 a (by simp),okXs_all.1 h2 b (by simp)⟩)))
 ·exfalso
  have:arK k=-1:=by simp [arK,n1,n2,n3,n4,n5,n6]
  omega
theorem idn_len {s:ByteArray}(h:idn s=true):s.data.toList.length≤32:=by
 rw [idn,idB,Bool.and_eq_true,Bool.and_eq_true,Bool.and_eq_true] at h
 simpa using h.2.2.2
theorem numZ_len {z:Int}(h:-32768≤z∧z≤32767):(numZ z).length≤6:=by
 rw [numZ]
 split
 ·have:=decDigits_pow (-z).toNat 4 (by omega)
  rw [List.length_cons];omega
 ·have:=decDigits_pow z.toNat 4 (by omega)
  omega
theorem sgT_len (o:Int):(sgT o).length≤2:=by
 rw [sgT,List.getD_eq_getElem?_getD]
 cases h:sgL[o.toNat]? with
 | none=>exact Nat.zero_le _
 | some t =>
   have h1:=List.mem_of_getElem? h
   have h2:∀t ∈ sgL,t.length≤2:=by decide
   exact h2 t h1
theorem opd_len (l k o:Int) (t:List UInt8):(opd l k o t).length≤t.length+2:=by
 rw [opd];split
 ·simp
 ·omega
mutual
def fitX:Xp→Prop
 | ⟨_,_,v,_,ar,_⟩=>v≤32767∧fitXs ar
def fitXs:List Xp→Prop
 | []=>True
 | x :: xs=>fitX x∧fitXs xs
end
theorem txX_len:∀x,okX x=true→fitX x→(txX x).length≤64 * nX x:=by
 intro x
 induction x using Xp.ind with
 | h k s v o ar q ih =>
 intro h hf
 rw [fitX] at hf
 rcases ok_cases h with ⟨rfl,rfl,_,_,hv⟩ | ⟨hk,rfl,_,_,hs⟩ | ⟨rfl,a,rfl,_,_,hs,ha⟩ | ⟨rfl,a,rfl,_,_,ho,ha⟩ | ⟨rfl,a,b,rfl,_,_,ho,ha,hb⟩
 ·rw [tx1]
  have:=numZ_len (z:=v) ⟨by omega,hf.1⟩
  rw [nX];omega
 ·have:=idn_len hs
  rcases hk with rfl | rfl
  ·rw [tx2,nX];omega
  ·rw [tx4,nX];simp only [List.length_append,List.length_cons,List.length_nil];omega
 ·have h1:=idn_len hs
  rw [fitXs] at hf
  have h2:=ih a (by simp) ha hf.2.1
  rw [tx3,nX,nXs,nXs];simp only [List.length_append,List.length_cons,List.length_nil];omega
 ·rw [fitXs] at hf
  have h2:=ih a (by simp) ha hf.2.1
  have h3:=sgT_len o
  have h4:=opd_len 6 a.k a.o (txX a)
  rw [tx5,nX,nXs,nXs];simp only [List.length_append];omega
 ·rw [fitXs,fitXs] at hf
  have h2:=ih a (by simp) ha hf.2.1
  have h2b:=ih b (by simp) hb hf.2.2.1
  have h3:=sgT_len o
  have h4:=opd_len (lfT o) a.k a.o (txX a)
  have h5:=opd_len (lvT o+1) b.k b.o (txX b)
  rw [tx6,nX,nXs,nXs,nXs];simp only [List.length_append,List.length_cons,List.length_nil];omega
theorem XL_fit {B:Nat→Prop}{w:World}:∀(n:Nat) (p:Option Addr) (c:Nat) (xs:List Xp),nXs xs < n→XL B w p c xs→fitXs xs:=by
 intro n
 induction n with
 | zero=>intro _ _ _ h;exact absurd h (Nat.not_lt_zero _)
 | succ n ih =>
   intro p c xs hn hx
   obtain ⟨-,L,-,h2⟩:=hx
   induction xs generalizing L with
   | nil=>rw [fitXs];trivial
   | cons x xs ihx =>
     rw [XsAt] at h2
     rw [nXs] at hn
     obtain ⟨d,L',rfl,h3,h4⟩:=h2
     rw [XAt_iff] at h3
     obtain ⟨p',c',_,hz,h5⟩:=h3
     rw [fitXs]
     refine⟨?_,ihx (by have:=nX_pos x;omega) L' h4⟩
     have:=ih p' c' x.ar (by rw [nX_as] at hn;omega) h5
     rw [x.eta,fitX]
     exact⟨hz.2,this⟩
theorem XL.fit {B:Nat→Prop}{w:World}{p:Option Addr}{c:Nat}{xs:List Xp}(h:XL B w p c xs):fitXs xs:=XL_fit _ _ _ _ (Nat.lt_succ_self _) h
theorem XL.fitX {B:Nat→Prop}{w:World}{p:Option Addr}{c:Nat}{x:Xp}(hv:x.v≤32767) (h:XL B w p c x.ar):fitX x:=by
 rw [x.eta,Go.Proofs.YtcknpcbkofgdoaaGreatDoor.fitX]
 exact⟨hv,h.fit⟩
end Go.Proofs.YtcknpcbkofgdoaaGreatDoor
namespace Go.Proofs.YtcknpcbkofgdoaaGreatDoor
open Go Go.RowKit Go.IntWalk
set_option linter.unusedSimpArgs false
set_option linter.unusedVariables false
set_option maxRecDepth 8000
def shN (k:Int):Bool:=decide (k=1∨k=2∨k=7∨k=9∨k=3)
def shM (k:Int):Bool:=decide (k=5∨k=10∨k=11)
def shB (k:Int):Bool:=decide (k=4∨k=5∨k=10∨k=11∨k=6)
def shE (k:Int):Bool:=decide (k=4)
def shA (k:Int):Int:=if k=3 then 2 else if k=1∨k=2∨k=7∨k=9∨k=4∨k=6∨k=8 then 1 else 0
def shO (k:Int):Bool:=decide (1≤k)&&decide (k≤13)
theorem kx13 (k:Int):k=1∨k=2∨k=3∨k=4∨k=5∨k=6∨k=7∨k=8∨k=9∨k=10∨k=11∨k=12∨k=13∨(k≠1∧k≠2∧k≠3∧k≠4∧k≠5∧k≠6∧k≠7∧k≠8∧k≠9∧k≠10∧k≠11∧k≠12∧k≠13):=by omega
def hdS (k:Int) (s:ByteArray) (n:Int) (na nb ne:Nat):Bool:=!((((((((!(shO k))||((((na:Nat):Int)) != (shA k)))||((shN k)&&(!(idn s))))||((!(shN k))&&(!decide ((s)=((⟨([]).toArray⟩:ByteArray))))))||(!(num1 n 0)))||((!(shM k))&&((n) != (0))))||((!(shB k))&&(decide ((0) < (((nb:Nat):Int))))))||((!(shE k))&&(decide ((0) < (((ne:Nat):Int))))))
mutual
def okS:Sm→Bool
 | ⟨k,s,n,ar,b,e,_⟩=>hdS k s n ar.length b.length e.length&&(okXs ar&&(okSs b&&okSs e))
def okSs:List Sm→Bool
 | []=>true
 | x :: xs=>okS x&&okSs xs
end
theorem okSs_append:∀a b:List Sm,okSs (a++b)=(okSs a&&okSs b)
 | [],b=>by rw [List.nil_append,okSs,Bool.true_and]
 | x :: a,b=>by rw [List.cons_append,okSs,okSs,okSs_append a b,Bool.and_assoc]
theorem okSs_snoc {l:List Sm}{j:Nat}{x:Sm}(h:l.take (j+1)=l.take j++[x]):okSs (l.take (j+1))=(okSs (l.take j)&&okS x):=by
 rw [h,okSs_append,okSs,okSs,Bool.and_true]
theorem okSs_all:∀{l:List Sm},okSs l=true↔∀x ∈ l,okS x=true
 | []=>⟨fun _ _ h=>(nomatch h),fun _=>rfl⟩
 | x :: l=>by rw [okSs,Bool.and_eq_true,okSs_all,List.forall_mem_cons]
theorem okSs_no {l:List Sm}{x:Sm}(h:x ∈ l) (hx:okS x=false):okSs l=false:=by
 cases h1:okSs l with
 | false=>rfl
 | true=>rw [okSs_all.1 h1 x h] at hx;cases hx
end Go.Proofs.YtcknpcbkofgdoaaGreatDoor
namespace Go.Proofs.YtcknpcbkofgdoaaGreatDoor
open Go Go.RowKit
set_option linter.unusedVariables false
structure Hangs {α β:Type}(k:Nat) (enc:α→List Value) (At:(Nat→Prop)→World→List β→List α→Prop):Prop where
 enc:Enc k enc
 len:∀{B w xs L},At B w xs L→L.length=xs.length
 nil:∀{B w},At B w [] []
 app:∀{B w xs L ys M},At B w ys M→At B w xs L→At B w (xs++ys) (L++M)
 keep:∀{B B':Nat→Prop}{w w':World}{xs L},(∀b,B b→B' b)→(∀b,B b→b < w.heap.size→w'.heap[b]?=w.heap[b]?)→At B w xs L→At B' w' xs L
theorem hangsX:Hangs 6 xdc XsAt:=⟨encXd,XsAt_len,fun {B w}=>(by rw [XsAt]:XsAt B w [] []),fun h1 h2=>XsAt_append h1 h2,fun h1 h2 h3=>XsAt.keep h1 h2 h3⟩
theorem hangsS:Hangs 7 sdc SsAt:=⟨encSd,SsAt_len,fun {B w}=>(by rw [SsAt]:SsAt B w [] []),fun h1 h2=>SsAt_append h1 h2,fun h1 h2 h3=>SsAt.keep h1 h2 h3⟩
theorem TsAt.keep {B B':Nat→Prop}{w w':World}(hB:∀b,B b→B' b) (hb:∀b,B b→b < w.heap.size→w'.heap[b]?=w.heap[b]?):∀{xs:List Ta}{L:List Td},TsAt B w xs L→TsAt B' w' xs L
 | [],_,h=>by rw [TsAt] at h ⊢;exact h
 | x :: xs,_,h=>by
   rw [TsAt] at h ⊢
   obtain ⟨d,L',rfl,⟨bp,bc,h3,hz,h4⟩,h2⟩:=h
   exact⟨d,L',rfl,⟨bp,bc,h3,hz,h4.keep hB hb⟩,TsAt.keep hB hb h2⟩
theorem TsAt_append {B:Nat→Prop}{w:World}{ys:List Ta}{M:List Td}(hy:TsAt B w ys M):∀{xs:List Ta}{L:List Td},TsAt B w xs L→TsAt B w (xs++ys) (L++M)
 | [],_,h=>by
   rw [TsAt] at h
   subst h
   exact hy
 | y :: xs,_,h=>by
   rw [TsAt] at h
   obtain ⟨e,L',rfl,h1,h2⟩:=h
   rw [List.cons_append,List.cons_append,TsAt]
   exact⟨e,L'++M,rfl,h1,TsAt_append hy h2⟩
theorem hangsT:Hangs 8 tdc TsAt:=⟨encTd,TsAt_len,fun {B w}=>(by rw [TsAt]:TsAt B w [] []),fun h1 h2=>TsAt_append h1 h2,fun h1 h2 h3=>TsAt.keep h1 h2 h3⟩
def FlatAt {α:Type}(_:Nat→Prop) (_:World) (xs L:List α):Prop:=L=xs
theorem hangsF {α:Type}{k:Nat}{enc:α→List Value}(E:Enc k enc):Hangs k enc (FlatAt (α:=α)):=⟨E,fun h=>by rw [FlatAt] at h;rw [h],rfl,fun h1 h2=>by rw [FlatAt] at *;rw [h1,h2],fun _ _ h=>h⟩
section
variable {α β:Type}{k:Nat}{enc:α→List Value}{At:(Nat→Prop)→World→List β→List α→Prop}
def OwN (At:(Nat→Prop)→World→List β→List α→Prop) (k:Nat) (enc:α→List Value) (N:Nat) (B:Nat→Prop) (w:World) (e:TypeId) (p:Option Addr) (n c:Nat) (l:List β):Prop:=n=l.length∧∃L,OwR w N e k enc (.slice p n c) L∧At B w l L
def InN (At:(Nat→Prop)→World→List β→List α→Prop) (k:Nat) (enc:α→List Value) (B:Nat→Prop) (w:World) (p:Option Addr) (n c:Nat) (l:List β):Prop:=n=l.length∧∃L,Rw k enc w p c L∧At B w l L
def Off (p:Option Addr) (b:Nat):Prop:=∀a,p=some a→a.block≠b
variable {N:Nat}{B B':Nat→Prop}{w w':World}{e:TypeId}{p:Option Addr}{n c:Nat}{l:List β}
theorem OwN.nil (T:Hangs k enc At):OwN At k enc N B w e none 0 0 []:=⟨rfl,[],OwR.nil _ _ _ _ _,T.nil⟩
theorem OwN.inN (T:Hangs k enc At) (h:OwN At k enc N B w e p n c l):InN At k enc B w p n c l:=by
 obtain ⟨h1,L,h2,h3⟩:=h
 exact⟨h1,L,(h2.rd T.enc).2,h3⟩
theorem InN.cap (T:Hangs k enc At) (h:InN At k enc B w p n c l):n≤c∧c≤9223372036854775807∧(p=none→c=0):=by
 obtain ⟨h1,L,h2,h3⟩:=h
 have:=h2.cap
 rw [T.len h3,← h1] at this
 exact⟨this,h2.max,h2.bare⟩
theorem OwN.place (T:Hangs k enc At) (h:OwN At k enc N B w e p n c l):∀a,p=some a→N≤a.block∧a.block < w.heap.size:=by
 obtain ⟨_,L,h2,_⟩:=h
 exact h2.place T.enc
theorem OwN.off (T:Hangs k enc At) (h:OwN At k enc N B w e p n c l){b:Nat}(hb:b < N):Off p b:=fun a ha=>by have:=(h.place T a ha).1;omega
theorem OwN.offTop (T:Hangs k enc At) (h:OwN At k enc N B w e p n c l){b:Nat}(hb:w.heap.size≤b):Off p b:=fun a ha=>by have:=(h.place T a ha).2;omega
theorem OwN.kept (T:Hangs k enc At) (h:OwN At k enc N B w e p n c l) (hg:Grew w w'):OwN At k enc N B w' e p n c l:=by
 obtain ⟨h1,L,h2,h3⟩:=h
 exact⟨h1,L,h2.kept hg,T.keep (fun _ h=>h) (fun b _ hl=>hg.block b hl) h3⟩
theorem OwN.chg {S:Nat→Prop}(T:Hangs k enc At) (h:OwN At k enc N B w e p n c l) (hc:Chg w w' S) (hp:∀a,p=some a→¬ S a.block) (hB:∀b,B b→¬ S b):OwN At k enc N B w' e p n c l:=by
 obtain ⟨h1,L,h2,h3⟩:=h
 exact⟨h1,L,h2.chg hc hp,T.keep (fun _ h=>h) (fun b hb hl=>hc.block b hl (hB b hb)) h3⟩
theorem OwN.mono (T:Hangs k enc At) (h:OwN At k enc N B w e p n c l) (hB:∀b,B b→B' b):OwN At k enc N B' w e p n c l:=by
 obtain ⟨h1,L,h2,h3⟩:=h
 exact⟨h1,L,h2,T.keep hB (fun _ _ _=>rfl) h3⟩
theorem OwN.down {N':Nat}(h:OwN At k enc N B w e p n c l) (hN:N'≤N):OwN At k enc N' B w e p n c l:=by
 obtain ⟨h1,L,h2,h3⟩:=h
 exact⟨h1,L,h2.down hN,h3⟩
theorem InN.kept (T:Hangs k enc At) (h:InN At k enc B w p n c l) (hg:Grew w w'):InN At k enc B w' p n c l:=by
 obtain ⟨h1,L,h2,h3⟩:=h
 exact⟨h1,L,h2.kept hg,T.keep (fun _ h=>h) (fun b _ hl=>hg.block b hl) h3⟩
theorem InN.chg {S:Nat→Prop}(T:Hangs k enc At) (h:InN At k enc B w p n c l) (hc:Chg w w' S) (hp:∀a,p=some a→¬ S a.block) (hB:∀b,B b→¬ S b):InN At k enc B w' p n c l:=by
 obtain ⟨h1,L,h2,h3⟩:=h
 exact⟨h1,L,h2.chg hc hp,T.keep (fun _ h=>h) (fun b hb hl=>hc.block b hl (hB b hb)) h3⟩
theorem InN.mono (T:Hangs k enc At) (h:InN At k enc B w p n c l) (hB:∀b,B b→B' b):InN At k enc B' w p n c l:=by
 obtain ⟨h1,L,h2,h3⟩:=h
 exact⟨h1,L,h2,T.keep hB (fun _ _ _=>rfl) h3⟩
theorem InN.made (T:Hangs k enc At) (w:World) (S:Nat) (x:β) (d:α) (e:TypeId) (cs:Array Value) (fr:Nat × Nat) (hat:At B w [x] [d]) (hS:w.heap.size=S) (hc:cs=(flatL enc [d]).toArray):InN At k enc B (w.alloc (.cells cs e fr)) (some ⟨S,0,none⟩) 1 1 [x]:=by
 subst hS
 exact⟨rfl,[d],Rw.made T.enc w [d] 1 e cs fr hc rfl (by decide),T.keep (fun _ h=>h) (fun b _ hl=>((Grew.refl w).alloc _).block b hl) hat⟩
theorem OwN.made (T:Hangs k enc At) (w:World) (S:Nat) (x:β) (d:α) (e:TypeId) (cs:Array Value) (hat:At B w [x] [d]) (hS:w.heap.size=S) (hN:N≤w.heap.size) (hc:cs=(flatL enc [d]).toArray):OwN At k enc N B (w.alloc (.cells cs e)) e (some ⟨S,0,none⟩) 1 1 [x]:=by
 subst hS
 exact⟨rfl,[d],OwR.lit T.enc w [d] 1 N e cs hc rfl (by decide) hN,T.keep (fun _ h=>h) (fun b _ hl=>((Grew.refl w).alloc _).block b hl) hat⟩
theorem OwN.len (h:OwN At k enc N B w e p n c l):n=l.length:=h.1
theorem InN.getS {xs:List Sm}(h:InN SsAt 7 sdc B w p n c xs) (i:Nat) (hi:i < xs.length):∃b o ap ac bp bc ep ec,p=some ⟨b,o,none⟩∧(True∧xs[i].s.size≤1048576)∧XL B w ap ac xs[i].ar∧SL B w bp bc xs[i].b∧SL B w ep ec xs[i].e∧∀j v,(sdc (xs[i].nd ap ac bp bc ep ec))[j]?=some v→w.cell? ⟨b,o+i * 7+j,none⟩=some v:=by
 obtain ⟨h0,L,h1,h2⟩:=h
 obtain ⟨d,h3,h4⟩:=SsAt_get h2 i hi
 rw [SAt_iff] at h4
 obtain ⟨ap,ac,bp,bc,ep,ec,rfl,hz,h5,h6,h7⟩:=h4
 obtain ⟨b,o,rfl,hc⟩:=h1.rd.cells (by rw [SsAt_len h2];omega)
 exact⟨b,o,ap,ac,bp,bc,ep,ec,rfl,⟨trivial,hz⟩,h5,h6,h7,hc i _ h3⟩
theorem InN.getF {α:Type}{enc:α→List Value}{xs:List α}(h:InN FlatAt k enc B w p n c xs) (i:Nat) (hi:i < xs.length):∃b o,p=some ⟨b,o,none⟩∧∀j v,(enc xs[i])[j]?=some v→w.cell? ⟨b,o+i * k+j,none⟩=some v:=by
 obtain ⟨h0,L,h1,rfl⟩:=h
 obtain ⟨b,o,rfl,hc⟩:=h1.rd.cells (by omega)
 exact⟨b,o,rfl,hc i _ (List.getElem?_eq_getElem hi)⟩
structure Apd (N:Nat) (p p':Option Addr) (w w':World):Prop where
 below:Below N w w'
 chg:Chg w w' (fun j=>∃a,p=some a∧a.block=j)
 own:∀a,p'=some a→(∃a1,p=some a1∧a1.block=a.block)∨a.block=w.heap.size
theorem Apd.blk {p':Option Addr}{S:Nat}{vs:List Value}{t:TypeId}(h:Apd N p p' w w') (hb:Blk S vs t w) (ho:Off p S):Blk S vs t w':=hb.chg h.chg (fun⟨a,h1,h2⟩=>ho a h1 h2)
theorem Apd.off {p':Option Addr}{S:Nat}(h:Apd N p p' w w') (hS:S < w.heap.size) (ho:Off p S):Off p' S:=fun a ha=>by
 rcases h.own a ha with ⟨a1,h1,h2⟩ | h1
 ·rw [← h2];exact ho a1 h1
 ·omega
theorem wpList_append_own {P:Program}{ops:Array Oper}{rest:List Oper}{o:Oper}{a:Act}{Q:Exit→Act→World→Prop}(T:Hangs k enc At) (hgd:o.guard=none) (s x:Operand) (t:TypeId)
 (ho:o.op=.call { callee:=.builtin .append,args:=#[s,x],argTypes:=#[t,t] })
 (N:Nat) (e:TypeId) (z:Value) (by':Nat) (ht:P.underlying t=some (.slice e)) (hi:(P.info? e).map (fun i=>(i.zero,i.size,i.bytes))=some (some z,k,by')) (hzs:z.cells.size=k)
 (p:Option Addr) (n c:Nat) (xs:List β) (hs:a.eval s=.slice p n c) (hown:OwN At k enc N B w e p n c xs)
 (q:Option Addr) (m d:Nat) (ys:List β) (hx:a.eval x=.slice q m d) (hin:InN At k enc B w q m d ys)
 (hB:∀b,B b→Off p b) (hbytes:(n+m) * by'≤140737488355328) (h63:n+m≤9223372036854775807) (hbase:N≤w.heap.size)
 (h:∀p' c' w',OwN At k enc N B w' e p' (n+m) c' (xs++ys)→Apd N p p' w w'→wpList P ops Q rest (a.put o.dst (.slice p' (n+m) c')) w'):wpList P ops Q (o :: rest) a w:=by
 obtain ⟨h1,L,h2,h3⟩:=hown
 obtain ⟨h4,M,h5,h6⟩:=hin
 have l1:=(h2.rd T.enc).1
 have l2:=T.len h6
 refine wpList_append_rowO T.enc hgd s x t ho N e z by' ht hi hzs _ L hs h2 q m d M hx (by omega) h5 (by rw [← l1,l2,← h4];exact hbytes) (by omega) hbase ?_
 intro p' c' zs w' hz ho' hb hc how
 obtain rfl:=hz.out
 have hlen:(L++M).length=n+m:=by rw [List.length_append];omega
 rw [hlen] at ho' how ⊢
 have hch:Chg w w' (fun j=>∃a,p=some a∧a.block=j):=⟨hc.os,hc.tape,hc.output,hc.size,fun b hl hn=>hc.block b hl (fun hs=>hn (by
  rw [ownBlock_sl] at hs
  cases p with
  | none=>cases hs
  | some a=>exact⟨a,rfl,by simpa using hs⟩))⟩
 have hkp:∀b,B b→b < w.heap.size→w'.heap[b]?=w.heap[b]?:=fun b hb hl=>hch.block b hl (fun⟨a,h1,h2⟩=>hB b hb a h1 h2)
 refine h p' c' w' ⟨by rw [List.length_append];omega,L++M,ho',T.app (T.keep (fun _ h=>h) hkp h6) (T.keep (fun _ h=>h) hkp h3)⟩ ⟨hb,hch,fun a ha=>?_⟩
 subst ha
 rw [ownBlock_sl,ownBlock_sl] at how
 rcases how with h7 | h7
 ·cases p with
  | none=>cases h7
  | some a1=>exact .inl ⟨a1,rfl,by simpa using h7.symm⟩
 ·exact .inr (by simpa using h7)
theorem runs_append_own {P:Program}{a:Act}(T:Hangs k enc At){s x:Operand}{t ty:TypeId}{dst:Option Tmp}{pos:String}{after:Array Edge}{g:Option (Nat × Bool)}{K:Value→World→Prop}
 (N:Nat) (e:TypeId) (z:Value) (by':Nat) (ht:P.underlying t=some (.slice e)) (hi:(P.info? e).map (fun i=>(i.zero,i.size,i.bytes))=some (some z,k,by')) (hzs:z.cells.size=k)
 (p:Option Addr) (n c:Nat) (xs:List β) (hs:a.eval s=.slice p n c) (hown:OwN At k enc N B w e p n c xs)
 (q:Option Addr) (m d:Nat) (ys:List β) (hx:a.eval x=.slice q m d) (hin:InN At k enc B w q m d ys)
 (hB:∀b,B b→Off p b) (hbytes:(n+m) * by'≤140737488355328) (h63:n+m≤9223372036854775807) (hbase:N≤w.heap.size)
 (h:∀p' c' w',OwN At k enc N B w' e p' (n+m) c' (xs++ys)→Apd N p p' w w'→K (.slice p' (n+m) c') w'):Runs P ⟨dst,.call { callee:=.builtin .append,args:=#[s,x],argTypes:=#[t,t] },ty,pos,after,g⟩ a w K:=by
 obtain ⟨h1,L,h2,h3⟩:=hown
 obtain ⟨h4,M,h5,h6⟩:=hin
 have l1:=(h2.rd T.enc).1
 have l2:=T.len h6
 refine runs_append_rowO T.enc N e z by' ht hi hzs _ L hs h2 q m d M hx (by omega) h5 (by rw [← l1,l2,← h4];exact hbytes) (by omega) hbase ?_
 intro p' c' w' ho' hb hc how
 have hlen:L.length+M.length=n+m:=by omega
 rw [hlen] at ho' how ⊢
 have hch:Chg w w' (fun j=>∃a,p=some a∧a.block=j):=⟨hc.os,hc.tape,hc.output,hc.size,fun b hl hn=>hc.block b hl (fun hs=>hn (by
  rw [ownBlock_sl] at hs
  cases p with
  | none=>cases hs
  | some a=>exact⟨a,rfl,by simpa using hs⟩))⟩
 have hkp:∀b,B b→b < w.heap.size→w'.heap[b]?=w.heap[b]?:=fun b hb hl=>hch.block b hl (fun⟨a,h1,h2⟩=>hB b hb a h1 h2)
 refine h p' c' w' ⟨by rw [List.length_append];omega,L++M,ho',T.app (T.keep (fun _ h=>h) hkp h6) (T.keep (fun _ h=>h) hkp h3)⟩ ⟨hb,hch,fun a ha=>?_⟩
 subst ha
 rw [ownBlock_sl,ownBlock_sl] at how
 rcases how with h7 | h7
 ·cases p with
  | none=>cases h7
  | some a1=>exact .inl ⟨a1,rfl,by simpa using h7.symm⟩
 ·exact .inr (by simpa using h7)
end
end Go.Proofs.YtcknpcbkofgdoaaGreatDoor
namespace Go.Proofs.YtcknpcbkofgdoaaGreatDoor
open Go Go.RowKit Go.IntWalk
set_option linter.unusedSimpArgs false
set_option linter.unusedVariables false
set_option maxRecDepth 8000
mutual
def subX:Xp→List Xp
 | ⟨k,s,v,o,ar,q⟩=>⟨k,s,v,o,ar,q⟩ :: subXs ar
def subXs:List Xp→List Xp
 | []=>[]
 | x :: xs=>subX x++subXs xs
end
theorem subXs_append:∀a b:List Xp,subXs (a++b)=subXs a++subXs b
 | [],b=>rfl
 | x :: a,b=>by rw [List.cons_append,subXs,subXs,subXs_append a b,List.append_assoc]
theorem subXs_one (x:Xp):subXs [x]=subX x:=by rw [subXs,subXs,List.append_nil]
mutual
theorem subX_len:∀x,(subX x).length=nX x
 | ⟨k,s,v,o,ar,q⟩=>by rw [subX,nX,List.length_cons,subXs_len ar]
theorem subXs_len:∀l,(subXs l).length=nXs l
 | []=>rfl
 | x :: xs=>by rw [subXs,nXs,List.length_append,subX_len x,subXs_len xs]
end
mutual
def stmS:Sm→List Sm
 | ⟨k,s,n,ar,b,e,q⟩=>⟨k,s,n,ar,b,e,q⟩ :: (stmL b++stmL e)
def stmL:List Sm→List Sm
 | []=>[]
 | x :: xs=>stmS x++stmL xs
end
theorem stmL_append:∀a b:List Sm,stmL (a++b)=stmL a++stmL b
 | [],b=>rfl
 | x :: a,b=>by rw [List.cons_append,stmL,stmL,stmL_append a b,List.append_assoc]
theorem stmL_one (x:Sm):stmL [x]=stmS x:=by rw [stmL,stmL,List.append_nil]
mutual
theorem stmS_len:∀x,(stmS x).length=nS x
 | ⟨k,s,n,ar,b,e,q⟩=>by rw [stmS,nS,List.length_cons,List.length_append,stmL_len b,stmL_len e]
theorem stmL_len:∀l,(stmL l).length=nSs l
 | []=>rfl
 | x :: xs=>by rw [stmL,nSs,List.length_append,stmS_len x,stmL_len xs]
end
def expL (l:List Sm):List Xp:=(stmL l).flatMap fun s=>subXs s.ar
mutual
theorem expS_len:∀x:Sm,((stmS x).flatMap fun s=>subXs s.ar).length=mS x
 | ⟨k,s,n,ar,b,e,q⟩=>by
   have h1:=expL_len b
   have h2:=expL_len e
   rw [expL] at h1 h2
   rw [stmS,mS,List.flatMap_cons,List.length_append,List.flatMap_append,List.length_append,h1,h2,show (Sm.mk k s n ar b e q).ar=ar from rfl,subXs_len]
   omega
theorem expL_len:∀l,(expL l).length=mSs l
 | []=>rfl
 | x :: xs=>by
   have h1:=expS_len x
   have h2:=expL_len xs
   rw [expL] at h2
   rw [expL,stmL,mSs,List.flatMap_append,List.length_append,h1,h2]
end
abbrev zX:Value:=.agg #[.int .i64 0,.string ⟨#[]⟩,.int .i16 0,.int .i64 0,.slice none 0 0,.int .i64 0]
abbrev zS:Value:=.agg #[.int .i64 0,.string ⟨#[]⟩,.int .i64 0,.slice none 0 0,.slice none 0 0,.slice none 0 0,.int .i64 0]
theorem infoX:(Tryz.prog.info? 35).map (fun i=>(i.zero,i.size,i.bytes))=some (some zX,6,72):=by kernel_rfl
theorem infoS:(Tryz.prog.info? 49).map (fun i=>(i.zero,i.size,i.bytes))=some (some zS,7,112):=by kernel_rfl
abbrev xv (k:Int) (s:ByteArray) (v o:Int) (p:Option Addr) (n c:Nat) (q:Int):Value:=.agg #[.int .i64 k,.string s,.int .i16 v,.int .i64 o,.slice p n c,.int .i64 q]
theorem alloc_sz (w:World) (o:Obj):(w.alloc o).heap.size=w.heap.size+1:=by simp
theorem xat1 {B:Nat→Prop}{w:World}{k v o q:Int}{s:ByteArray}{ar:List Xp}{p:Option Addr}{c:Nat}(hz:s.size≤1048576∧v≤32767) (h:XL B w p c ar):XsAt B w [⟨k,s,v,o,ar,q⟩] [⟨k,s,v,o,p,ar.length,c,q⟩]:=by
 rw [XsAt]
 exact⟨_,[],rfl,XAt_iff.2 ⟨p,c,rfl,hz,h⟩,by rw [XsAt]⟩
theorem sat1 {B:Nat→Prop}{w:World}{k n q:Int}{s:ByteArray}{ar:List Xp}{b e:List Sm}{pa pb pe:Option Addr}{ca cb ce:Nat}(hz:s.size≤1048576) (h1:XL B w pa ca ar) (h2:SL B w pb cb b) (h3:SL B w pe ce e):SsAt B w [⟨k,s,n,ar,b,e,q⟩] [⟨k,s,n,pa,ar.length,ca,pb,b.length,cb,pe,e.length,ce,q⟩]:=by
 rw [SsAt]
 exact⟨_,[],rfl,SAt_iff.2 ⟨pa,ca,pb,cb,pe,ce,rfl,hz,h1,h2,h3⟩,by rw [SsAt]⟩
set_option maxHeartbeats 8000000 in
theorem sub_any:∀(x:Xp) (B:Nat→Prop) (w:World) (p:Option Addr) (c:Nat),(∀b,B b→b < w.heap.size)→(x.s.size≤1048576∧x.v≤32767)→XL B w p c x.ar→nX x≤1048576 →
 Calls Tryz.prog 15 #[xv x.k x.s x.v x.o p x.ar.length c x.q] w fun e w'=>∃p' n' c',e=.returned (.slice p' n' c')∧OwN XsAt 6 xdc w.heap.size B w' 35 p' n' c' (subX x)∧Grew w w':=by
 intro x
 induction x using Xp.ind with
 | h k s v o ar q ih =>
 intro B w p c hB hsz hx hn
 replace hsz:s.size≤1048576∧v≤32767:=hsz
 have HX:Hid (XL B w p c ar):=Lib.hid hx
 have hcap:ar.length≤c:=hx.cap.1
 have hmax:=hx.cap.2.1
 have HB:=Lib.hid hB
 obtain ⟨N,hN⟩:∃N,N=w.heap.size:=⟨_,rfl⟩
 have HNW:=Lib.hid hN
 have hnx:nX ⟨k,s,v,o,ar,q⟩=nXs ar+1:=rfl
 show Calls Tryz.prog 15 #[xv k s v o p ar.length c q] w _
 rw [hnx] at hn
 rw [← hN] at HB ⊢
 clear hx hB hnx hN
 go_enter Tryz.func15,Tryz.ntmps15
 go_wp2
 have HO:Hid (OwN XsAt 6 xdc N B ((w.alloc (Obj.cells #[.int .i64 k,.string s,.int .i16 v,.int .i64 o,.slice p ar.length c,.int .i64 q] 35)).alloc (Obj.cells #[.int .i64 k,.string s,.int .i16 v,.int .i64 o,.slice p ar.length c,.int .i64 q] 35)) 35 (some ⟨w.heap.size+1,0,none⟩) 1 1 [⟨k,s,v,o,ar,q⟩]):=Lib.hid (OwN.made hangsX _ _ _ _ _ _ (xat1 hsz (HX.out.kept ((Grew.refl w).alloc _))) (alloc_sz _ _) (by rw [alloc_sz,HNW.out];omega) rfl)
 go_loopg [3,5,11] ar.length (fun gg lv bv iv wr=>∃(j:Nat) (p1:Option Addr) (n1 c1:Nat),lv=.slice p1 n1 c1∧iv=.int .i64 (j:Int)∧j≤ar.length∧gg=ar.length - j∧Hid (OwN XsAt 6 xdc N B wr 35 p1 n1 c1 (⟨k,s,v,o,ar,q⟩ :: subXs (ar.take j)))∧Hid (Grew w wr))
 case atStart=>exact⟨0,_,1,1,rfl,rfl,Nat.zero_le _,rfl,HO,Lib.hid (((Grew.refl w).alloc _).alloc _)⟩
 case round =>
  obtain ⟨j,p1,n1,c1,rfl,rfl,hj,rfl,HR,HG⟩:=hrel
  by_cases hlt:j < ar.length
  ·have htn:=nXs_take ar j
   have hln:=HR.out.len
   rw [List.length_cons,subXs_len] at hln
   have HBD:Hid (n1≤1048577):=Lib.hid (by omega)
   obtain ⟨ba,oa,pa,ca,rfl,hba,haa,hca⟩:=HX.out.get j hlt
   have hma:=List.getElem_mem hlt
   have hna:=nXs_mem hma
   have hta:=List.take_succ_eq_append_getElem hlt
   have HLa:=Lib.hid (Nat.succ_le_of_lt hlt)
   have hih:=ih _ hma B
   generalize ar[j]=xa at *
   obtain ⟨ka,sa,va,o_a,ra,qa⟩:=xa
   replace hba:sa.size≤1048576∧va≤32767:=hba.2
   have HTa:=Lib.hid hta
   have HAa:Hid (XL B w pa ca ra):=Lib.hid haa
   have hcapa:ra.length≤ca:=haa.cap.1
   have hmaxa:=haa.cap.2.1
   replace hca:∀i_ u_,(xdc ⟨ka,sa,va,o_a,pa,ra.length,ca,qa⟩)[i_]?=some u_→wr.cell? ⟨ba,oa+j * 6+i_,none⟩=some u_:=fun i_ u_ h_=>Atv.kept (hca i_ u_ h_) HG.out
   have ca0:wr.cell? ⟨ba,oa+j * 6,none⟩=some (.int .i64 ka):=by simpa using hca 0 _ rfl
   have ca1:wr.cell? ⟨ba,oa+j * 6+1,none⟩=some (.string sa):=hca 1 _ rfl
   have ca2:wr.cell? ⟨ba,oa+j * 6+2,none⟩=some (.int .i16 va):=hca 2 _ rfl
   have ca3:wr.cell? ⟨ba,oa+j * 6+3,none⟩=some (.int .i64 o_a):=hca 3 _ rfl
   have ca4:wr.cell? ⟨ba,oa+j * 6+4,none⟩=some (.slice pa ra.length ca):=hca 4 _ rfl
   have ca5:wr.cell? ⟨ba,oa+j * 6+5,none⟩=some (.int .i64 qa):=hca 5 _ rfl
   clear hca haa hta
   have HIH:=Lib.hid (fun W (hW:Grew w W)=>(show Calls Tryz.prog 15 #[xv ka sa va o_a pa ra.length ca qa] W fun e w'=>∃p' n' c',e=.returned (.slice p' n' c')∧OwN XsAt 6 xdc W.heap.size B w' 35 p' n' c' (subX ⟨ka,sa,va,o_a,ra,qa⟩)∧Grew W w' from hih W pa ca (fun b hb=>by have h1:=HB.out b hb;have h2:=hW.sz;have h3:=HNW.out;omega) hba (HAa.out.kept hW) (by omega)))
   have HNX:Hid (nX ⟨ka,sa,va,o_a,ra,qa⟩≤1048576):=Lib.hid (by omega)
   clear hih hma hna htn hln
   go_wp2_with (first
    | (go_at_call 15;(with_reducible refine(HIH.out _ (HG.out.alloc _)).mono ?_);rintro e w2 ⟨p2,n2,c2,rfl,ho2,g2⟩;have hl2:=ho2.len;rw [subX_len] at hl2;have HL2:Hid (n2≤1048576):=Lib.hid (by have:=HNX.out;omega);have HO2:=Lib.hid (ho2.inN hangsX);have HG2:=Lib.hid (((Grew.refl wr).alloc _).trans g2);clear ho2 g2 hl2)
    | (at_builtin;refine wpList_append_own hangsX rfl _ _ 33 rfl N 35 zX 72 Tryz.underlying33 infoX rfl _ _ _ _ rfl (HR.out.kept hangsX HG2.out) _ _ _ _ rfl (HO2.out) (fun b hb=>HR.out.off hangsX (HB.out b hb)) (by have h1:=HBD.out;have h2:=HL2.out;omega) (by have h1:=HBD.out;have h2:=HL2.out;omega) (by have h1:=(HG.out.trans HG2.out).sz;have h2:=HNW.out;omega) ?_;intro p3 c3 w3 ho3 hp3;have HO3:=Lib.hid ho3;have HP3:=Lib.hid hp3;clear ho3 hp3))
   have HG3:Hid (Grew w w3):=Lib.hid (Below.trans (HG.out.trans HG2.out) (HNW.out ▸ HP3.out.below))
   go_roundg (ar.length - (j+1))
   case measure=>have:=HLa.out;omega
   case rel=>exact⟨j+1,p3,_,c3,rfl,by go_num,HLa.out,rfl,Lib.hid (by
    rw [HTa.out,subXs_append,subXs_one]
    exact HO3.out),HG3⟩
  ·obtain rfl:j=ar.length:=by omega
   rw [List.take_length] at HR
   go_wp2
   go_ret
   rw [HNW.out] at HR ⊢
   exact⟨p1,n1,c1,rfl,HR.out,HG.out⟩
end Go.Proofs.YtcknpcbkofgdoaaGreatDoor
namespace Go.Proofs.YtcknpcbkofgdoaaGreatDoor
open Go Go.RowKit Go.IntWalk
set_option linter.unusedSimpArgs false
set_option linter.unusedVariables false
set_option maxRecDepth 8000
set_option maxHeartbeats 8000000 in
theorem stms_any:∀(n:Nat) (l:List Sm),nSs l < n→∀(B:Nat→Prop) (w:World) (p:Option Addr) (c:Nat),(∀b,B b→b < w.heap.size)→SL B w p c l→nSs l≤1048576 →
 Calls Tryz.prog 29 #[.slice p l.length c] w fun e w'=>∃p' n' c',e=.returned (.slice p' n' c')∧OwN SsAt 7 sdc w.heap.size B w' 49 p' n' c' (stmL l)∧Grew w w':=by
 intro n
 induction n with
 | zero=>intro _ h;exact absurd h (Nat.not_lt_zero _)
 | succ n ih =>
 intro l hln B w p c hB hx hn
 have HX:Hid (SL B w p c l):=Lib.hid hx
 have hcap:l.length≤c:=hx.cap.1
 have hmax:=hx.cap.2.1
 have HB:=Lib.hid hB
 obtain ⟨N,hN⟩:∃N,N=w.heap.size:=⟨_,rfl⟩
 have HNW:=Lib.hid hN
 rw [← hN] at HB ⊢
 clear hx hB hN
 go_enter Tryz.func29,Tryz.ntmps29
 go_wp2
 go_loopg [3,5,8] l.length (fun gg lv bv iv wr=>∃(j:Nat) (p1:Option Addr) (n1 c1:Nat),lv=.slice p1 n1 c1∧iv=.int .i64 (j:Int)∧j≤l.length∧gg=l.length - j∧Hid (OwN SsAt 7 sdc N B wr 49 p1 n1 c1 (stmL (l.take j)))∧Hid (Grew w wr))
 case atStart=>exact⟨0,none,0,0,rfl,rfl,Nat.zero_le _,rfl,Lib.hid (OwN.nil hangsS),Lib.hid (Grew.refl _)⟩
 case round =>
  obtain ⟨j,p1,n1,c1,rfl,rfl,hj,rfl,HR,HG⟩:=hrel
  by_cases hlt:j < l.length
  ·have htn:=nSs_take l j
   have hln1:=HR.out.len
   rw [stmL_len] at hln1
   have HBD:Hid (n1≤1048576):=Lib.hid (by omega)
   obtain ⟨ba,oa,paa,caa,pba,cba,pea,cea,rfl,hba,haa,hboa,hela,hca⟩:=HX.out.get j hlt
   have hma:=List.getElem_mem hlt
   have hna:=nSs_mem hma
   have hta:=List.take_succ_eq_append_getElem hlt
   have HLa:=Lib.hid (Nat.succ_le_of_lt hlt)
   generalize l[j]=xa at *
   obtain ⟨ka,sa,na,ra,ya,ea,qa⟩:=xa
   replace hba:sa.size≤1048576:=hba.2
   have HTa:=Lib.hid hta
   have HAa:Hid (XL B w paa caa ra):=Lib.hid haa
   have HYa:Hid (SL B w pba cba ya):=Lib.hid hboa
   have HEa:Hid (SL B w pea cea ea):=Lib.hid hela
   have hcapa:ra.length≤caa∧ya.length≤cba∧ea.length≤cea:=⟨haa.cap.1,hboa.cap.1,hela.cap.1⟩
   have hmaxa:=And.intro haa.cap.2.1 (And.intro hboa.cap.2.1 hela.cap.2.1)
   replace hca:∀i_ u_,(sdc ⟨ka,sa,na,paa,ra.length,caa,pba,ya.length,cba,pea,ea.length,cea,qa⟩)[i_]?=some u_→wr.cell? ⟨ba,oa+j * 7+i_,none⟩=some u_:=fun i_ u_ h_=>Atv.kept (hca i_ u_ h_) HG.out
   have ca0:wr.cell? ⟨ba,oa+j * 7,none⟩=some (.int .i64 ka):=by simpa using hca 0 _ rfl
   have ca1:wr.cell? ⟨ba,oa+j * 7+1,none⟩=some (.string sa):=hca 1 _ rfl
   have ca2:wr.cell? ⟨ba,oa+j * 7+2,none⟩=some (.int .i64 na):=hca 2 _ rfl
   have ca3:wr.cell? ⟨ba,oa+j * 7+3,none⟩=some (.slice paa ra.length caa):=hca 3 _ rfl
   have ca4:wr.cell? ⟨ba,oa+j * 7+4,none⟩=some (.slice pba ya.length cba):=hca 4 _ rfl
   have ca5:wr.cell? ⟨ba,oa+j * 7+5,none⟩=some (.slice pea ea.length cea):=hca 5 _ rfl
   have ca6:wr.cell? ⟨ba,oa+j * 7+6,none⟩=some (.int .i64 qa):=hca 6 _ rfl
   clear hca haa hboa hela hta
   have hns:nS ⟨ka,sa,na,ra,ya,ea,qa⟩=nSs ya+nSs ea+1:=rfl
   have HIY:=Lib.hid (fun W (hW:Grew w W)=>(show Calls Tryz.prog 29 #[.slice pba ya.length cba] W fun e w'=>∃p' n' c',e=.returned (.slice p' n' c')∧OwN SsAt 7 sdc W.heap.size B w' 49 p' n' c' (stmL ya)∧Grew W w' from ih ya (by omega) B W pba cba (fun b hb=>by have h1:=HB.out b hb;have h2:=hW.sz;have h3:=HNW.out;omega) (HYa.out.kept hW) (by omega)))
   have HIE:=Lib.hid (fun W (hW:Grew w W)=>(show Calls Tryz.prog 29 #[.slice pea ea.length cea] W fun e w'=>∃p' n' c',e=.returned (.slice p' n' c')∧OwN SsAt 7 sdc W.heap.size B w' 49 p' n' c' (stmL ea)∧Grew W w' from ih ea (by omega) B W pea cea (fun b hb=>by have h1:=HB.out b hb;have h2:=hW.sz;have h3:=HNW.out;omega) (HEa.out.kept hW) (by omega)))
   have HNY:Hid (nSs ya≤1048576∧nSs ea≤1048576):=Lib.hid (by omega)
   have HSZ:=Lib.hid (by have h1:=HG.out.sz;have h2:=HNW.out;omega:N≤wr.heap.size)
   clear hma hna htn hln1 hns
   go_wp2_with (first
    | (at_builtin;refine wpList_append_own hangsS rfl _ _ 40 rfl N 49 zS 112 Tryz.underlying40 infoS rfl _ _ _ _ rfl (HR.out.kept hangsS (((Grew.refl wr).alloc _).alloc _)) _ _ _ _ rfl (InN.made hangsS _ _ ⟨ka,sa,na,ra,ya,ea,qa⟩ _ _ _ _ (sat1 hba (HAa.out.kept (HG.out.alloc _)) (HYa.out.kept (HG.out.alloc _)) (HEa.out.kept (HG.out.alloc _))) (alloc_sz _ _) rfl) (fun b hb=>HR.out.off hangsS (HB.out b hb)) (by have h1:=HBD.out;omega) (by have h1:=HBD.out;omega) (by have h1:=HSZ.out;rw [alloc_sz,alloc_sz];omega) ?_;intro p2 c2 w2 ho2 hp2;have HO2:=Lib.hid ho2;have HP2:=Lib.hid hp2;have HX2:=Lib.hid (hp2.blk ((Blk.new wr [.int .i64 ka,.string sa,.int .i64 na,.slice paa ra.length caa,.slice pba ya.length cba,.slice pea ea.length cea,.int .i64 qa] 49).grew ((Grew.refl _).alloc _)) (HR.out.offTop hangsS (Nat.le_refl _)));have HF2:=Lib.hid (hp2.off (S:=wr.heap.size) (by rw [alloc_sz,alloc_sz];omega) (HR.out.offTop hangsS (Nat.le_refl _)));have HG2:Hid (Grew w w2):=Lib.hid (Below.trans ((HG.out.alloc _).alloc _) (HNW.out ▸ hp2.below));have r4:w2.cell? ⟨wr.heap.size,4,none⟩=some (.slice pba ya.length cba):=HX2.out.cell 4;have r5:w2.cell? ⟨wr.heap.size,5,none⟩=some (.slice pea ea.length cea):=HX2.out.cell 5;clear ho2 hp2)
    | (go_at_call 29;(with_reducible refine(HIY.out _ HG2.out).mono ?_);rintro e w3 ⟨p3,n3,c3,rfl,ho3,g3⟩;have hl3:=ho3.len;rw [stmL_len] at hl3;have HL3:Hid (n3≤1048576):=Lib.hid (by have:=HNY.out;omega);have HO3:=Lib.hid (ho3.inN hangsS);have HQ3:=Lib.hid g3;have HX3:=Lib.hid (HX2.out.grew g3);have HG3:=Lib.hid (HG2.out.trans g3);clear ho3 g3 hl3 r4 r5;have r4:w3.cell? ⟨wr.heap.size,4,none⟩=some (.slice pba ya.length cba):=HX3.out.cell 4;have r5:w3.cell? ⟨wr.heap.size,5,none⟩=some (.slice pea ea.length cea):=HX3.out.cell 5)
    | (at_builtin;refine wpList_append_own hangsS rfl _ _ 40 rfl N 49 zS 112 Tryz.underlying40 infoS rfl _ _ _ _ rfl (HO2.out.kept hangsS HQ3.out) _ _ _ _ rfl (HO3.out) (fun b hb=>HO2.out.off hangsS (HB.out b hb)) (by have h1:=HBD.out;have h2:=HL3.out;omega) (by have h1:=HBD.out;have h2:=HL3.out;omega) (by have h1:=HG3.out.sz;have h2:=HNW.out;omega) ?_;intro p4 c4 w4 ho4 hp4;have HO4:=Lib.hid ho4;have HP4:=Lib.hid hp4;have HX4:=Lib.hid (hp4.blk HX3.out HF2.out);have HF4:=Lib.hid (hp4.off HX3.out.lt HF2.out);have HG4:Hid (Grew w w4):=Lib.hid (Below.trans HG3.out (HNW.out ▸ hp4.below));clear r4 r5;have r4:w4.cell? ⟨wr.heap.size,4,none⟩=some (.slice pba ya.length cba):=HX4.out.cell 4;have r5:w4.cell? ⟨wr.heap.size,5,none⟩=some (.slice pea ea.length cea):=HX4.out.cell 5;clear ho4 hp4)
    | (go_at_call 29;(with_reducible refine(HIE.out _ HG4.out).mono ?_);rintro e w5 ⟨p5,n5,c5,rfl,ho5,g5⟩;have hl5:=ho5.len;rw [stmL_len] at hl5;have HL5:Hid (n5≤1048576):=Lib.hid (by have:=HNY.out;omega);have HO5:=Lib.hid (ho5.inN hangsS);have HQ5:=Lib.hid g5;have HG5:=Lib.hid (HG4.out.trans g5);clear ho5 g5 hl5 r4 r5)
    | (at_builtin;refine wpList_append_own hangsS rfl _ _ 40 rfl N 49 zS 112 Tryz.underlying40 infoS rfl _ _ _ _ rfl (HO4.out.kept hangsS HQ5.out) _ _ _ _ rfl (HO5.out) (fun b hb=>HO4.out.off hangsS (HB.out b hb)) (by have h1:=HBD.out;have h2:=HL3.out;have h3:=HL5.out;omega) (by have h1:=HBD.out;have h2:=HL3.out;have h3:=HL5.out;omega) (by have h1:=HG5.out.sz;have h2:=HNW.out;omega) ?_;intro p6 c6 w6 ho6 hp6;have HO6:=Lib.hid ho6;have HP6:=Lib.hid hp6;have HG6:Hid (Grew w w6):=Lib.hid (Below.trans HG5.out (HNW.out ▸ hp6.below));clear ho6 hp6))
   go_roundg (l.length - (j+1))
   case measure=>have:=HLa.out;omega
   case rel=>exact⟨j+1,p6,_,c6,rfl,by go_num,HLa.out,rfl,Lib.hid (by
    rw [HTa.out,stmL_append,stmL_one,stmS]
    have h5:=HO6.out
    simp only [List.append_assoc,List.cons_append,List.nil_append] at h5 ⊢
    exact h5),HG6⟩
  ·obtain rfl:j=l.length:=by omega
   rw [List.take_length] at HR
   go_wp2
   go_ret
   rw [HNW.out] at HR ⊢
   exact⟨p1,n1,c1,rfl,HR.out,HG.out⟩
end Go.Proofs.YtcknpcbkofgdoaaGreatDoor
namespace Go.Proofs.YtcknpcbkofgdoaaGreatDoor
open Go Go.RowKit Go.IntWalk
set_option linter.unusedSimpArgs false
set_option linter.unusedVariables false
set_option maxRecDepth 8000
theorem flatS_snoc {l:List Sm}{j:Nat}{x:Sm}(h:l.take (j+1)=l.take j++[x]):(l.take (j+1)).flatMap (fun s=>subXs s.ar)=(l.take j).flatMap (fun s=>subXs s.ar)++subXs x.ar:=by
 rw [h,List.flatMap_append,List.flatMap_cons,List.flatMap_nil,List.append_nil]
theorem flatS_take (l:List Sm) (j:Nat):((l.take j).flatMap (fun s=>subXs s.ar)).length≤(l.flatMap (fun s=>subXs s.ar)).length:=by
 have h:l.flatMap (fun s=>subXs s.ar)=(l.take j).flatMap (fun s=>subXs s.ar)++(l.drop j).flatMap (fun s=>subXs s.ar):=by rw [← List.flatMap_append,List.take_append_drop]
 rw [h,List.length_append]
 omega
theorem flatS_mem {l:List Sm}{x:Sm}(h:x ∈ l):nXs x.ar≤(l.flatMap (fun s=>subXs s.ar)).length:=by
 induction l with
 | nil=>cases h
 | cons y l ih =>
   rw [List.flatMap_cons,List.length_append,subXs_len]
   rcases List.mem_cons.1 h with rfl | h
   ·omega
   ·have:=ih h;omega
set_option maxHeartbeats 8000000 in
theorem exprs_any (l:List Sm) (B:Nat→Prop) (w:World) (p:Option Addr) (c:Nat) (hB:∀b,B b→b < w.heap.size) (hx:SL B w p c l) (hn:nSs l≤1048576) (hm:mSs l≤1048576) :
 Calls Tryz.prog 22 #[.slice p l.length c] w fun e w'=>∃p' n' c',e=.returned (.slice p' n' c')∧OwN XsAt 6 xdc w.heap.size B w' 35 p' n' c' (expL l)∧Grew w w':=by
 have HST:=Lib.hid (stms_any _ l (Nat.lt_succ_self _) B w p c hB hx hn)
 have hcap:l.length≤c:=hx.cap.1
 have hmax:=hx.cap.2.1
 have hxl:=expL_len l
 rw [expL] at hxl ⊢
 have hml:=stmL_len l
 generalize stmL l=ls at HST hxl hml ⊢
 have HB:=Lib.hid hB
 obtain ⟨N,hN⟩:∃N,N=w.heap.size:=⟨_,rfl⟩
 have HNW:=Lib.hid hN
 rw [← hN] at HB HST ⊢
 have HXL:=Lib.hid hxl
 have HNL:Hid (ls.length≤1048576):=Lib.hid (by omega)
 clear hx hB hN hxl hml
 go_enter Tryz.func22,Tryz.ntmps22
 go_wp2_with (go_at_call 29;(with_reducible refine HST.out.mono ?_);rintro e w1 ⟨p0,n0,c0,rfl,ho0,g0⟩;have HX:=Lib.hid (ho0.inN hangsS);have HG0:=Lib.hid g0;have hl0:=ho0.len;have hk0:=(ho0.inN hangsS).cap hangsS;clear ho0 g0)
 subst hl0
 obtain ⟨M,hM⟩:∃M,M=w1.heap.size:=⟨_,rfl⟩
 have HMW:=Lib.hid hM
 replace HB:Hid (∀b,B b→b < M):=Lib.hid (fun b hb=>by have h1:=HB.out b hb;have h2:=HG0.out.sz;have h3:=HNW.out;omega)
 clear hM
 have hcap1:=hk0.1
 have hmax1:=hk0.2.1
 clear hk0
 go_loopg [3,5,7,11] ls.length (fun gg lv bv b7 iv wr=>∃(j:Nat) (p1:Option Addr) (n1 c1:Nat),lv=.slice p1 n1 c1∧iv=.int .i64 (j:Int)∧j≤ls.length∧gg=ls.length - j∧Hid (OwN XsAt 6 xdc M B wr 35 p1 n1 c1 ((ls.take j).flatMap fun s=>subXs s.ar))∧Hid (Grew w1 wr))
 case atStart=>exact⟨0,none,0,0,rfl,rfl,Nat.zero_le _,rfl,Lib.hid (OwN.nil hangsX),Lib.hid (Grew.refl _)⟩
 case round =>
  obtain ⟨j,p1,n1,c1,rfl,rfl,hj,rfl,HR,HG⟩:=hrel
  by_cases hlt:j < ls.length
  ·have htn:=flatS_take ls j
   have hln1:=HR.out.len
   have hfm:=flatS_mem (List.getElem_mem hlt)
   have HBD:Hid (n1≤1048576):=Lib.hid (by have:=HXL.out;omega)
   obtain ⟨ba,oa,paa,caa,pba,cba,pea,cea,rfl,hba,haa,hboa,hela,hca⟩:=HX.out.getS j hlt
   have hma:=List.getElem_mem hlt
   have hna:=nSs_mem hma
   have hta:=List.take_succ_eq_append_getElem hlt
   have HLa:=Lib.hid (Nat.succ_le_of_lt hlt)
   generalize ls[j]=xa at *
   obtain ⟨ka,sa,na,ra,ya,ea,qa⟩:=xa
   replace hba:sa.size≤1048576:=hba.2
   have HTa:=Lib.hid hta
   have HAa:Hid (XL B w1 paa caa ra):=Lib.hid haa
   have HYa:Hid (SL B w1 pba cba ya):=Lib.hid hboa
   have HEa:Hid (SL B w1 pea cea ea):=Lib.hid hela
   have hcapa:ra.length≤caa∧ya.length≤cba∧ea.length≤cea:=⟨haa.cap.1,hboa.cap.1,hela.cap.1⟩
   have hmaxa:=And.intro haa.cap.2.1 (And.intro hboa.cap.2.1 hela.cap.2.1)
   replace hca:∀i_ u_,(sdc ⟨ka,sa,na,paa,ra.length,caa,pba,ya.length,cba,pea,ea.length,cea,qa⟩)[i_]?=some u_→wr.cell? ⟨ba,oa+j * 7+i_,none⟩=some u_:=fun i_ u_ h_=>Atv.kept (hca i_ u_ h_) HG.out
   have ca0:wr.cell? ⟨ba,oa+j * 7,none⟩=some (.int .i64 ka):=by simpa using hca 0 _ rfl
   have ca1:wr.cell? ⟨ba,oa+j * 7+1,none⟩=some (.string sa):=hca 1 _ rfl
   have ca2:wr.cell? ⟨ba,oa+j * 7+2,none⟩=some (.int .i64 na):=hca 2 _ rfl
   have ca3:wr.cell? ⟨ba,oa+j * 7+3,none⟩=some (.slice paa ra.length caa):=hca 3 _ rfl
   have ca4:wr.cell? ⟨ba,oa+j * 7+4,none⟩=some (.slice pba ya.length cba):=hca 4 _ rfl
   have ca5:wr.cell? ⟨ba,oa+j * 7+5,none⟩=some (.slice pea ea.length cea):=hca 5 _ rfl
   have ca6:wr.cell? ⟨ba,oa+j * 7+6,none⟩=some (.int .i64 qa):=hca 6 _ rfl
   clear hca haa hboa hela hta
   have hfm2:nXs ra≤1048576:=Nat.le_trans hfm (by have:=HXL.out;omega)
   have HRA:=Lib.hid hfm2
   clear hma hna htn hln1 hfm hfm2
   go_wp2
   have HBX:Hid (Blk wr.heap.size [.int .i64 ka,.string sa,.int .i64 na,.slice paa ra.length caa,.slice pba ya.length cba,.slice pea ea.length cea,.int .i64 qa] 49 (wr.alloc (Obj.cells #[.int .i64 ka,.string sa,.int .i64 na,.slice paa ra.length caa,.slice pba ya.length cba,.slice pea ea.length cea,.int .i64 qa] 49))):=Lib.hid (Blk.new _ _ _)
   have HG1:Hid (Grew w1 (wr.alloc (Obj.cells #[.int .i64 ka,.string sa,.int .i64 na,.slice paa ra.length caa,.slice pba ya.length cba,.slice pea ea.length cea,.int .i64 qa] 49))):=Lib.hid (HG.out.alloc _)
   have HR1:=Lib.hid (HR.out.kept hangsX ((Grew.refl wr).alloc (Obj.cells #[.int .i64 ka,.string sa,.int .i64 na,.slice paa ra.length caa,.slice pba ya.length cba,.slice pea ea.length cea,.int .i64 qa] 49)))
   generalize (wr.alloc (Obj.cells #[.int .i64 ka,.string sa,.int .i64 na,.slice paa ra.length caa,.slice pba ya.length cba,.slice pea ea.length cea,.int .i64 qa] 49))=wa at HBX HG1 HR1 ⊢
   clear ca0 ca1 ca2 ca3 ca4 ca5 ca6 HG HR
   generalize wr.heap.size=Sa at HBX ⊢
   go_loopg [3,7,18] ra.length (fun gg lv bv iv wx=>∃(i:Nat) (p3:Option Addr) (n3 c3:Nat),lv=.slice p3 n3 c3∧iv=.int .i64 (i:Int)∧i≤ra.length∧gg=ra.length - i∧Hid (OwN XsAt 6 xdc M B wx 35 p3 n3 c3 (((ls.take j).flatMap fun s=>subXs s.ar)++subXs (ra.take i)))∧Hid (Grew w1 wx))
   case atStart=>exact⟨0,p1,n1,c1,rfl,rfl,Nat.zero_le _,rfl,Lib.hid (by rw [List.take_zero,subXs,List.append_nil];exact HR1.out),HG1⟩
   case round =>
    obtain ⟨i,p3,n3,c3,rfl,rfl,hi,rfl,HR3,HG3⟩:=hrel
    by_cases hlt:i < ra.length
    ·have htn:=nXs_take ra i
     have hln3:=HR3.out.len
     have hln1:=HR1.out.len
     rw [List.length_append,subXs_len,← hln1] at hln3
     have HBD3:Hid (n3≤2097152):=Lib.hid (by have h1:=HBD.out;have h2:=HRA.out;omega)
     obtain ⟨bz,oz,pz,cz,rfl,hbz,haz,hcz⟩:=HAa.out.get i hlt
     have hmz:=List.getElem_mem hlt
     have hnz:=nXs_mem hmz
     have htz:=List.take_succ_eq_append_getElem hlt
     have HLz:=Lib.hid (Nat.succ_le_of_lt hlt)
     generalize ra[i]=xz at *
     obtain ⟨kz,sz,vz,o_z,rz,qz⟩:=xz
     replace hbz:sz.size≤1048576∧vz≤32767:=hbz.2
     have HTz:=Lib.hid htz
     have HAz:Hid (XL B w1 pz cz rz):=Lib.hid haz
     have hcapz:rz.length≤cz:=haz.cap.1
     have hmaxz:=haz.cap.2.1
     replace hcz:∀i_ u_,(xdc ⟨kz,sz,vz,o_z,pz,rz.length,cz,qz⟩)[i_]?=some u_→wr.cell? ⟨bz,oz+i * 6+i_,none⟩=some u_:=fun i_ u_ h_=>Atv.kept (hcz i_ u_ h_) HG3.out
     have cz0:wr.cell? ⟨bz,oz+i * 6,none⟩=some (.int .i64 kz):=by simpa using hcz 0 _ rfl
     have cz1:wr.cell? ⟨bz,oz+i * 6+1,none⟩=some (.string sz):=hcz 1 _ rfl
     have cz2:wr.cell? ⟨bz,oz+i * 6+2,none⟩=some (.int .i16 vz):=hcz 2 _ rfl
     have cz3:wr.cell? ⟨bz,oz+i * 6+3,none⟩=some (.int .i64 o_z):=hcz 3 _ rfl
     have cz4:wr.cell? ⟨bz,oz+i * 6+4,none⟩=some (.slice pz rz.length cz):=hcz 4 _ rfl
     have cz5:wr.cell? ⟨bz,oz+i * 6+5,none⟩=some (.int .i64 qz):=hcz 5 _ rfl
     clear hcz haz htz
     have HNX:Hid (nX ⟨kz,sz,vz,o_z,rz,qz⟩≤1048576):=Lib.hid (by have h2:=HRA.out;omega)
     have HSB:=Lib.hid (fun W (hW:Grew w1 W)=>(show Calls Tryz.prog 15 #[xv kz sz vz o_z pz rz.length cz qz] W fun e w'=>∃p' n' c',e=.returned (.slice p' n' c')∧OwN XsAt 6 xdc W.heap.size B w' 35 p' n' c' (subX ⟨kz,sz,vz,o_z,rz,qz⟩)∧Grew W w' from sub_any ⟨kz,sz,vz,o_z,rz,qz⟩ B W pz cz (fun b hb=>by have h1:=HB.out b hb;have h2:=hW.sz;have h3:=HMW.out;omega) hbz (HAz.out.kept hW) HNX.out))
     clear hmz hnz htn hln3 hln1
     go_wp2_with (first
      | (go_at_call 15;(with_reducible refine(HSB.out _ (HG3.out.alloc _)).mono ?_);rintro e w5 ⟨p5,n5,c5,rfl,ho5,g5⟩;have hl5:=ho5.len;rw [subX_len] at hl5;have HL5:Hid (n5≤1048576):=Lib.hid (by have:=HNX.out;omega);have HO5:=Lib.hid (ho5.inN hangsX);have HG5:=Lib.hid (((Grew.refl wr).alloc _).trans g5);clear ho5 g5 hl5)
      | (at_builtin;refine wpList_append_own hangsX rfl _ _ 33 rfl M 35 zX 72 Tryz.underlying33 infoX rfl _ _ _ _ rfl (HR3.out.kept hangsX HG5.out) _ _ _ _ rfl (HO5.out) (fun b hb=>HR3.out.off hangsX (HB.out b hb)) (by have h1:=HBD3.out;have h2:=HL5.out;omega) (by have h1:=HBD3.out;have h2:=HL5.out;omega) (by have h1:=(HG3.out.trans HG5.out).sz;have h2:=HMW.out;omega) ?_;intro p6 c6 w6 ho6 hp6;have HO6:=Lib.hid ho6;have HP6:=Lib.hid hp6;clear ho6 hp6))
     have HG6:Hid (Grew w1 w6):=Lib.hid (Below.trans (HG3.out.trans HG5.out) (HMW.out ▸ HP6.out.below))
     go_roundg (ra.length - (i+1))
     case measure=>have:=HLz.out;omega
     case rel=>exact⟨i+1,p6,_,c6,rfl,by go_num,HLz.out,rfl,Lib.hid (by
      rw [HTz.out,subXs_append,subXs_one,← List.append_assoc]
      exact HO6.out),HG6⟩
    ·obtain rfl:i=ra.length:=by omega
     rw [List.take_length] at HR3
     go_wp2
     go_roundg (ls.length - (j+1))
     case measure=>have:=HLa.out;omega
     case rel=>exact⟨j+1,p3,n3,c3,rfl,by go_num,HLa.out,rfl,Lib.hid (by rw [flatS_snoc HTa.out];exact HR3.out),HG3⟩
  ·obtain rfl:j=ls.length:=by omega
   rw [List.take_length] at HR
   go_wp2
   go_ret
   exact⟨p1,n1,c1,rfl,HR.out.down (by have h2:=HG0.out.sz;have h3:=HNW.out;have h4:=HMW.out;omega),HG0.out.trans HG.out⟩
end Go.Proofs.YtcknpcbkofgdoaaGreatDoor
namespace Go.Proofs.YtcknpcbkofgdoaaGreatDoor
open Go Go.RowKit Go.IntWalk
set_option linter.unusedSimpArgs false
set_option linter.unusedVariables false
set_option maxRecDepth 8000
section
variable {dst:Option Tmp}{ty:TypeId}{pos:String}{after:Array Edge}{g:Option (Nat × Bool)}{a:Act}{w:World}{T:Value→World→Prop}
theorem runs_max {x y:Operand}{b c:Nat}(hx:a.eval x=.int .i64 (b:Int)) (hy:a.eval y=.int .i64 (c:Int)) (h:T (.int .i64 ((max b c:Nat):Int)) w):Runs Tryz.prog ⟨dst,.call { callee:=.builtin .max,args:=#[x,y],argTypes:=#[3,3] },3,pos,after,g⟩ a w T:=by
 refine Runs.value (v:=.int .i64 ((max b c:Nat):Int)) (w':=w) ?_ h
 simp only [execOp,resolve,invoke,builtin]
 by_cases hlt:b < c
 ·have h1:max b c=c:=by omega
  have h2:(b:Int) < (c:Int):=by omega
  rw [h1]
  simp [hx,hy,Result.andThen]
  go_simp
 ·have h1:max b c=b:=by omega
  have h2:¬ (b:Int) < (c:Int):=by omega
  rw [h1]
  simp [hx,hy,Result.andThen]
  go_simp
end
mutual
def dX:Xp→Nat
 | ⟨_,_,_,_,ar,_⟩=>dXs ar+1
def dXs:List Xp→Nat
 | []=>0
 | x :: xs=>max (dX x) (dXs xs)
end
mutual
def dS:Sm→Nat
 | ⟨_,_,_,ar,b,e,_⟩=>max (max (dSs b) (dSs e)) (dXs ar)+1
def dSs:List Sm→Nat
 | []=>0
 | x :: xs=>max (dS x) (dSs xs)
end
theorem dXs_append:∀a b:List Xp,dXs (a++b)=max (dXs a) (dXs b)
 | [],b=>by rw [List.nil_append,dXs,Nat.zero_max]
 | x :: a,b=>by rw [List.cons_append,dXs,dXs,dXs_append a b,Nat.max_assoc]
theorem dSs_append:∀a b:List Sm,dSs (a++b)=max (dSs a) (dSs b)
 | [],b=>by rw [List.nil_append,dSs,Nat.zero_max]
 | x :: a,b=>by rw [List.cons_append,dSs,dSs,dSs_append a b,Nat.max_assoc]
theorem dXs_snoc {l:List Xp}{j:Nat}{x:Xp}(h:l.take (j+1)=l.take j++[x]):dXs (l.take (j+1))=max (dXs (l.take j)) (dX x):=by
 rw [h,dXs_append,dXs,dXs,Nat.max_zero]
theorem dSs_snoc {l:List Sm}{j:Nat}{x:Sm}(h:l.take (j+1)=l.take j++[x]):dSs (l.take (j+1))=max (dSs (l.take j)) (dS x):=by
 rw [h,dSs_append,dSs,dSs,Nat.max_zero]
mutual
theorem dX_le:∀x,dX x≤nX x
 | ⟨k,s,v,o,ar,q⟩=>by rw [dX,nX];have:=dXs_le ar;omega
theorem dXs_le:∀l,dXs l≤nXs l
 | []=>Nat.le_refl _
 | x :: xs=>by rw [dXs,nXs];have:=dX_le x;have:=dXs_le xs;omega
end
mutual
theorem dS_le:∀x,dS x≤nS x+mS x
 | ⟨k,s,n,ar,b,e,q⟩=>by
   rw [dS,nS,mS]
   have:=dXs_le ar;have:=dSs_le b;have:=dSs_le e
   omega
theorem dSs_le:∀l,dSs l≤nSs l+mSs l
 | []=>Nat.le_refl _
 | x :: xs=>by rw [dSs,nSs,mSs];have:=dS_le x;have:=dSs_le xs;omega
end
set_option maxHeartbeats 8000000 in
theorem depx_any:∀(x:Xp) (B:Nat→Prop) (w:World) (p:Option Addr) (c:Nat),XL B w p c x.ar→nX x≤1048576 →
 Calls Tryz.prog 125 #[xv x.k x.s x.v x.o p x.ar.length c x.q] w fun e w'=>e=.returned (.int .i64 (dX x:Nat))∧Grew w w':=by
 intro x
 induction x using Xp.ind with
 | h k s v o ar q ih =>
 intro B w p c hx hn
 have HX:Hid (XL B w p c ar):=Lib.hid hx
 have hcap:ar.length≤c:=hx.cap.1
 have hmax:=hx.cap.2.1
 have hnx:nX ⟨k,s,v,o,ar,q⟩=nXs ar+1:=rfl
 have hdx:dX ⟨k,s,v,o,ar,q⟩=dXs ar+1:=rfl
 show Calls Tryz.prog 125 #[xv k s v o p ar.length c q] w _
 rw [hdx]
 rw [hnx] at hn
 clear hx hnx hdx
 go_enter Tryz.func125,Tryz.ntmps125
 go_wp2
 go_loopg [3,5,9] ar.length (fun gg lv bv iv wr=>∃(j d:Nat),lv=.int .i64 (d:Int)∧iv=.int .i64 (j:Int)∧j≤ar.length∧gg=ar.length - j∧Hid (d=dXs (ar.take j))∧Hid (Grew w wr))
 case atStart=>exact⟨0,0,rfl,rfl,Nat.zero_le _,rfl,Lib.hid rfl,Lib.hid ((Grew.refl w).alloc _)⟩
 case round =>
  obtain ⟨j,d,rfl,rfl,hj,rfl,HD,HG⟩:=hrel
  by_cases hlt:j < ar.length
  ·
   obtain ⟨ba,oa,pa,ca,rfl,hba,haa,hca⟩:=HX.out.get j hlt
   have hma:=List.getElem_mem hlt
   have hna:=nXs_mem hma
   have hta:=List.take_succ_eq_append_getElem hlt
   have HLa:=Lib.hid (Nat.succ_le_of_lt hlt)
   have hih:=ih _ hma B
   generalize ar[j]=xa at *
   obtain ⟨ka,sa,va,o_a,ra,qa⟩:=xa
   replace hba:sa.size≤1048576∧va≤32767:=hba.2
   have HTa:=Lib.hid hta
   have HAa:Hid (XL B w pa ca ra):=Lib.hid haa
   have hcapa:ra.length≤ca:=haa.cap.1
   have hmaxa:=haa.cap.2.1
   replace hca:∀i_ u_,(xdc ⟨ka,sa,va,o_a,pa,ra.length,ca,qa⟩)[i_]?=some u_→wr.cell? ⟨ba,oa+j * 6+i_,none⟩=some u_:=fun i_ u_ h_=>Atv.kept (hca i_ u_ h_) HG.out
   have ca0:wr.cell? ⟨ba,oa+j * 6,none⟩=some (.int .i64 ka):=by simpa using hca 0 _ rfl
   have ca1:wr.cell? ⟨ba,oa+j * 6+1,none⟩=some (.string sa):=hca 1 _ rfl
   have ca2:wr.cell? ⟨ba,oa+j * 6+2,none⟩=some (.int .i16 va):=hca 2 _ rfl
   have ca3:wr.cell? ⟨ba,oa+j * 6+3,none⟩=some (.int .i64 o_a):=hca 3 _ rfl
   have ca4:wr.cell? ⟨ba,oa+j * 6+4,none⟩=some (.slice pa ra.length ca):=hca 4 _ rfl
   have ca5:wr.cell? ⟨ba,oa+j * 6+5,none⟩=some (.int .i64 qa):=hca 5 _ rfl
   clear hca haa hta
   obtain ⟨m,hmd⟩:∃m,dX ⟨ka,sa,va,o_a,ra,qa⟩=m:=⟨_,rfl⟩
   have HMD:=Lib.hid hmd
   have HIH:=Lib.hid (fun W (hW:Grew w W)=>(show Calls Tryz.prog 125 #[xv ka sa va o_a pa ra.length ca qa] W fun e w'=>e=.returned (.int .i64 (m:Nat))∧Grew W w' from hmd ▸ hih W pa ca (HAa.out.kept hW) (by omega)))
   clear hih hma hna hmd
   go_wp2_with ((go_at_call 125;(with_reducible refine(HIH.out _ (HG.out.alloc _)).mono ?_);rintro e w2 ⟨rfl,g2⟩;have HG2:=Lib.hid ((HG.out.alloc _).trans g2);clear g2))
   all_goals
    go_roundg (ar.length - (j+1))
    case measure=>have:=HLa.out;omega
    case rel=>exact⟨j+1,_,rfl,by go_num,HLa.out,rfl,Lib.hid (by rw [dXs_snoc HTa.out,← HD.out,HMD.out];omega),HG2⟩
  ·obtain rfl:j=ar.length:=by omega
   rw [List.take_length] at HD
   have hdle:=dXs_le ar
   rw [← HD.out] at hdle
   go_wp2
   go_ret
   exact⟨by rw [← HD.out];go_num,HG.out⟩
end Go.Proofs.YtcknpcbkofgdoaaGreatDoor
namespace Go.Proofs.YtcknpcbkofgdoaaGreatDoor
open Go Go.RowKit Go.IntWalk
set_option linter.unusedSimpArgs false
set_option linter.unusedVariables false
set_option maxRecDepth 8000
section
variable {dst:Option Tmp}{ty:TypeId}{pos:String}{after:Array Edge}{g:Option (Nat × Bool)}{a:Act}{w:World}{T:Value→World→Prop}
theorem rn_fld_49_4 {x:Operand}{S o:Nat}(hx:a.eval x=.pointer (some ⟨S,o,none⟩)) (h:T (.pointer (some ⟨S,o+4,none⟩)) w):Runs Tryz.prog ⟨dst,.fieldAddr 49 x 4,ty,pos,after,g⟩ a w T:=by
 refine Runs.value (v:=.pointer (some ⟨S,o+4,none⟩)) (w':=w) ?_ h
 simp only [execOp,hx]
 go_simp
theorem rn_ld_40 {x:Operand}{q:Addr}{v:Value}(hx:a.eval x=.pointer (some q)) (hc:w.cell? q=some v) (h:T v w):Runs Tryz.prog ⟨dst,.load 40 x,ty,pos,after,g⟩ a w T:=by
 refine Runs.value (v:=v) (w':=w) ?_ h
 simp only [execOp,hx]
 go_simp
theorem rn_fld_49_5 {x:Operand}{S o:Nat}(hx:a.eval x=.pointer (some ⟨S,o,none⟩)) (h:T (.pointer (some ⟨S,o+5,none⟩)) w):Runs Tryz.prog ⟨dst,.fieldAddr 49 x 5,ty,pos,after,g⟩ a w T:=by
 refine Runs.value (v:=.pointer (some ⟨S,o+5,none⟩)) (w':=w) ?_ h
 simp only [execOp,hx]
 go_simp
end
theorem enters_ds:Enters Tryz.prog 89:=fun args w=>by go_simp
set_option maxHeartbeats 8000000 in
theorem deps_any:∀(n:Nat) (l:List Sm),nSs l < n→∀(B:Nat→Prop) (w:World) (p:Option Addr) (c:Nat),SL B w p c l→nSs l≤1048576→mSs l≤1048576 →
 Calls Tryz.prog 89 #[.slice p l.length c] w fun e w'=>e=.returned (.int .i64 (dSs l:Nat))∧Grew w w':=by
 intro n
 induction n with
 | zero=>intro _ h;exact absurd h (Nat.not_lt_zero _)
 | succ n ih =>
 intro l hln B w p c hx hn hm
 have HX:Hid (SL B w p c l):=Lib.hid hx
 have hcap:l.length≤c:=hx.cap.1
 have hmax:=hx.cap.2.1
 clear hx
 go_enter Tryz.func89,Tryz.ntmps89
 go_wp2
 go_loopg [3,5,6,8,11] l.length (fun gg lv bv kv b8 iv wr=>∃(j d:Nat),lv=.int .i64 (d:Int)∧iv=.int .i64 (j:Int)∧j≤l.length∧gg=l.length - j∧Hid (d=dSs (l.take j))∧Hid (Grew w wr))
 case atStart=>exact⟨0,0,rfl,rfl,Nat.zero_le _,rfl,Lib.hid rfl,Lib.hid (Grew.refl _)⟩
 case round =>
  obtain ⟨j,d,rfl,rfl,hj,rfl,HD,HG⟩:=hrel
  by_cases hlt:j < l.length
  ·have hmm:=mSs_mem (List.getElem_mem hlt)
   obtain ⟨ba,oa,paa,caa,pba,cba,pea,cea,rfl,hba,haa,hboa,hela,hca⟩:=HX.out.get j hlt
   have hma:=List.getElem_mem hlt
   have hna:=nSs_mem hma
   have hta:=List.take_succ_eq_append_getElem hlt
   have HLa:=Lib.hid (Nat.succ_le_of_lt hlt)
   generalize l[j]=xa at *
   obtain ⟨ka,sa,na,ra,ya,ea,qa⟩:=xa
   replace hba:sa.size≤1048576:=hba.2
   have HTa:=Lib.hid hta
   have HAa:Hid (XL B w paa caa ra):=Lib.hid haa
   have HYa:Hid (SL B w pba cba ya):=Lib.hid hboa
   have HEa:Hid (SL B w pea cea ea):=Lib.hid hela
   have hcapa:ra.length≤caa∧ya.length≤cba∧ea.length≤cea:=⟨haa.cap.1,hboa.cap.1,hela.cap.1⟩
   have hmaxa:=And.intro haa.cap.2.1 (And.intro hboa.cap.2.1 hela.cap.2.1)
   replace hca:∀i_ u_,(sdc ⟨ka,sa,na,paa,ra.length,caa,pba,ya.length,cba,pea,ea.length,cea,qa⟩)[i_]?=some u_→wr.cell? ⟨ba,oa+j * 7+i_,none⟩=some u_:=fun i_ u_ h_=>Atv.kept (hca i_ u_ h_) HG.out
   have ca0:wr.cell? ⟨ba,oa+j * 7,none⟩=some (.int .i64 ka):=by simpa using hca 0 _ rfl
   have ca1:wr.cell? ⟨ba,oa+j * 7+1,none⟩=some (.string sa):=hca 1 _ rfl
   have ca2:wr.cell? ⟨ba,oa+j * 7+2,none⟩=some (.int .i64 na):=hca 2 _ rfl
   have ca3:wr.cell? ⟨ba,oa+j * 7+3,none⟩=some (.slice paa ra.length caa):=hca 3 _ rfl
   have ca4:wr.cell? ⟨ba,oa+j * 7+4,none⟩=some (.slice pba ya.length cba):=hca 4 _ rfl
   have ca5:wr.cell? ⟨ba,oa+j * 7+5,none⟩=some (.slice pea ea.length cea):=hca 5 _ rfl
   have ca6:wr.cell? ⟨ba,oa+j * 7+6,none⟩=some (.int .i64 qa):=hca 6 _ rfl
   clear hca haa hboa hela hta
   have hns:nS ⟨ka,sa,na,ra,ya,ea,qa⟩=nSs ya+nSs ea+1:=rfl
   have hms:mS ⟨ka,sa,na,ra,ya,ea,qa⟩=nXs ra+mSs ya+mSs ea:=rfl
   obtain ⟨m1,hm1⟩:∃m,dSs ya=m:=⟨_,rfl⟩
   obtain ⟨m2,hm2⟩:∃m,dSs ea=m:=⟨_,rfl⟩
   have hds:dS ⟨ka,sa,na,ra,ya,ea,qa⟩=max (max m1 m2) (dXs ra)+1:=by rw [dS,hm1,hm2]
   have HDS:=Lib.hid hds
   have HIY:=Lib.hid (fun W (hW:Grew w W)=>(show Calls Tryz.prog 89 #[.slice pba ya.length cba] W fun e w'=>e=.returned (.int .i64 (m1:Nat))∧Grew W w' from hm1 ▸ ih ya (by omega) B W pba cba (HYa.out.kept hW) (by omega) (by omega)))
   have HIE:=Lib.hid (fun W (hW:Grew w W)=>(show Calls Tryz.prog 89 #[.slice pea ea.length cea] W fun e w'=>e=.returned (.int .i64 (m2:Nat))∧Grew W w' from hm2 ▸ ih ea (by omega) B W pea cea (HEa.out.kept hW) (by omega) (by omega)))
   have hb1:=dSs_le ya
   have hb2:=dSs_le ea
   have hb3:=dXs_le ra
   have HRA:Hid (nXs ra≤1048576):=Lib.hid (by omega)
   have HMX:Hid (m1≤2097152∧m2≤2097152∧dXs ra≤2097152):=Lib.hid (by omega)
   clear hma hna hmm hns hms hm1 hm2 hds hb1 hb2 hb3
   go_upto_region 5 with fail
   have hb:Blk wr.heap.size [.int .i64 ka,.string sa,.int .i64 na,.slice paa ra.length caa,.slice pba ya.length cba,.slice pea ea.length cea,.int .i64 qa] 49 (wr.alloc (Obj.cells #[.int .i64 ka,.string sa,.int .i64 na,.slice paa ra.length caa,.slice pba ya.length cba,.slice pea ea.length cea,.int .i64 qa] 49)):=Blk.new wr _ _
   have hgV:Grew w (wr.alloc (Obj.cells #[.int .i64 ka,.string sa,.int .i64 na,.slice paa ra.length caa,.slice pba ya.length cba,.slice pea ea.length cea,.int .i64 qa] 49)):=HG.out.alloc _
   generalize (wr.alloc (Obj.cells #[.int .i64 ka,.string sa,.int .i64 na,.slice paa ra.length caa,.slice pba ya.length cba,.slice pea ea.length cea,.int .i64 qa] 49))=V at hb hgV ⊢
   generalize wr.heap.size=S at hb ⊢
   have HXB:=Lib.hid hb
   have HGV:=Lib.hid hgV
   have d4:Atv ⟨S,4,none⟩ (.slice pba ya.length cba) V.drew:=(hb.grew (Grew.refl _).drw).atv 4 rfl
   have d5:Atv ⟨S,5,none⟩ (.slice pea ea.length cea) V.drew:=(hb.grew (Grew.refl _).drw).atv 5 rfl
   clear ca0 ca1 ca2 ca3 ca4 ca5 ca6 hb hgV HG
   refine wp_posts [some 15,some 16,some 17,some 18,some 19,some 20,some 21,some 6] [Zf,Zf,Zf,Zf,Zf,Zf,Zt,Zf,Zf,Zf,Zf,Zf,Zf,Zf,Zf,Zt,Zt,Zt,Zt,Zt,Zt,Zt,Zf,Zf,Zf,Zf,Zf,Zf,Zf,Zf,Zf,Zf,Zf,Zf,Zf,Zf,Zf,Zf,Zf,Zf] [fun v _=>v=.pointer (some ⟨S,4,none⟩),fun v _=>v=.slice pba ya.length cba,fun v _=>v=.int .i64 (((m1:Nat):Int)),fun v _=>v=.pointer (some ⟨S,5,none⟩),fun v _=>v=.slice pea ea.length cea,fun v _=>v=.int .i64 (((m2:Nat):Int)),fun v _=>v=.int .i64 (((max m1 m2:Nat)):Int),fun v _=>v=.int .i64 (((max m1 m2:Nat):Int))] (by kernel_rfl) (by kernel_rfl) rfl ?_ ⟨?_,?_,?_,?_,?_,?_,?_,?_,trivial⟩ ?_
   ·exact⟨Zi,Zi,Zi,Zi,Zi,Zi,Zi,Zi,trivial⟩
   ·intro u w hR hd;exact rn_fld_49_4 (ev rfl) Zr
   ·intro u w hR hd;exact rn_ld_40 (ev (hd.1 rfl)) (d4.kept hR) Zr
   ·intro u w hR hd;exact runs_c1 enters_ds (ev (hd.1 rfl)) (callp (fun _ e=>e) (HIY.out _ (HGV.out.trans ((Grew.refl _).drw.trans hR))))
   ·intro u w hR hd;exact rn_fld_49_5 (ev rfl) Zr
   ·intro u w hR hd;exact rn_ld_40 (ev (hd.1 rfl)) (d5.kept hR) Zr
   ·intro u w hR hd;exact runs_c1 enters_ds (ev (hd.1 rfl)) (callp (fun _ e=>e) (HIE.out _ (HGV.out.trans ((Grew.refl _).drw.trans hR))))
   ·intro u w hR hd;exact runs_max (ev (hd.1 rfl)) (ev (hd.2.1 rfl)) Zr
   ·intro u w hR hd;exact runs_mva (ev (hd.1 rfl)) Zr
   ·intro u w4 hR h
    have he:u 6=.int .i64 ((max m1 m2:Nat):Int):=h 7 (by decide)
    have HG4:=Lib.hid (HGV.out.trans ((Grew.refl V).drw.trans hR))
    have r3:w4.cell? ⟨S,3,none⟩=some (.slice paa ra.length caa):=(HXB.out.grew ((Grew.refl V).drw.trans hR)).cell 3
    simp only [mixA,mixL,zz9,zz0,he]
    clear h he hR d4 d5
    go_wp2
    clear r3
    generalize w4=wq at HG4 ⊢
    go_loopg [6,8,25] ra.length (fun gg kv b8 iv wx=>∃(i m:Nat),kv=.int .i64 (m:Int)∧iv=.int .i64 (i:Int)∧i≤ra.length∧gg=ra.length - i∧Hid (m=max (max m1 m2) (dXs (ra.take i)))∧Hid (Grew w wx))
    case atStart=>exact⟨0,_,rfl,rfl,Nat.zero_le _,rfl,Lib.hid (by rw [List.take_zero,dXs,Nat.max_zero]),HG4⟩
    case round =>
     obtain ⟨i,m,rfl,rfl,hi,rfl,HM,HG5⟩:=hrel
     by_cases hlt:i < ra.length
     ·
      obtain ⟨bz,oz,pz,cz,rfl,hbz,haz,hcz⟩:=HAa.out.get i hlt
      have hmz:=List.getElem_mem hlt
      have hnz:=nXs_mem hmz
      have htz:=List.take_succ_eq_append_getElem hlt
      have HLz:=Lib.hid (Nat.succ_le_of_lt hlt)
      generalize ra[i]=xz at *
      obtain ⟨kz,sz,vz,o_z,rz,qz⟩:=xz
      replace hbz:sz.size≤1048576∧vz≤32767:=hbz.2
      have HTz:=Lib.hid htz
      have HAz:Hid (XL B w pz cz rz):=Lib.hid haz
      have hcapz:rz.length≤cz:=haz.cap.1
      have hmaxz:=haz.cap.2.1
      replace hcz:∀i_ u_,(xdc ⟨kz,sz,vz,o_z,pz,rz.length,cz,qz⟩)[i_]?=some u_→wr.cell? ⟨bz,oz+i * 6+i_,none⟩=some u_:=fun i_ u_ h_=>Atv.kept (hcz i_ u_ h_) HG5.out
      have cz0:wr.cell? ⟨bz,oz+i * 6,none⟩=some (.int .i64 kz):=by simpa using hcz 0 _ rfl
      have cz1:wr.cell? ⟨bz,oz+i * 6+1,none⟩=some (.string sz):=hcz 1 _ rfl
      have cz2:wr.cell? ⟨bz,oz+i * 6+2,none⟩=some (.int .i16 vz):=hcz 2 _ rfl
      have cz3:wr.cell? ⟨bz,oz+i * 6+3,none⟩=some (.int .i64 o_z):=hcz 3 _ rfl
      have cz4:wr.cell? ⟨bz,oz+i * 6+4,none⟩=some (.slice pz rz.length cz):=hcz 4 _ rfl
      have cz5:wr.cell? ⟨bz,oz+i * 6+5,none⟩=some (.int .i64 qz):=hcz 5 _ rfl
      clear hcz haz htz
      obtain ⟨mz,hmz2⟩:∃m,dX ⟨kz,sz,vz,o_z,rz,qz⟩=m:=⟨_,rfl⟩
      have HMZ:=Lib.hid hmz2
      have HDX:=Lib.hid (fun W (hW:Grew w W)=>(show Calls Tryz.prog 125 #[xv kz sz vz o_z pz rz.length cz qz] W fun e w'=>e=.returned (.int .i64 (mz:Nat))∧Grew W w' from hmz2 ▸ depx_any ⟨kz,sz,vz,o_z,rz,qz⟩ B W pz cz (HAz.out.kept hW) (by have:=HRA.out;omega)))
      clear hmz hnz hmz2
      go_wp2_with (go_at_call 125;(with_reducible refine(HDX.out _ (HG5.out.alloc _)).mono ?_);rintro e w6 ⟨rfl,g6⟩;have HG6:=Lib.hid ((HG5.out.alloc _).trans g6);clear g6)
      all_goals
       go_roundg (ra.length - (i+1))
       case measure=>have:=HLz.out;omega
       case rel=>exact⟨i+1,_,rfl,by go_num,HLz.out,rfl,Lib.hid (by have h1:=HM.out;rw [dXs_snoc HTz.out,HMZ.out];omega),HG6⟩
     ·obtain rfl:i=ra.length:=by omega
      rw [List.take_length] at HM
      have hmb:m≤2097152:=by have h1:=HM.out;have h2:=HMX.out;omega
      go_wp2
      all_goals
       go_roundg (l.length - (j+1))
       case measure=>have:=HLa.out;omega
       case rel=>first | exact⟨j+1,m+1,by go_num,by go_num,HLa.out,rfl,Lib.hid (by rw [dSs_snoc HTa.out,HDS.out,← HM.out,← HD.out];omega),HG5⟩ | exact⟨j+1,d,by go_num,by go_num,HLa.out,rfl,Lib.hid (by rw [dSs_snoc HTa.out,HDS.out,← HM.out,← HD.out];omega),HG5⟩
  ·obtain rfl:j=l.length:=by omega
   rw [List.take_length] at HD
   go_wp2
   go_ret
   exact⟨by rw [← HD.out];rfl,HG.out⟩
end Go.Proofs.YtcknpcbkofgdoaaGreatDoor
namespace Go.Proofs.YtcknpcbkofgdoaaGreatDoor
open Go Go.RowKit Go.IntWalk
set_option linter.unusedSimpArgs false
set_option linter.unusedVariables false
set_option maxRecDepth 8000
structure PgIn (B:Nat→Prop) (w:World) (P:Pg) (cp gp sp op hp tp:Option Addr) (cc gc sc oc hc tc:Nat):Prop where
 cs:InB B cp P.cs.length∧InN FlatAt 3 cnc B w cp P.cs.length cc P.cs
 gs:InB B gp P.gs.length∧InN FlatAt 4 glc B w gp P.gs.length gc P.gs
 ss:InB B sp P.ss.length∧InN FlatAt 1 strc B w sp P.ss.length sc P.ss
 os:InB B op P.os.length∧InN FlatAt 1 strc B w op P.os.length oc P.os
 hs:InB B hp P.hs.length∧InN FlatAt 3 chc B w hp P.hs.length hc P.hs
 ts:TL B w tp tc P.ts
 sz:(∀c ∈ P.cs,c.s.size≤1048576∧c.v≤32767)∧(∀c ∈ P.gs,c.s.size≤1048576∧c.i≤32767)∧(∀c ∈ P.ss,c.size≤1048576)∧(∀c ∈ P.os,c.size≤1048576)∧∀c ∈ P.hs,c.s.size≤1048576
abbrev pgv (P:Pg) (cp gp sp op hp tp:Option Addr) (cc gc sc oc hc tc:Nat):Value:=.agg #[.slice cp P.cs.length cc,.slice gp P.gs.length gc,.slice sp P.ss.length sc,.slice op P.os.length oc,.slice hp P.hs.length hc,.slice tp P.ts.length tc]
theorem InN.keepB {α β:Type}{k:Nat}{enc:α→List Value}{At:(Nat→Prop)→World→List β→List α→Prop}{B:Nat→Prop}{w w':World}{p:Option Addr}{n c:Nat}{l:List β}(T:Hangs k enc At) (h0:InB B p n) (h:InN At k enc B w p n c l) (hb:∀b,B b→b < w.heap.size→w'.heap[b]?=w.heap[b]?):InN At k enc B w' p n c l:=by
 obtain ⟨h1,L,h2,h3⟩:=h
 exact⟨h1,L,h2.keep fun hn_ b o e hl=>hb b (h0 (by rw [h1,← T.len h3];exact hn_) ⟨b,o,none⟩ e) hl,T.keep (fun _ h=>h) hb h3⟩
section
variable {B:Nat→Prop}{w w':World}{P:Pg}{cp gp sp op hp tp:Option Addr}{cc gc sc oc hc tc:Nat}
theorem PgIn.keep (h:PgIn B w P cp gp sp op hp tp cc gc sc oc hc tc) (hb:∀b,B b→b < w.heap.size→w'.heap[b]?=w.heap[b]?):PgIn B w' P cp gp sp op hp tp cc gc sc oc hc tc :=
 ⟨⟨h.cs.1,h.cs.2.keepB (hangsF encCn) h.cs.1 hb⟩,⟨h.gs.1,h.gs.2.keepB (hangsF encGl) h.gs.1 hb⟩,⟨h.ss.1,h.ss.2.keepB (hangsF encStr) h.ss.1 hb⟩,⟨h.os.1,h.os.2.keepB (hangsF encStr) h.os.1 hb⟩,⟨h.hs.1,h.hs.2.keepB (hangsF encCh) h.hs.1 hb⟩,h.ts.keep (fun _ h=>h) hb,h.sz⟩
theorem PgIn.kept (h:PgIn B w P cp gp sp op hp tp cc gc sc oc hc tc) (hg:Grew w w'):PgIn B w' P cp gp sp op hp tp cc gc sc oc hc tc:=h.keep fun b _ hl=>hg.block b hl
theorem PgIn.chg {S:Nat→Prop}(h:PgIn B w P cp gp sp op hp tp cc gc sc oc hc tc) (hch:Chg w w' S) (hB:∀b,B b→¬ S b):PgIn B w' P cp gp sp op hp tp cc gc sc oc hc tc:=h.keep fun b hb hl=>hch.block b hl (hB b hb)
theorem PgIn.caps (h:PgIn B w P cp gp sp op hp tp cc gc sc oc hc tc):(P.cs.length≤cc∧P.gs.length≤gc∧P.ss.length≤sc∧P.os.length≤oc∧P.hs.length≤hc∧P.ts.length≤tc)∧cc≤9223372036854775807∧gc≤9223372036854775807∧sc≤9223372036854775807∧oc≤9223372036854775807∧hc≤9223372036854775807∧tc≤9223372036854775807 :=
 ⟨⟨(h.cs.2.cap (hangsF encCn)).1,(h.gs.2.cap (hangsF encGl)).1,(h.ss.2.cap (hangsF encStr)).1,(h.os.2.cap (hangsF encStr)).1,(h.hs.2.cap (hangsF encCh)).1,h.ts.cap.1⟩,(h.cs.2.cap (hangsF encCn)).2.1,(h.gs.2.cap (hangsF encGl)).2.1,(h.ss.2.cap (hangsF encStr)).2.1,(h.os.2.cap (hangsF encStr)).2.1,(h.hs.2.cap (hangsF encCh)).2.1,h.ts.cap.2.1⟩
end
def zT:List Ta→Nat
 | []=>0
 | t :: ts=>nSs t.b+mSs t.b+zT ts
def dT:List Ta→Nat
 | []=>0
 | t :: ts=>max (dSs t.b) (dT ts)
theorem zT_append:∀a b:List Ta,zT (a++b)=zT a+zT b
 | [],b=>by simp [zT]
 | x :: a,b=>by rw [List.cons_append,zT,zT,zT_append a b];omega
theorem dT_append:∀a b:List Ta,dT (a++b)=max (dT a) (dT b)
 | [],b=>by rw [List.nil_append,dT,Nat.zero_max]
 | x :: a,b=>by rw [List.cons_append,dT,dT,dT_append a b,Nat.max_assoc]
theorem zT_snoc {l:List Ta}{j:Nat}{x:Ta}(h:l.take (j+1)=l.take j++[x]):zT (l.take (j+1))=zT (l.take j)+(nSs x.b+mSs x.b):=by
 rw [h,zT_append,zT,zT,Nat.add_zero]
theorem dT_snoc {l:List Ta}{j:Nat}{x:Ta}(h:l.take (j+1)=l.take j++[x]):dT (l.take (j+1))=max (dT (l.take j)) (dSs x.b):=by
 rw [h,dT_append,dT,dT,Nat.max_zero]
theorem zT_take (l:List Ta) (n:Nat):zT (l.take n)≤zT l:=by
 have h:=zT_append (l.take n) (l.drop n)
 rw [List.take_append_drop] at h
 omega
theorem zT_mem {x:Ta}:∀{l:List Ta},x ∈ l→nSs x.b+mSs x.b≤zT l
 | y :: l,h=>by
   rw [zT]
   rcases List.mem_cons.1 h with rfl | h
   ·omega
   ·have:=zT_mem h;omega
def smallP (P:Pg):Bool:=decide (P.cs.length≤20)&&decide (P.gs.length≤20)&&decide (P.ss.length≤20)&&decide (P.os.length≤20)&&decide (P.hs.length≤20)&&decide (P.ts.length≤6)&&decide (zT P.ts≤300)&&decide (dT P.ts≤30)
end Go.Proofs.YtcknpcbkofgdoaaGreatDoor
namespace Go.Proofs.YtcknpcbkofgdoaaGreatDoor
open Go Go.RowKit Go.IntWalk
set_option linter.unusedSimpArgs false
set_option linter.unusedVariables false
set_option maxRecDepth 8000
section
variable {dst:Option Tmp}{ty:TypeId}{pos:String}{after:Array Edge}{g:Option (Nat × Bool)}{a:Act}{w:World}{T:Value→World→Prop}
theorem rn_len_40 {x:Operand}{p:Option Addr}{n c:Nat}(hx:a.eval x=.slice p n c) (h:T (.int .i64 (n:Nat)) w):Runs Tryz.prog ⟨dst,.call { callee:=.builtin .len,args:=#[x],argTypes:=#[40] },ty,pos,after,g⟩ a w T:=by
 refine Runs.value (v:=.int .i64 (n:Nat)) (w':=w) ?_ h
 simp [execOp,resolve,invoke,builtin,hx,Result.andThen]
 go_simp
theorem rn_len_33 {x:Operand}{p:Option Addr}{n c:Nat}(hx:a.eval x=.slice p n c) (h:T (.int .i64 (n:Nat)) w):Runs Tryz.prog ⟨dst,.call { callee:=.builtin .len,args:=#[x],argTypes:=#[33] },ty,pos,after,g⟩ a w T:=by
 refine Runs.value (v:=.int .i64 (n:Nat)) (w':=w) ?_ h
 simp [execOp,resolve,invoke,builtin,hx,Result.andThen]
 go_simp
theorem rn_fld_42_6 {x:Operand}{S o:Nat}(hx:a.eval x=.pointer (some ⟨S,o,none⟩)) (h:T (.pointer (some ⟨S,o+6,none⟩)) w):Runs Tryz.prog ⟨dst,.fieldAddr 42 x 6,ty,pos,after,g⟩ a w T:=by
 refine Runs.value (v:=.pointer (some ⟨S,o+6,none⟩)) (w':=w) ?_ h
 simp only [execOp,hx]
 go_simp
theorem rn_add_3 {o1 o2:Operand}{b c:Int}(hx:a.eval o1=.int .i64 b) (hy:a.eval o2=.int .i64 c) (hb:-9223372036854775808≤b+c∧b+c≤9223372036854775807) (h:T (.int .i64 (b+c)) w):Runs Tryz.prog ⟨dst,.binOp .add 3 o1 o2 3,ty,pos,after,g⟩ a w T:=by
 refine Runs.value (v:=.int .i64 (b+c)) (w':=w) ?_ h
 have hw:IntKind.i64.wrap (b+c)=b+c:=IntWalk.i64_in _ hb
 simp only [execOp,hx,hy]
 go_simp
end
theorem enters_st:Enters Tryz.prog 29:=fun args w=>by go_simp
theorem enters_ex:Enters Tryz.prog 22:=fun args w=>by go_simp
set_option maxHeartbeats 8000000 in
theorem size_any (P:Pg) (B:Nat→Prop) (w:World) (cp gp sp op hp tp:Option Addr) (cc gc sc oc hc tc:Nat) (hB:∀b,B b→b < w.heap.size) (hpg:PgIn B w P cp gp sp op hp tp cc gc sc oc hc tc) (hn:zT P.ts≤1048576) :
 Calls Tryz.prog 32 #[pgv P cp gp sp op hp tp cc gc sc oc hc tc] w fun e w'=>e=.returned (.int .i64 (zT P.ts:Nat))∧Grew w w':=by
 have HX:=Lib.hid hpg.ts
 obtain ⟨hcaps,hmaxs⟩:=hpg.caps
 have HB:=Lib.hid hB
 obtain ⟨cs,gs,ss,os,hs,ts⟩:=P
 dsimp only at HX hcaps hn ⊢
 clear hpg hB
 go_enter Tryz.func32,Tryz.ntmps32
 go_wp2
 go_loopg [3,5,9] ts.length (fun gg lv bv iv wr=>∃(j d:Nat),lv=.int .i64 (d:Int)∧iv=.int .i64 (j:Int)∧j≤ts.length∧gg=ts.length - j∧Hid (d=zT (ts.take j))∧Hid (Grew w wr))
 case atStart=>exact⟨0,0,rfl,rfl,Nat.zero_le _,rfl,Lib.hid rfl,Lib.hid ((Grew.refl w).alloc _)⟩
 case round =>
  obtain ⟨j,d,rfl,rfl,hj,rfl,HD,HG⟩:=hrel
  by_cases hlt:j < ts.length
  ·have hzm:=zT_mem (List.getElem_mem hlt)
   have hzt:=zT_take ts j
   obtain ⟨ba,oa,pba,cba,rfl,hba,hboa,hca⟩:=HX.out.get j hlt
   have hma:=List.getElem_mem hlt
   have hta:=List.take_succ_eq_append_getElem hlt
   have HLa:=Lib.hid (Nat.succ_le_of_lt hlt)
   generalize ts[j]=xa at *
   obtain ⟨sa,ia,da,ha,ma,na,ya,qa⟩:=xa
   replace hba:sa.size≤1048576∧ha.size≤1048576∧ma.size≤1048576:=hba.2
   have HTa:=Lib.hid hta
   have HYa:Hid (SL B w pba cba ya):=Lib.hid hboa
   have hcapa:ya.length≤cba:=hboa.cap.1
   have hmaxa:=hboa.cap.2.1
   replace hca:∀i_ u_,(tdc ⟨sa,ia,da,ha,ma,na,pba,ya.length,cba,qa⟩)[i_]?=some u_→wr.cell? ⟨ba,oa+j * 8+i_,none⟩=some u_:=fun i_ u_ h_=>Atv.kept (hca i_ u_ h_) HG.out
   have ca0:wr.cell? ⟨ba,oa+j * 8,none⟩=some (.string sa):=by simpa using hca 0 _ rfl
   have ca1:wr.cell? ⟨ba,oa+j * 8+1,none⟩=some (.int .i64 ia):=hca 1 _ rfl
   have ca2:wr.cell? ⟨ba,oa+j * 8+2,none⟩=some (.int .i64 da):=hca 2 _ rfl
   have ca3:wr.cell? ⟨ba,oa+j * 8+3,none⟩=some (.string ha):=hca 3 _ rfl
   have ca4:wr.cell? ⟨ba,oa+j * 8+4,none⟩=some (.string ma):=hca 4 _ rfl
   have ca5:wr.cell? ⟨ba,oa+j * 8+5,none⟩=some (.int .i64 na):=hca 5 _ rfl
   have ca6:wr.cell? ⟨ba,oa+j * 8+6,none⟩=some (.slice pba ya.length cba):=hca 6 _ rfl
   have ca7:wr.cell? ⟨ba,oa+j * 8+7,none⟩=some (.int .i64 qa):=hca 7 _ rfl
   clear hca hboa hta
   replace hzm:nSs ya+mSs ya≤zT ts:=hzm
   have HNY:Hid (nSs ya≤1048576∧mSs ya≤1048576):=Lib.hid (by omega)
   have HDB:Hid (d≤1048576):=Lib.hid (by have:=HD.out;omega)
   clear hma hzm hzt
   go_upto_region 5 with fail
   have hb:Blk wr.heap.size [.string sa,.int .i64 ia,.int .i64 da,.string ha,.string ma,.int .i64 na,.slice pba ya.length cba,.int .i64 qa] 42 (wr.alloc (Obj.cells #[.string sa,.int .i64 ia,.int .i64 da,.string ha,.string ma,.int .i64 na,.slice pba ya.length cba,.int .i64 qa] 42)):=Blk.new wr _ _
   have hgV:Grew w (wr.alloc (Obj.cells #[.string sa,.int .i64 ia,.int .i64 da,.string ha,.string ma,.int .i64 na,.slice pba ya.length cba,.int .i64 qa] 42)):=HG.out.alloc _
   generalize (wr.alloc (Obj.cells #[.string sa,.int .i64 ia,.int .i64 da,.string ha,.string ma,.int .i64 na,.slice pba ya.length cba,.int .i64 qa] 42))=V at hb hgV ⊢
   generalize wr.heap.size=S at hb ⊢
   have HGV:=Lib.hid hgV
   have d6:Atv ⟨S,6,none⟩ (.slice pba ya.length cba) V.drew:=(hb.grew (Grew.refl _).drw).atv 6 rfl
   clear ca0 ca1 ca2 ca3 ca4 ca5 ca6 ca7 hb hgV HG
   refine wp_grew_tail 11 [some 13,some 14,some 15,some 16,some 17,some 18,some 19,some 20,some 21,some 22,some 23] [Zf,Zf,Zf,Zf,Zf,Zf,Zf,Zf,Zf,Zf,Zf,Zf,Zf,Zt,Zt,Zt,Zt,Zt,Zt,Zt,Zt,Zt,Zt,Zt,Zf,Zf] [fun v _=>v=.int .i64 (((d:Nat):Int)),fun v _=>v=.pointer (some ⟨S,6,none⟩),fun v _=>v=.slice pba ya.length cba,fun v _=>∃q m c,v=.slice q m c∧m=nSs ya,fun v _=>v=.int .i64 ((nSs ya:Nat):Int),fun v _=>v=.int .i64 ((((d:Nat):Int))+(((nSs ya:Nat):Int))),fun v _=>v=.pointer (some ⟨S,6,none⟩),fun v _=>v=.slice pba ya.length cba,fun v _=>∃q m c,v=.slice q m c∧m=mSs ya,fun v _=>v=.int .i64 ((mSs ya:Nat):Int),fun v _=>v=.int .i64 (((((d:Nat):Int))+(((nSs ya:Nat):Int)))+(((mSs ya:Nat):Int)))] (by kernel_rfl) (by kernel_rfl) (by kernel_rfl) rfl ?_ ⟨?_,?_,?_,?_,?_,?_,?_,?_,?_,?_,?_,trivial⟩ ?_
   ·exact⟨Zi,Zi,Zi,Zi,Zi,Zi,Zi,Zi,Zi,Zi,Zi,trivial⟩
   ·intro u w hR hd;exact runs_mv (ev rfl) Zr
   ·intro u w hR hd;exact rn_fld_42_6 (ev rfl) Zr
   ·intro u w hR hd;exact rn_ld_40 (ev (hd.1 rfl)) (d6.kept hR) Zr
   ·intro u w hR hd;exact runs_c1 enters_st (ev (hd.1 rfl)) ((stms_any _ ya (Nat.lt_succ_self _) B _ pba cba (fun b hb=>by have h1:=HB.out b hb;have h2:=(HGV.out.trans ((Grew.refl _).drw.trans hR)).sz;omega) (HYa.out.kept (HGV.out.trans ((Grew.refl _).drw.trans hR))) HNY.out.1).mono fun e w9 ⟨q,m,c,h1,h2,h3⟩=>⟨_,h1,h3,q,m,c,rfl,h2.len.trans (stmL_len _)⟩)
   ·intro u w hR hd;exact(match (hd.1 rfl) with | ⟨q,m,c,hp,hm⟩=>rn_len_40 (ev hp) ⟨Grew.refl _,congrArg (fun x:Nat=>Value.int .i64 (x:Int)) hm⟩)
   ·intro u w hR hd;exact rn_add_3 (ev (hd.1 rfl)) (ev (hd.2.1 rfl)) (by have:=HNY.out;have:=HDB.out;omega) Zr
   ·intro u w hR hd;exact rn_fld_42_6 (ev rfl) Zr
   ·intro u w hR hd;exact rn_ld_40 (ev (hd.1 rfl)) (d6.kept hR) Zr
   ·intro u w hR hd;exact runs_c1 enters_ex (ev (hd.1 rfl)) ((exprs_any ya B _ pba cba (fun b hb=>by have h1:=HB.out b hb;have h2:=(HGV.out.trans ((Grew.refl _).drw.trans hR)).sz;omega) (HYa.out.kept (HGV.out.trans ((Grew.refl _).drw.trans hR))) HNY.out.1 HNY.out.2).mono fun e w9 ⟨q,m,c,h1,h2,h3⟩=>⟨_,h1,h3,q,m,c,rfl,h2.len.trans (expL_len _)⟩)
   ·intro u w hR hd;exact(match (hd.1 rfl) with | ⟨q,m,c,hp,hm⟩=>rn_len_33 (ev hp) ⟨Grew.refl _,congrArg (fun x:Nat=>Value.int .i64 (x:Int)) hm⟩)
   ·intro u w hR hd;exact rn_add_3 (ev (hd.1 rfl)) (ev (hd.2.1 rfl)) (by have:=HNY.out;have:=HDB.out;omega) Zr
   ·intro u w4 hR h
    have he:u 23=.int .i64 (((d:Nat):Int)+((nSs ya:Nat):Int)+((mSs ya:Nat):Int)):=h 10 (by decide)
    have HG4:=Lib.hid (HGV.out.trans ((Grew.refl V).drw.trans hR))
    have HD2:=Lib.hid (HDB.out)
    refine wpAny_one (i:=11) (some 3) (by kernel_rfl) rfl rfl rfl (runs_mva (ev he) ?_)
    refine wpAny_done (by kernel_rfl) ?_ _
    simp only [mixA,mixL,zz9,zz0]
    clear h he hR d6
    go_wp2
    go_roundg (ts.length - (j+1))
    case measure=>have:=HLa.out;omega
    case rel=>exact⟨j+1,d+nSs ya+mSs ya,by go_num,by go_num,HLa.out,rfl,Lib.hid (by rw [zT_snoc HTa.out,← HD.out,Nat.add_assoc]),HG4⟩
  ·obtain rfl:j=ts.length:=by omega
   rw [List.take_length] at HD
   go_wp2
   go_ret
   exact⟨by rw [← HD.out];rfl,HG.out⟩
end Go.Proofs.YtcknpcbkofgdoaaGreatDoor
namespace Go.Proofs.YtcknpcbkofgdoaaGreatDoor
open Go Go.RowKit Go.IntWalk
set_option linter.unusedSimpArgs false
set_option linter.unusedVariables false
set_option maxRecDepth 8000
set_option maxHeartbeats 8000000 in
theorem depth_any (P:Pg) (B:Nat→Prop) (w:World) (cp gp sp op hp tp:Option Addr) (cc gc sc oc hc tc:Nat) (hpg:PgIn B w P cp gp sp op hp tp cc gc sc oc hc tc) (hn:zT P.ts≤1048576) :
 Calls Tryz.prog 34 #[pgv P cp gp sp op hp tp cc gc sc oc hc tc] w fun e w'=>e=.returned (.int .i64 (dT P.ts:Nat))∧Grew w w':=by
 have HX:=Lib.hid hpg.ts
 obtain ⟨hcaps,hmaxs⟩:=hpg.caps
 obtain ⟨cs,gs,ss,os,hs,ts⟩:=P
 dsimp only at HX hcaps hn ⊢
 clear hpg
 go_enter Tryz.func34,Tryz.ntmps34
 go_wp2
 go_loopg [3,5,9] ts.length (fun gg lv bv iv wr=>∃(j d:Nat),lv=.int .i64 (d:Int)∧iv=.int .i64 (j:Int)∧j≤ts.length∧gg=ts.length - j∧Hid (d=dT (ts.take j))∧Hid (Grew w wr))
 case atStart=>exact⟨0,0,rfl,rfl,Nat.zero_le _,rfl,Lib.hid rfl,Lib.hid ((Grew.refl w).alloc _)⟩
 case round =>
  obtain ⟨j,d,rfl,rfl,hj,rfl,HD,HG⟩:=hrel
  by_cases hlt:j < ts.length
  ·have hzm:=zT_mem (List.getElem_mem hlt)
   obtain ⟨ba,oa,pba,cba,rfl,hba,hboa,hca⟩:=HX.out.get j hlt
   have hma:=List.getElem_mem hlt
   have hta:=List.take_succ_eq_append_getElem hlt
   have HLa:=Lib.hid (Nat.succ_le_of_lt hlt)
   generalize ts[j]=xa at *
   obtain ⟨sa,ia,da,ha,ma,na,ya,qa⟩:=xa
   replace hba:sa.size≤1048576∧ha.size≤1048576∧ma.size≤1048576:=hba.2
   have HTa:=Lib.hid hta
   have HYa:Hid (SL B w pba cba ya):=Lib.hid hboa
   have hcapa:ya.length≤cba:=hboa.cap.1
   have hmaxa:=hboa.cap.2.1
   replace hca:∀i_ u_,(tdc ⟨sa,ia,da,ha,ma,na,pba,ya.length,cba,qa⟩)[i_]?=some u_→wr.cell? ⟨ba,oa+j * 8+i_,none⟩=some u_:=fun i_ u_ h_=>Atv.kept (hca i_ u_ h_) HG.out
   have ca0:wr.cell? ⟨ba,oa+j * 8,none⟩=some (.string sa):=by simpa using hca 0 _ rfl
   have ca1:wr.cell? ⟨ba,oa+j * 8+1,none⟩=some (.int .i64 ia):=hca 1 _ rfl
   have ca2:wr.cell? ⟨ba,oa+j * 8+2,none⟩=some (.int .i64 da):=hca 2 _ rfl
   have ca3:wr.cell? ⟨ba,oa+j * 8+3,none⟩=some (.string ha):=hca 3 _ rfl
   have ca4:wr.cell? ⟨ba,oa+j * 8+4,none⟩=some (.string ma):=hca 4 _ rfl
   have ca5:wr.cell? ⟨ba,oa+j * 8+5,none⟩=some (.int .i64 na):=hca 5 _ rfl
   have ca6:wr.cell? ⟨ba,oa+j * 8+6,none⟩=some (.slice pba ya.length cba):=hca 6 _ rfl
   have ca7:wr.cell? ⟨ba,oa+j * 8+7,none⟩=some (.int .i64 qa):=hca 7 _ rfl
   clear hca hboa hta
   replace hzm:nSs ya+mSs ya≤zT ts:=hzm
   obtain ⟨m,hmd⟩:∃m,dSs ya=m:=⟨_,rfl⟩
   have HMD:=Lib.hid hmd
   have HDS:=Lib.hid (fun W (hW:Grew w W)=>(show Calls Tryz.prog 89 #[.slice pba ya.length cba] W fun e w'=>e=.returned (.int .i64 (m:Nat))∧Grew W w' from hmd ▸ deps_any _ ya (Nat.lt_succ_self _) B W pba cba (HYa.out.kept hW) (by omega) (by omega)))
   clear hma hzm hmd
   go_wp2_with (go_at_call 89;(with_reducible refine(HDS.out _ (HG.out.alloc _)).mono ?_);rintro e w2 ⟨rfl,g2⟩;have HG2:=Lib.hid ((HG.out.alloc _).trans g2);clear g2)
   all_goals
    go_roundg (ts.length - (j+1))
    case measure=>have:=HLa.out;omega
    case rel=>exact⟨j+1,_,rfl,by go_num,HLa.out,rfl,Lib.hid (by rw [dT_snoc HTa.out,HMD.out,← HD.out];omega),HG2⟩
  ·obtain rfl:j=ts.length:=by omega
   rw [List.take_length] at HD
   go_wp2
   go_ret
   exact⟨by rw [← HD.out];rfl,HG.out⟩
set_option maxHeartbeats 8000000 in
theorem small_any (P:Pg) (B:Nat→Prop) (w:World) (cp gp sp op hp tp:Option Addr) (cc gc sc oc hc tc:Nat) (hB:∀b,B b→b < w.heap.size) (hpg:PgIn B w P cp gp sp op hp tp cc gc sc oc hc tc) (hn:zT P.ts≤1048576) :
 Calls Tryz.prog 12 #[pgv P cp gp sp op hp tp cc gc sc oc hc tc] w fun e w'=>e=.returned (.bool (smallP P))∧Grew w w':=by
 obtain ⟨hcaps,hmaxs⟩:=hpg.caps
 have HSZ:=Lib.hid (fun W (hW:Grew w W)=>size_any P B W cp gp sp op hp tp cc gc sc oc hc tc (fun b hb=>Nat.lt_of_lt_of_le (hB b hb) hW.sz) (hpg.kept hW) hn)
 have HDP:=Lib.hid (fun W (hW:Grew w W)=>depth_any P B W cp gp sp op hp tp cc gc sc oc hc tc (hpg.kept hW) hn)
 obtain ⟨b,hb⟩:∃b,smallP P=b:=⟨_,rfl⟩
 have HB:=Lib.hid hb
 rw [hb]
 unfold smallP at hb
 obtain ⟨cs,gs,ss,os,hs,ts⟩:=P
 dsimp only at hcaps hb HSZ HDP ⊢
 obtain ⟨z,hz⟩:∃z,zT ts=z:=⟨_,rfl⟩
 obtain ⟨d,hd⟩:∃d,dT ts=d:=⟨_,rfl⟩
 rw [hz] at hb HSZ
 rw [hd] at hb HDP
 have HBB:=Lib.hid hb
 clear hpg hB hb hz hd HB
 go_enter Tryz.func12,Tryz.ntmps12
 go_wp2_with (first
  | (go_at_call 32;(with_reducible refine(HSZ.out _ ((Grew.refl w).alloc _)).mono ?_);rintro e w2 ⟨rfl,g2⟩;have HG2:=Lib.hid (((Grew.refl w).alloc _).trans g2);have hbx:=(Blk.new w [.slice cp cs.length cc,.slice gp gs.length gc,.slice sp ss.length sc,.slice op os.length oc,.slice hp hs.length hc,.slice tp ts.length tc] 28).grew g2;have r0:=hbx.cell 0;have r1:=hbx.cell 1;have r2:=hbx.cell 2;have r3:=hbx.cell 3;have r4:=hbx.cell 4;have r5:=hbx.cell 5;simp only [zz7,zz8] at r0 r1 r2 r3 r4 r5;clear g2 hbx)
  | (go_at_call 34;(with_reducible refine(HDP.out _ HG2.out).mono ?_);rintro e w3 ⟨rfl,g3⟩;have HG3:=Lib.hid (HG2.out.trans g3);clear g3))
 all_goals go_ret
 all_goals (refine⟨ret_bool ?_,by first | exact HG3.out | exact HG2.out | exact(Grew.refl w).alloc _⟩;rw [← HBB.out,Bool.eq_iff_iff];simp only [Bool.and_eq_true,decide_eq_true_eq,Bool.false_eq_true,false_iff,not_and,iff_true,true_and,and_true];omega)
end Go.Proofs.YtcknpcbkofgdoaaGreatDoor
namespace Go.Proofs.YtcknpcbkofgdoaaGreatDoor
open Go Go.RowKit Go.IntWalk
set_option linter.unusedSimpArgs false
set_option linter.unusedVariables false
set_option maxRecDepth 8000
def kwTb:List ByteArray:=kwT.map (fun l=>⟨l.toArray⟩)
theorem rkw16_any (w:World):Calls Tryz.prog 115 #[] w fun e w'=>∃p,e=.returned (.slice p 22 22)∧Rw 1 strc w' p 22 kwTb∧Grew w w':=by
 go_enter Tryz.func115,Tryz.ntmps115
 go_wp2
 go_ret
 exact⟨_,rfl,Rw.made encStr w kwTb 22 _ _ _ (by kernel_rfl) (by kernel_rfl) (by decide),(Grew.refl w).alloc _⟩
theorem str_eq16 {a b:ByteArray}:(a.toList==b.toList)=decide (a=b):=by
 rw [ByteArray.toList_eq,ByteArray.toList_eq,Bool.eq_iff_iff,beq_iff_eq,decide_eq_true_iff]
 exact⟨fun h=>by cases a;cases b;simp at h;rw [h],fun h=>by rw [h]⟩
theorem kwTb_has (s:ByteArray):kwT.contains s.data.toList=true↔s ∈ kwTb:=by
 simp only [kwTb,List.mem_map,List.contains_eq_mem,decide_eq_true_eq]
 exact⟨fun h=>⟨_,h,by simp⟩,fun⟨l,h,e⟩=>by rw [← e];simpa using h⟩
theorem number_any (n l:Int) (w:World):Calls Tryz.prog 63 #[.int .i64 n,.int .i64 l] w fun e w'=>e=.returned (.bool (num1 n l))∧w=w':=by
 obtain ⟨b,hb⟩:∃b,num1 n l=b:=⟨_,rfl⟩
 rw [hb]
 unfold num1 at hb
 have HB:=Lib.hid hb
 clear hb
 go_enter Tryz.func63,Tryz.ntmps63
 go_wp2
 all_goals go_ret
 all_goals exact⟨ret_bool (by rw [← HB.out,Bool.eq_iff_iff];simp only [Bool.and_eq_true,decide_eq_true_eq,Bool.false_eq_true,false_iff,not_and];omega),rfl⟩
theorem idc_snoc {l:List UInt8}{j:Nat}{c:UInt8}(h:l.take (j+1)=l.take j++[c]) (hj:j < l.length):idc (l.take (j+1))=(idc (l.take j)&&(ltr c||(decide (j≠0)&&dig c))):=by
 rw [h]
 cases j with
 | zero=>rw [List.take_zero];simp [idc]
 | succ j =>
   cases l with
   | nil=>simp at hj
   | cons d r =>
     rw [List.take_succ_cons,List.cons_append,idc,idc,List.all_append]
     simp [wd,Bool.and_assoc]
theorem idc_no {l:List UInt8}{j:Nat}(h:idc (l.take j)=false):idc l=false:=by
 cases j with
 | zero=>rw [List.take_zero] at h;cases h
 | succ j =>
   cases l with
   | nil=>rw [List.take_nil] at h;cases h
   | cons d r =>
     rw [List.take_succ_cons,idc] at h
     rw [idc]
     rcases Bool.and_eq_false_iff.1 h with h1 | h1
     ·rw [h1,Bool.false_and]
     ·have:r.all wd=false:=by
       rw [Bool.eq_false_iff] at h1 ⊢
       intro h2
       exact h1 (List.all_eq_true.2 fun x hx=>List.all_eq_true.1 h2 x (List.mem_of_mem_take hx))
      rw [this,Bool.and_false]
set_option maxHeartbeats 8000000 in
theorem ident_any (s:ByteArray) (hs:s.size≤1048576) (w:World):Calls Tryz.prog 62 #[.string s] w fun e w'=>e=.returned (.bool (idn s))∧Grew w w':=by
 obtain ⟨b,hb⟩:∃b,idn s=b:=⟨_,rfl⟩
 rw [hb]
 have HNO:=Lib.hid (fun(h:s ∈ kwTb)=>(show b=false by rw [← hb,idn,idB,(kwTb_has s).2 h];rfl))
 have HYES:=Lib.hid (fun(hno:∀i (hi:i < kwTb.length),kwTb[i]≠s) (c d:Bool) (hc:idc s.data.toList=c) (hd:(decide (1≤s.size)&&decide (s.size≤32))=d)=>(show b=(c&&d) by
  have h1:kwT.contains s.data.toList=false:=by
   rw [Bool.eq_false_iff]
   intro h2
   obtain ⟨i,hi,e⟩:=List.getElem_of_mem ((kwTb_has s).1 h2)
   exact hno i hi e
  rw [← hb,idn,idB,h1,hc,← hd]
  rfl))
 clear hb
 go_enter Tryz.func62,Tryz.ntmps62
 go_wp2_with (go_at_call 115;(with_reducible refine(rkw16_any _).mono ?_);rintro e w1 ⟨p,rfl,hr,g1⟩;have HX:=Lib.hid hr;have HG1:=Lib.hid g1;clear hr g1)
 go_loopg [4,10] 22 (fun gg kv iv wr=>∃(j:Nat),iv=.int .i64 (j:Int)∧j≤22∧gg=22 - j∧Hid (∀i (hi:i < kwTb.length),i < j→kwTb[i]≠s)∧wr=w1)
 case atStart=>exact⟨0,rfl,by omega,rfl,Lib.hid (fun i _ h=>absurd h (Nat.not_lt_zero i)),rfl⟩
 case round =>
  obtain ⟨j,rfl,hj,rfl,HN,rfl⟩:=hrel
  by_cases hlt:j < 22
  ·have hlt2:j < kwTb.length:=hlt
   obtain ⟨b1,o1,rfl,hcc⟩:=HX.out.rd.cells (by omega)
   have hx:kwTb[j]?=some kwTb[j]:=List.getElem?_eq_getElem hlt2
   have hc1:=hcc j kwTb[j] hx
   have HIN:=Lib.hid (List.getElem_mem hlt2)
   have HT:Hid (∀t,kwTb[j]=t→t≠s→kwTb[j]'hlt2≠s):=Lib.hid (fun t e h=>by rw [e];exact h)
   obtain ⟨t,ht⟩:∃t,kwTb[j]=t:=⟨_,rfl⟩
   rw [ht] at hc1 HIN
   have HT2:=Lib.hid (HT.out t ht)
   have q0:wr.cell? ⟨b1,o1+j,none⟩=some (.string t):=by simpa using hc1 0 _ rfl
   have HLT:=Lib.hid (Nat.succ_le_of_lt hlt)
   clear hcc hc1 hx ht HT
   by_cases he:s=t
   ·have h1:(s.toList==t.toList)=true:=by rw [he];simp
    have HE:=Lib.hid (HNO.out (he ▸ HIN.out))
    clear he
    go_wp2
    go_ret
    exact⟨ret_bool HE.out.symm,HG1.out⟩
   ·have h1:(s.toList==t.toList)=false:=by rw [str_eq16];exact decide_eq_false he
    have HE:=Lib.hid (HT2.out (fun h=>he h.symm))
    clear he
    go_wp2
    go_roundg (22 - (j+1))
    case measure=>have:=HLT.out;omega
    case rel=>exact⟨j+1,by go_num,HLT.out,rfl,Lib.hid (fun i hi hik=>by rcases Nat.lt_or_eq_of_le (Nat.le_of_lt_succ hik) with h | rfl;exact HN.out i hi h;exact HE.out),rfl⟩
  ·obtain rfl:j=22:=by omega
   have HF:=Lib.hid (HYES.out (fun i hi=>HN.out i hi hi))
   clear HYES HNO HN HX
   go_wp2
   go_loopg [5,6,7] s.size (fun gg iv cv lv wr=>∃(j:Nat),iv=.int .i64 (j:Int)∧j≤s.size∧gg=s.size - j∧Hid (idc (s.data.toList.take j)=true)∧Hid (Grew w wr))
   case atStart=>exact⟨0,rfl,by omega,rfl,Lib.hid rfl,HG1⟩
   case round =>
    obtain ⟨j,rfl,hj,rfl,HI,HG⟩:=hrel
    by_cases hlt:j < s.size
    ·have htk:=take_snoc s j hlt
     have HS:=Lib.hid (idc_snoc htk hlt)
     have HLT:=Lib.hid (Nat.succ_le_of_lt hlt)
     obtain ⟨c,hc⟩:∃c,s[j]'hlt=c:=⟨_,rfl⟩
     rw [hc] at HS
     have HFC:=Lib.hid (fun(h:(ltr c||(decide (j≠0)&&dig c))=false)=>(show b=false by
      have h1:=HS.out
      rw [h,Bool.and_false] at h1
      rw [HF.out _ _ (idc_no h1) rfl,Bool.false_and]))
     have hc1:(c.toNat:Int)≤255:=by have:=c.toNat_lt;omega
     unfold ltr dig at HFC HS
     clear htk
     go_wp2
     all_goals first
      | (go_ret;refine⟨ret_bool (HFC.out ?_).symm,HG.out⟩;rw [Bool.eq_false_iff];simp only [ne_eq,Bool.or_eq_true,Bool.and_eq_true,decide_eq_true_eq];first | omega | (exfalso;simp_all <;> omega) | (simp_all <;> omega))
      | (go_roundg (s.size - (j+1))
         case measure=>have:=HLT.out;omega
         case rel =>
          refine⟨j+1,by go_num,HLT.out,rfl,Lib.hid ?_,HG⟩
          rw [HS.out,HI.out,Bool.true_and]
          simp only [Bool.or_eq_true,Bool.and_eq_true,decide_eq_true_eq]
          first | omega | (exfalso;simp_all <;> omega) | (simp_all <;> omega))
    ·obtain rfl:j=s.size:=by omega
     have HI2:Hid (idc s.data.toList=true):=Lib.hid (by
      have h1:idc (s.data.toList.take s.data.toList.length)=true:=HI.out
      rw [List.take_length] at h1
      exact h1)
     have HF2:=Lib.hid (HF.out _ _ HI2.out rfl)
     go_wp2
     all_goals go_ret
     all_goals exact⟨ret_bool (by rw [HF2.out,Bool.true_and,Bool.eq_iff_iff];simp only [Bool.and_eq_true,decide_eq_true_eq,Bool.false_eq_true,false_iff,not_and];omega),HG.out⟩
end Go.Proofs.YtcknpcbkofgdoaaGreatDoor
namespace Go.Proofs.YtcknpcbkofgdoaaGreatDoor
open Go Go.RowKit Go.IntWalk
set_option linter.unusedSimpArgs false
set_option linter.unusedVariables false
set_option maxRecDepth 8000
section
variable {dst:Option Tmp}{ty:TypeId}{pos:String}{after:Array Edge}{g:Option (Nat × Bool)}{a:Act}{w:World}{T:Value→World→Prop}
theorem rn_ret_c35 {fn:Func}{p0:Tmp}(h:fn.results=#[.cell p0 35]){tmps:Array Value}{w:World}{S0:Nat}{v0_0 v0_1 v0_2 v0_3 v0_4 v0_5:Value}{R:Ending→World→Prop}(hp0:tmps.getD p0 undef=.pointer (some ⟨S0,0,none⟩)) (h0_0:w.cell? ⟨S0,0,none⟩=some v0_0) (h0_1:w.cell? ⟨S0,1,none⟩=some v0_1) (h0_2:w.cell? ⟨S0,2,none⟩=some v0_2) (h0_3:w.cell? ⟨S0,3,none⟩=some v0_3) (h0_4:w.cell? ⟨S0,4,none⟩=some v0_4) (h0_5:w.cell? ⟨S0,5,none⟩=some v0_5) (hR:R (.returned (.agg #[v0_0,v0_1,v0_2,v0_3,v0_4,v0_5])) w):bodyPost Tryz.prog fn R .ret { tmps:=tmps,defers:=[] } w:=by
 refine bodyPost_ret (v:=.agg #[v0_0,v0_1,v0_2,v0_3,v0_4,v0_5]) ?_ rfl hR
 rw [Array.getD_eq_getD_getElem?] at hp0
 simp [results,h,hp0,h0_0,h0_1,h0_2,h0_3,h0_4,h0_5,go_sem]
end
theorem kx6 (k:Int):k=1∨k=2∨k=3∨k=4∨k=5∨k=6∨(k≠1∧k≠2∧k≠3∧k≠4∧k≠5∧k≠6):=by omega
theorem ne_b {k z:Int}(h:k≠z):(k==z)=false:=by simpa using h
theorem arity_any (k:Int) (w:World):Calls Tryz.prog 103 #[.int .i64 k] w fun e w'=>e=.returned (.int .i64 (arK k))∧w=w':=by
 rcases kx6 k with rfl | rfl | rfl | rfl | rfl | rfl | ⟨n1,n2,n3,n4,n5,n6⟩
 iterate 6
  ·go_enter Tryz.func103,Tryz.ntmps103
   go_wp2
   go_ret
   exact⟨rfl,rfl⟩
 ·have h:arK k=-1:=by simp [arK,n1,n2,n3,n4,n5,n6]
  rw [h]
  have b1:=ne_b n1
  have b2:=ne_b n2
  have b3:=ne_b n3
  have b4:=ne_b n4
  have b5:=ne_b n5
  have b6:=ne_b n6
  clear n1 n2 n3 n4 n5 n6 h
  go_enter Tryz.func103,Tryz.ntmps103
  go_wp2
  go_ret
  exact⟨rfl,rfl⟩
set_option maxHeartbeats 4000000 in
theorem bare_any (k:Int) (s:ByteArray) (v o:Int) (p:Option Addr) (n c:Nat) (q:Int) (w:World):Calls Tryz.prog 102 #[xv k s v o p n c q] w fun e w'=>e=.returned (xv k (bnS k s) (bnV k v) (bnO k o) none 0 0 0)∧Grew w w':=by
 rcases kx6 k with rfl | rfl | rfl | rfl | rfl | rfl | ⟨n1,n2,n3,n4,n5,n6⟩
 ·go_enter Tryz.func102,Tryz.ntmps102
  go_wp2
  refine rn_ret_c35 Tryz.results102 (S0:=w.heap.size+1) (v0_0:=.int .i64 1) (v0_1:=.string ⟨#[]⟩) (v0_2:=.int .i16 v) (v0_3:=.int .i64 0) (v0_4:=.slice none 0 0) (v0_5:=.int .i64 0) rfl (by go_simp) (by go_simp) (by go_simp) (by go_simp) (by go_simp) (by go_simp) ?_
  exact⟨rfl,((Grew.refl w).alloc _).alloc _⟩
 ·go_enter Tryz.func102,Tryz.ntmps102
  go_wp2
  refine rn_ret_c35 Tryz.results102 (S0:=w.heap.size+1) (v0_0:=.int .i64 2) (v0_1:=.string s) (v0_2:=.int .i16 0) (v0_3:=.int .i64 0) (v0_4:=.slice none 0 0) (v0_5:=.int .i64 0) rfl (by go_simp) (by go_simp) (by go_simp) (by go_simp) (by go_simp) (by go_simp) ?_
  exact⟨rfl,((Grew.refl w).alloc _).alloc _⟩
 ·go_enter Tryz.func102,Tryz.ntmps102
  go_wp2
  refine rn_ret_c35 Tryz.results102 (S0:=w.heap.size+1) (v0_0:=.int .i64 3) (v0_1:=.string s) (v0_2:=.int .i16 0) (v0_3:=.int .i64 0) (v0_4:=.slice none 0 0) (v0_5:=.int .i64 0) rfl (by go_simp) (by go_simp) (by go_simp) (by go_simp) (by go_simp) (by go_simp) ?_
  exact⟨rfl,((Grew.refl w).alloc _).alloc _⟩
 ·go_enter Tryz.func102,Tryz.ntmps102
  go_wp2
  refine rn_ret_c35 Tryz.results102 (S0:=w.heap.size+1) (v0_0:=.int .i64 4) (v0_1:=.string s) (v0_2:=.int .i16 0) (v0_3:=.int .i64 0) (v0_4:=.slice none 0 0) (v0_5:=.int .i64 0) rfl (by go_simp) (by go_simp) (by go_simp) (by go_simp) (by go_simp) (by go_simp) ?_
  exact⟨rfl,((Grew.refl w).alloc _).alloc _⟩
 ·go_enter Tryz.func102,Tryz.ntmps102
  go_wp2
  refine rn_ret_c35 Tryz.results102 (S0:=w.heap.size+1) (v0_0:=.int .i64 5) (v0_1:=.string ⟨#[]⟩) (v0_2:=.int .i16 0) (v0_3:=.int .i64 o) (v0_4:=.slice none 0 0) (v0_5:=.int .i64 0) rfl (by go_simp) (by go_simp) (by go_simp) (by go_simp) (by go_simp) (by go_simp) ?_
  exact⟨rfl,((Grew.refl w).alloc _).alloc _⟩
 ·go_enter Tryz.func102,Tryz.ntmps102
  go_wp2
  refine rn_ret_c35 Tryz.results102 (S0:=w.heap.size+1) (v0_0:=.int .i64 6) (v0_1:=.string ⟨#[]⟩) (v0_2:=.int .i16 0) (v0_3:=.int .i64 o) (v0_4:=.slice none 0 0) (v0_5:=.int .i64 0) rfl (by go_simp) (by go_simp) (by go_simp) (by go_simp) (by go_simp) (by go_simp) ?_
  exact⟨rfl,((Grew.refl w).alloc _).alloc _⟩
 ·have h1:bnS k s=⟨#[]⟩:=by simp [bnS,n2,n3,n4]
  have h2:bnV k v=0:=by simp [bnV,n1]
  have h3:bnO k o=o:=by simp [bnO,n1,n2,n3,n4]
  rw [h1,h2,h3]
  have b1:=ne_b n1
  have b2:=ne_b n2
  have b3:=ne_b n3
  have b4:=ne_b n4
  clear n1 n2 n3 n4 n5 n6 h1 h2 h3
  go_enter Tryz.func102,Tryz.ntmps102
  go_wp2
  refine rn_ret_c35 Tryz.results102 (S0:=w.heap.size+1) (v0_0:=.int .i64 k) (v0_1:=.string ⟨#[]⟩) (v0_2:=.int .i16 0) (v0_3:=.int .i64 o) (v0_4:=.slice none 0 0) (v0_5:=.int .i64 0) rfl (by go_simp) (by go_simp) (by go_simp) (by go_simp) (by go_simp) (by go_simp) ?_
  exact⟨rfl,((Grew.refl w).alloc _).alloc _⟩
end Go.Proofs.YtcknpcbkofgdoaaGreatDoor
namespace Go.Proofs.YtcknpcbkofgdoaaGreatDoor
open Go Go.RowKit Go.IntWalk
set_option linter.unusedSimpArgs false
set_option linter.unusedVariables false
set_option maxRecDepth 8000
section
variable {dst:Option Tmp}{ty:TypeId}{pos:String}{after:Array Edge}{g:Option (Nat × Bool)}{a:Act}{w:World}{T:Value→World→Prop}
theorem rn_fld_35_4 {x:Operand}{S o:Nat}(hx:a.eval x=.pointer (some ⟨S,o,none⟩)) (h:T (.pointer (some ⟨S,o+4,none⟩)) w):Runs Tryz.prog ⟨dst,.fieldAddr 35 x 4,ty,pos,after,g⟩ a w T:=by
 refine Runs.value (v:=.pointer (some ⟨S,o+4,none⟩)) (w':=w) ?_ h
 simp only [execOp,hx]
 go_simp
theorem rn_ld_33 {x:Operand}{q:Addr}{v:Value}(hx:a.eval x=.pointer (some q)) (hc:w.cell? q=some v) (h:T v w):Runs Tryz.prog ⟨dst,.load 33 x,ty,pos,after,g⟩ a w T:=by
 refine Runs.value (v:=v) (w':=w) ?_ h
 simp only [execOp,hx]
 go_simp
theorem rn_fld_35_0 {x:Operand}{S o:Nat}(hx:a.eval x=.pointer (some ⟨S,o,none⟩)) (h:T (.pointer (some ⟨S,o,none⟩)) w):Runs Tryz.prog ⟨dst,.fieldAddr 35 x 0,ty,pos,after,g⟩ a w T:=by
 refine Runs.value (v:=.pointer (some ⟨S,o,none⟩)) (w':=w) ?_ h
 simp only [execOp,hx]
 go_simp
theorem rn_ld_3 {x:Operand}{q:Addr}{v:Value}(hx:a.eval x=.pointer (some q)) (hc:w.cell? q=some v) (h:T v w):Runs Tryz.prog ⟨dst,.load 3 x,ty,pos,after,g⟩ a w T:=by
 refine Runs.value (v:=v) (w':=w) ?_ h
 simp only [execOp,hx]
 go_simp
theorem rn_neq_3 {o1 o2:Operand}{b c:Int}(hx:a.eval o1=.int .i64 b) (hy:a.eval o2=.int .i64 c) (h:T (.bool (b != c)) w):Runs Tryz.prog ⟨dst,.binOp .neq 3 o1 o2 3,ty,pos,after,g⟩ a w T:=by
 refine Runs.value (v:=.bool (b != c)) (w':=w) ?_ h
 simp only [execOp,hx,hy]
 go_simp
theorem rn_fld_35_1 {x:Operand}{S o:Nat}(hx:a.eval x=.pointer (some ⟨S,o,none⟩)) (h:T (.pointer (some ⟨S,o+1,none⟩)) w):Runs Tryz.prog ⟨dst,.fieldAddr 35 x 1,ty,pos,after,g⟩ a w T:=by
 refine Runs.value (v:=.pointer (some ⟨S,o+1,none⟩)) (w':=w) ?_ h
 simp only [execOp,hx]
 go_simp
theorem rn_ld_9 {x:Operand}{q:Addr}{v:Value}(hx:a.eval x=.pointer (some q)) (hc:w.cell? q=some v) (h:T v w):Runs Tryz.prog ⟨dst,.load 9 x,ty,pos,after,g⟩ a w T:=by
 refine Runs.value (v:=v) (w':=w) ?_ h
 simp only [execOp,hx]
 go_simp
theorem rn_nes_9 {o1 o2:Operand}{b c:ByteArray}(hx:a.eval o1=.string b) (hy:a.eval o2=.string c) (h:T (.bool (!decide (b=c))) w):Runs Tryz.prog ⟨dst,.binOp .neq 9 o1 o2 9,ty,pos,after,g⟩ a w T:=by
 have hs:(b.toList==c.toList)=decide (b=c):=by
  rw [ByteArray.toList_eq,ByteArray.toList_eq,Bool.eq_iff_iff,beq_iff_eq,decide_eq_true_iff]
  exact⟨fun h=>by cases b;cases c;simp at h;rw [h],fun h=>by rw [h]⟩
 refine Runs.value (v:=.bool (!decide (b=c))) (w':=w) ?_ h
 rw [← hs]
 simp only [execOp,hx,hy]
 go_simp
theorem rn_fld_35_2 {x:Operand}{S o:Nat}(hx:a.eval x=.pointer (some ⟨S,o,none⟩)) (h:T (.pointer (some ⟨S,o+2,none⟩)) w):Runs Tryz.prog ⟨dst,.fieldAddr 35 x 2,ty,pos,after,g⟩ a w T:=by
 refine Runs.value (v:=.pointer (some ⟨S,o+2,none⟩)) (w':=w) ?_ h
 simp only [execOp,hx]
 go_simp
theorem rn_ld_32 {x:Operand}{q:Addr}{v:Value}(hx:a.eval x=.pointer (some q)) (hc:w.cell? q=some v) (h:T v w):Runs Tryz.prog ⟨dst,.load 32 x,ty,pos,after,g⟩ a w T:=by
 refine Runs.value (v:=v) (w':=w) ?_ h
 simp only [execOp,hx]
 go_simp
theorem rn_neq_32 {o1 o2:Operand}{b c:Int}(hx:a.eval o1=.int .i16 b) (hy:a.eval o2=.int .i16 c) (h:T (.bool (b != c)) w):Runs Tryz.prog ⟨dst,.binOp .neq 32 o1 o2 32,ty,pos,after,g⟩ a w T:=by
 refine Runs.value (v:=.bool (b != c)) (w':=w) ?_ h
 simp only [execOp,hx,hy]
 go_simp
theorem rn_fld_35_3 {x:Operand}{S o:Nat}(hx:a.eval x=.pointer (some ⟨S,o,none⟩)) (h:T (.pointer (some ⟨S,o+3,none⟩)) w):Runs Tryz.prog ⟨dst,.fieldAddr 35 x 3,ty,pos,after,g⟩ a w T:=by
 refine Runs.value (v:=.pointer (some ⟨S,o+3,none⟩)) (w':=w) ?_ h
 simp only [execOp,hx]
 go_simp
end
theorem enters_ar:Enters Tryz.prog 103:=fun args w=>by go_simp
set_option maxHeartbeats 8000000 in
theorem exok_any:∀(x:Xp) (B:Nat→Prop) (w:World) (p:Option Addr) (c:Nat),x.s.size≤1048576→XL B w p c x.ar →
 Calls Tryz.prog 50 #[xv x.k x.s x.v x.o p x.ar.length c x.q] w fun e w'=>e=.returned (.bool (okX x))∧Grew w w':=by
 intro x
 induction x using Xp.ind with
 | h k s y o ar q ih =>
 intro B w p c hsz hx
 replace hsz:s.size≤1048576:=hsz
 have HX:Hid (XL B w p c ar):=Lib.hid hx
 have hcap:ar.length≤c:=hx.cap.1
 have hmax:=hx.cap.2.1
 obtain ⟨b,hb⟩:∃b,okX ⟨k,s,y,o,ar,q⟩=b:=⟨_,rfl⟩
 show Calls Tryz.prog 50 #[xv k s y o p ar.length c q] w _
 rw [hb]
 rw [okX] at hb
 have HOK:=Lib.hid hb
 clear hx hb
 go_enter Tryz.func50,Tryz.ntmps50
 go_upto_region 2 with (go_at_call 102;(with_reducible refine(bare_any _ _ _ _ _ _ _ _ _).mono ?_);rintro e w1 ⟨rfl,g1⟩;have HG1:=Lib.hid g1;clear g1)
 have hb1:Blk w.heap.size [.int .i64 k,.string s,.int .i16 y,.int .i64 o,.slice p ar.length c,.int .i64 q] 35 w1:=(Blk.new w _ _).grew HG1.out
 have hb2:Blk w1.heap.size [.int .i64 k,.string (bnS k s),.int .i16 (bnV k y),.int .i64 (bnO k o),.slice none 0 0,.int .i64 0] 35 (w1.alloc (Obj.cells #[.int .i64 k,.string (bnS k s),.int .i16 (bnV k y),.int .i64 (bnO k o),.slice none 0 0,.int .i64 0] 35)):=Blk.new w1 _ _
 have hb3:=hb1.grew ((Grew.refl w1).alloc (Obj.cells #[.int .i64 k,.string (bnS k s),.int .i16 (bnV k y),.int .i64 (bnO k o),.slice none 0 0,.int .i64 0] 35))
 have hgV:Grew w (w1.alloc (Obj.cells #[.int .i64 k,.string (bnS k s),.int .i16 (bnV k y),.int .i64 (bnO k o),.slice none 0 0,.int .i64 0] 35)):=(((Grew.refl w).alloc _).trans HG1.out).alloc _
 generalize (w1.alloc (Obj.cells #[.int .i64 k,.string (bnS k s),.int .i16 (bnV k y),.int .i64 (bnO k o),.slice none 0 0,.int .i64 0] 35))=V at hb2 hb3 hgV ⊢
 generalize w.heap.size=S1 at hb3 ⊢
 generalize w1.heap.size=S2 at hb2 ⊢
 have HB:=Lib.hid hb3
 have HGV:=Lib.hid hgV
 have d0:Atv ⟨S1,0,none⟩ (.int .i64 k) V.drew:=(hb3.grew (Grew.refl _).drw).atv 0 rfl
 have d1:Atv ⟨S1,1,none⟩ (.string s) V.drew:=(hb3.grew (Grew.refl _).drw).atv 1 rfl
 have d2:Atv ⟨S1,2,none⟩ (.int .i16 y) V.drew:=(hb3.grew (Grew.refl _).drw).atv 2 rfl
 have d3:Atv ⟨S1,3,none⟩ (.int .i64 o) V.drew:=(hb3.grew (Grew.refl _).drw).atv 3 rfl
 have d4:Atv ⟨S1,4,none⟩ (.slice p ar.length c) V.drew:=(hb3.grew (Grew.refl _).drw).atv 4 rfl
 have e1:Atv ⟨S2,1,none⟩ (.string (bnS k s)) V.drew:=(hb2.grew (Grew.refl _).drw).atv 1 rfl
 have e2:Atv ⟨S2,2,none⟩ (.int .i16 (bnV k y)) V.drew:=(hb2.grew (Grew.refl _).drw).atv 2 rfl
 have e3:Atv ⟨S2,3,none⟩ (.int .i64 (bnO k o)) V.drew:=(hb2.grew (Grew.refl _).drw).atv 3 rfl
 clear hb1 hb2 hb3 hgV HG1
 refine wp_still [some 8,some 9,some 10,some 11,some 12,some 13,some 14,some 15,some 16,some 17,some 18,some 19,some 20,some 21,some 22,some 23,some 24,some 25,some 26,some 27,some 28,some 29,some 30,some 31,some 32,some 33,some 34,some 35] [Zf,Zf,Zf,Zf,Zf,Zf,Zf,Zf,Zt,Zt,Zt,Zt,Zt,Zt,Zt,Zt,Zt,Zt,Zt,Zt,Zt,Zt,Zt,Zt,Zt,Zt,Zt,Zt,Zt,Zt,Zt,Zt,Zt,Zt,Zt,Zt,Zf,Zf,Zf,Zf,Zf,Zf,Zf,Zf,Zf,Zf,Zf,Zf,Zf,Zf,Zf,Zf,Zf,Zf,Zf,Zf,Zf,Zf,Zf,Zf,Zf,Zf,Zf,Zf,Zf,Zf,Zf,Zf,Zf,Zf,Zf,Zf,Zf,Zf,Zf,Zf,Zf] [fun v _=>v=.pointer (some ⟨S1,4,none⟩),fun v _=>v=.slice p (ar.length) (c),fun v _=>v=.int .i64 (((ar.length:Nat):Int)),fun v _=>v=.pointer (some ⟨S1,0,none⟩),fun v _=>v=.int .i64 (k),fun v _=>v=.int .i64 (arK k),fun v _=>v=.bool ((((ar.length:Nat):Int)) != (arK k)),fun v _=>v=.bool ((((ar.length:Nat):Int)) != (arK k)),fun v _=>((((((ar.length:Nat):Int)) != (arK k))=false)→v=.pointer (some ⟨S1,1,none⟩))∧(¬ (((((ar.length:Nat):Int)) != (arK k))=false)→v=undef),fun v _=>((((((ar.length:Nat):Int)) != (arK k))=false)→v=.string s)∧(¬ (((((ar.length:Nat):Int)) != (arK k))=false)→v=undef),fun v _=>((((((ar.length:Nat):Int)) != (arK k))=false)→v=.pointer (some ⟨S2,1,none⟩))∧(¬ (((((ar.length:Nat):Int)) != (arK k))=false)→v=undef),fun v _=>((((((ar.length:Nat):Int)) != (arK k))=false)→v=.string (bnS k s))∧(¬ (((((ar.length:Nat):Int)) != (arK k))=false)→v=undef),fun v _=>((((((ar.length:Nat):Int)) != (arK k))=false)→v=.bool (!decide ((s)=((bnS k s)))))∧(¬ (((((ar.length:Nat):Int)) != (arK k))=false)→v=undef),fun v _=>v=.bool (((((ar.length:Nat):Int)) != (arK k))||(!decide ((s)=((bnS k s))))),fun v _=>v=.bool (((((ar.length:Nat):Int)) != (arK k))||(!decide ((s)=((bnS k s))))),fun v _=>(((((((ar.length:Nat):Int)) != (arK k))||(!decide ((s)=((bnS k s)))))=false)→v=.pointer (some ⟨S1,2,none⟩))∧(¬ ((((((ar.length:Nat):Int)) != (arK k))||(!decide ((s)=((bnS k s)))))=false)→v=undef),fun v _=>(((((((ar.length:Nat):Int)) != (arK k))||(!decide ((s)=((bnS k s)))))=false)→v=.int .i16 (y))∧(¬ ((((((ar.length:Nat):Int)) != (arK k))||(!decide ((s)=((bnS k s)))))=false)→v=undef),fun v _=>(((((((ar.length:Nat):Int)) != (arK k))||(!decide ((s)=((bnS k s)))))=false)→v=.pointer (some ⟨S2,2,none⟩))∧(¬ ((((((ar.length:Nat):Int)) != (arK k))||(!decide ((s)=((bnS k s)))))=false)→v=undef),fun v _=>(((((((ar.length:Nat):Int)) != (arK k))||(!decide ((s)=((bnS k s)))))=false)→v=.int .i16 (bnV k y))∧(¬ ((((((ar.length:Nat):Int)) != (arK k))||(!decide ((s)=((bnS k s)))))=false)→v=undef),fun v _=>(((((((ar.length:Nat):Int)) != (arK k))||(!decide ((s)=((bnS k s)))))=false)→v=.bool ((y) != (bnV k y)))∧(¬ ((((((ar.length:Nat):Int)) != (arK k))||(!decide ((s)=((bnS k s)))))=false)→v=undef),fun v _=>v=.bool ((((((ar.length:Nat):Int)) != (arK k))||(!decide ((s)=((bnS k s)))))||((y) != (bnV k y))),fun v _=>v=.bool ((((((ar.length:Nat):Int)) != (arK k))||(!decide ((s)=((bnS k s)))))||((y) != (bnV k y))),fun v _=>((((((((ar.length:Nat):Int)) != (arK k))||(!decide ((s)=((bnS k s)))))||((y) != (bnV k y)))=false)→v=.pointer (some ⟨S1,3,none⟩))∧(¬ (((((((ar.length:Nat):Int)) != (arK k))||(!decide ((s)=((bnS k s)))))||((y) != (bnV k y)))=false)→v=undef),fun v _=>((((((((ar.length:Nat):Int)) != (arK k))||(!decide ((s)=((bnS k s)))))||((y) != (bnV k y)))=false)→v=.int .i64 (o))∧(¬ (((((((ar.length:Nat):Int)) != (arK k))||(!decide ((s)=((bnS k s)))))||((y) != (bnV k y)))=false)→v=undef),fun v _=>((((((((ar.length:Nat):Int)) != (arK k))||(!decide ((s)=((bnS k s)))))||((y) != (bnV k y)))=false)→v=.pointer (some ⟨S2,3,none⟩))∧(¬ (((((((ar.length:Nat):Int)) != (arK k))||(!decide ((s)=((bnS k s)))))||((y) != (bnV k y)))=false)→v=undef),fun v _=>((((((((ar.length:Nat):Int)) != (arK k))||(!decide ((s)=((bnS k s)))))||((y) != (bnV k y)))=false)→v=.int .i64 (bnO k o))∧(¬ (((((((ar.length:Nat):Int)) != (arK k))||(!decide ((s)=((bnS k s)))))||((y) != (bnV k y)))=false)→v=undef),fun v _=>((((((((ar.length:Nat):Int)) != (arK k))||(!decide ((s)=((bnS k s)))))||((y) != (bnV k y)))=false)→v=.bool ((o) != (bnO k o)))∧(¬ (((((((ar.length:Nat):Int)) != (arK k))||(!decide ((s)=((bnS k s)))))||((y) != (bnV k y)))=false)→v=undef),fun v _=>v=.bool (((((((ar.length:Nat):Int)) != (arK k))||(!decide ((s)=((bnS k s)))))||((y) != (bnV k y)))||((o) != (bnO k o)))] (by kernel_rfl) (by kernel_rfl) rfl ⟨?_,?_,?_,?_,?_,?_,?_,?_,?_,?_,?_,?_,?_,?_,?_,?_,?_,?_,?_,?_,?_,?_,?_,?_,?_,?_,?_,?_,trivial⟩ ?_
 ·intro u w hR hd;exact rn_fld_35_4 (ev rfl) ⟨rfl,rfl⟩
 ·intro u w hR hd;exact rn_ld_33 (ev (hd.1 rfl)) (d4.kept hR) ⟨rfl,rfl⟩
 ·intro u w hR hd;exact rn_len_33 (ev (hd.1 rfl)) ⟨rfl,rfl⟩
 ·intro u w hR hd;exact rn_fld_35_0 (ev rfl) ⟨rfl,rfl⟩
 ·intro u w hR hd;exact rn_ld_3 (ev (hd.1 rfl)) (d0.kept hR) ⟨rfl,rfl⟩
 ·intro u w hR hd;exact runs_c1 enters_ar (ev (hd.1 rfl)) (callp (fun _ e=>e) ((arity_any k _).mono fun e w9 h=>⟨h.1,h.2.symm⟩))
 ·intro u w hR hd;exact rn_neq_3 (ev (hd.1 rfl)) (ev (hd.2.1 rfl)) ⟨rfl,rfl⟩
 ·intro u w hR hd;exact runs_mv (ev (hd.1 rfl)) ⟨rfl,rfl⟩
 ·intro u w hR hd;exact⟨fun hg=>have hG:(((((ar.length:Nat):Int)) != (arK k))=false):=Value.bool.inj ((hd.1 rfl).symm.trans hg);rn_fld_35_1 (ev rfl) ⟨rfl,⟨fun _=>rfl,fun hn=>absurd hG hn⟩⟩,Zn (hd.1 rfl)⟩
 ·intro u w hR hd;exact⟨fun hg=>have hG:(((((ar.length:Nat):Int)) != (arK k))=false):=Value.bool.inj ((hd.2.1 rfl).symm.trans hg);rn_ld_9 (ev ((hd.1 rfl).1 hG)) (d1.kept hR) ⟨rfl,⟨fun _=>rfl,fun hn=>absurd hG hn⟩⟩,Zn (hd.2.1 rfl)⟩
 ·intro u w hR hd;exact⟨fun hg=>have hG:(((((ar.length:Nat):Int)) != (arK k))=false):=Value.bool.inj ((hd.1 rfl).symm.trans hg);rn_fld_35_1 (ev rfl) ⟨rfl,⟨fun _=>rfl,fun hn=>absurd hG hn⟩⟩,Zn (hd.1 rfl)⟩
 ·intro u w hR hd;exact⟨fun hg=>have hG:(((((ar.length:Nat):Int)) != (arK k))=false):=Value.bool.inj ((hd.2.1 rfl).symm.trans hg);rn_ld_9 (ev ((hd.1 rfl).1 hG)) (e1.kept hR) ⟨rfl,⟨fun _=>rfl,fun hn=>absurd hG hn⟩⟩,Zn (hd.2.1 rfl)⟩
 ·intro u w hR hd;exact⟨fun hg=>have hG:(((((ar.length:Nat):Int)) != (arK k))=false):=Value.bool.inj ((hd.2.2.1 rfl).symm.trans hg);rn_nes_9 (ev ((hd.1 rfl).1 hG)) (ev ((hd.2.1 rfl).1 hG)) ⟨rfl,⟨fun _=>rfl,fun hn=>absurd hG hn⟩⟩,Zn (hd.2.2.1 rfl)⟩
 ·intro u w hR hd;exact runs_or2 (ev (hd.1 rfl)) (fun hb=>ev ((hd.2.1 rfl).1 hb)) ⟨rfl,rfl⟩
 ·intro u w hR hd;exact runs_mv (ev (hd.1 rfl)) ⟨rfl,rfl⟩
 ·intro u w hR hd;exact⟨fun hg=>have hG:((((((ar.length:Nat):Int)) != (arK k))||(!decide ((s)=((bnS k s)))))=false):=Value.bool.inj ((hd.1 rfl).symm.trans hg);rn_fld_35_2 (ev rfl) ⟨rfl,⟨fun _=>rfl,fun hn=>absurd hG hn⟩⟩,Zn (hd.1 rfl)⟩
 ·intro u w hR hd;exact⟨fun hg=>have hG:((((((ar.length:Nat):Int)) != (arK k))||(!decide ((s)=((bnS k s)))))=false):=Value.bool.inj ((hd.2.1 rfl).symm.trans hg);rn_ld_32 (ev ((hd.1 rfl).1 hG)) (d2.kept hR) ⟨rfl,⟨fun _=>rfl,fun hn=>absurd hG hn⟩⟩,Zn (hd.2.1 rfl)⟩
 ·intro u w hR hd;exact⟨fun hg=>have hG:((((((ar.length:Nat):Int)) != (arK k))||(!decide ((s)=((bnS k s)))))=false):=Value.bool.inj ((hd.1 rfl).symm.trans hg);rn_fld_35_2 (ev rfl) ⟨rfl,⟨fun _=>rfl,fun hn=>absurd hG hn⟩⟩,Zn (hd.1 rfl)⟩
 ·intro u w hR hd;exact⟨fun hg=>have hG:((((((ar.length:Nat):Int)) != (arK k))||(!decide ((s)=((bnS k s)))))=false):=Value.bool.inj ((hd.2.1 rfl).symm.trans hg);rn_ld_32 (ev ((hd.1 rfl).1 hG)) (e2.kept hR) ⟨rfl,⟨fun _=>rfl,fun hn=>absurd hG hn⟩⟩,Zn (hd.2.1 rfl)⟩
 ·intro u w hR hd;exact⟨fun hg=>have hG:((((((ar.length:Nat):Int)) != (arK k))||(!decide ((s)=((bnS k s)))))=false):=Value.bool.inj ((hd.2.2.1 rfl).symm.trans hg);rn_neq_32 (ev ((hd.1 rfl).1 hG)) (ev ((hd.2.1 rfl).1 hG)) ⟨rfl,⟨fun _=>rfl,fun hn=>absurd hG hn⟩⟩,Zn (hd.2.2.1 rfl)⟩
 ·intro u w hR hd;exact runs_or2 (ev (hd.1 rfl)) (fun hb=>ev ((hd.2.1 rfl).1 hb)) ⟨rfl,rfl⟩
 ·intro u w hR hd;exact runs_mv (ev (hd.1 rfl)) ⟨rfl,rfl⟩
 ·intro u w hR hd;exact⟨fun hg=>have hG:(((((((ar.length:Nat):Int)) != (arK k))||(!decide ((s)=((bnS k s)))))||((y) != (bnV k y)))=false):=Value.bool.inj ((hd.1 rfl).symm.trans hg);rn_fld_35_3 (ev rfl) ⟨rfl,⟨fun _=>rfl,fun hn=>absurd hG hn⟩⟩,Zn (hd.1 rfl)⟩
 ·intro u w hR hd;exact⟨fun hg=>have hG:(((((((ar.length:Nat):Int)) != (arK k))||(!decide ((s)=((bnS k s)))))||((y) != (bnV k y)))=false):=Value.bool.inj ((hd.2.1 rfl).symm.trans hg);rn_ld_3 (ev ((hd.1 rfl).1 hG)) (d3.kept hR) ⟨rfl,⟨fun _=>rfl,fun hn=>absurd hG hn⟩⟩,Zn (hd.2.1 rfl)⟩
 ·intro u w hR hd;exact⟨fun hg=>have hG:(((((((ar.length:Nat):Int)) != (arK k))||(!decide ((s)=((bnS k s)))))||((y) != (bnV k y)))=false):=Value.bool.inj ((hd.1 rfl).symm.trans hg);rn_fld_35_3 (ev rfl) ⟨rfl,⟨fun _=>rfl,fun hn=>absurd hG hn⟩⟩,Zn (hd.1 rfl)⟩
 ·intro u w hR hd;exact⟨fun hg=>have hG:(((((((ar.length:Nat):Int)) != (arK k))||(!decide ((s)=((bnS k s)))))||((y) != (bnV k y)))=false):=Value.bool.inj ((hd.2.1 rfl).symm.trans hg);rn_ld_3 (ev ((hd.1 rfl).1 hG)) (e3.kept hR) ⟨rfl,⟨fun _=>rfl,fun hn=>absurd hG hn⟩⟩,Zn (hd.2.1 rfl)⟩
 ·intro u w hR hd;exact⟨fun hg=>have hG:(((((((ar.length:Nat):Int)) != (arK k))||(!decide ((s)=((bnS k s)))))||((y) != (bnV k y)))=false):=Value.bool.inj ((hd.2.2.1 rfl).symm.trans hg);rn_neq_3 (ev ((hd.1 rfl).1 hG)) (ev ((hd.2.1 rfl).1 hG)) ⟨rfl,⟨fun _=>rfl,fun hn=>absurd hG hn⟩⟩,Zn (hd.2.2.1 rfl)⟩
 ·intro u w hR hd;exact runs_or2 (ev (hd.1 rfl)) (fun hb=>ev ((hd.2.1 rfl).1 hb)) ⟨rfl,rfl⟩
 ·intro u h
  have he:u 35=.bool (((((((ar.length:Nat):Int)) != (arK k))||(!decide ((s)=((bnS k s)))))||((y) != (bnV k y)))||((o) != (bnO k o))):=h 27 (by decide)
  have hE:(((((((ar.length:Nat):Int)) != (arK k))||(!decide ((s)=((bnS k s)))))||((y) != (bnV k y)))||((o) != (bnO k o)))=!hdX k s y o ar.length:=by rw [hdX,Bool.not_not]
  rw [hE] at he
  simp only [mixA,mixL,zz9,zz0,he]
  have HG4:Hid (Grew w V.drew):=Lib.hid (HGV.out.trans (Grew.refl V).drw)
  have HB4:=Lib.hid (HB.out.grew (Grew.refl V).drw)
  clear h he hE d0 d1 d2 d3 d4 e1 e2 e3
  generalize V.drew=W4 at HG4 HB4 ⊢
  cases hh:hdX k s y o ar.length with
  | false =>
    rw [hh,Bool.false_and] at HOK
    go_wp2
    go_ret
    exact⟨ret_bool HOK.out,HG4.out⟩
  | true =>
    rw [hh,Bool.true_and] at HOK
    have r4:W4.cell? ⟨S1,4,none⟩=some (.slice p ar.length c):=HB4.out.cell 4
    go_wp2
    go_loopg [5,39] ar.length (fun gg bv iv wr=>∃(j:Nat),iv=.int .i64 (j:Int)∧j≤ar.length∧gg=ar.length - j∧Hid (okXs (ar.take j)=true)∧Hid (Grew W4 wr))
    case atStart=>exact⟨0,rfl,Nat.zero_le _,rfl,Lib.hid rfl,Lib.hid (Grew.refl _)⟩
    case round =>
     obtain ⟨j,rfl,hj,rfl,HI,HGr⟩:=hrel
     have HG:=Lib.hid (HG4.out.trans HGr.out)
     by_cases hlt:j < ar.length
     ·
      obtain ⟨ba,oa,pa,ca,rfl,hba,haa,hca⟩:=HX.out.get j hlt
      have hma:=List.getElem_mem hlt
      have hna:=nXs_mem hma
      have hta:=List.take_succ_eq_append_getElem hlt
      have HLa:=Lib.hid (Nat.succ_le_of_lt hlt)
      have hih:=ih _ hma B
      generalize ar[j]=xa at *
      obtain ⟨ka,sa,va,o_a,ra,qa⟩:=xa
      replace hba:sa.size≤1048576∧va≤32767:=hba.2
      have HTa:=Lib.hid hta
      have HAa:Hid (XL B w pa ca ra):=Lib.hid haa
      have hcapa:ra.length≤ca:=haa.cap.1
      have hmaxa:=haa.cap.2.1
      replace hca:∀i_ u_,(xdc ⟨ka,sa,va,o_a,pa,ra.length,ca,qa⟩)[i_]?=some u_→wr.cell? ⟨ba,oa+j * 6+i_,none⟩=some u_:=fun i_ u_ h_=>Atv.kept (hca i_ u_ h_) HG.out
      have ca0:wr.cell? ⟨ba,oa+j * 6,none⟩=some (.int .i64 ka):=by simpa using hca 0 _ rfl
      have ca1:wr.cell? ⟨ba,oa+j * 6+1,none⟩=some (.string sa):=hca 1 _ rfl
      have ca2:wr.cell? ⟨ba,oa+j * 6+2,none⟩=some (.int .i16 va):=hca 2 _ rfl
      have ca3:wr.cell? ⟨ba,oa+j * 6+3,none⟩=some (.int .i64 o_a):=hca 3 _ rfl
      have ca4:wr.cell? ⟨ba,oa+j * 6+4,none⟩=some (.slice pa ra.length ca):=hca 4 _ rfl
      have ca5:wr.cell? ⟨ba,oa+j * 6+5,none⟩=some (.int .i64 qa):=hca 5 _ rfl
      clear hca haa hta
      obtain ⟨d,hd⟩:∃d,okX ⟨ka,sa,va,o_a,ra,qa⟩=d:=⟨_,rfl⟩
      have HD:=Lib.hid hd
      have HNO:=Lib.hid (fun(h:d=false)=>(show b=false by rw [← HOK.out,okXs_no hma (hd.trans h),Bool.false_and]))
      have HIH:=Lib.hid (fun W (hW:Grew w W)=>(show Calls Tryz.prog 50 #[xv ka sa va o_a pa ra.length ca qa] W fun e w'=>e=.returned (.bool d)∧Grew W w' from hd ▸ hih W pa ca hba.1 (HAa.out.kept hW)))
      clear hih hma hna hd
      cases d with
      | false =>
        have HN2:Hid (b=false):=Lib.hid (HNO.out rfl)
        clear HNO
        go_wp2_with (go_at_call 50;(with_reducible refine(HIH.out _ (HG.out.alloc _)).mono ?_);rintro e w5 ⟨rfl,g5⟩;have HG5:=Lib.hid ((HG.out.alloc _).trans g5);clear g5)
        go_ret
        exact⟨ret_bool HN2.out.symm,HG5.out⟩
      | true =>
        go_wp2_with (go_at_call 50;(with_reducible refine(HIH.out _ (HG.out.alloc _)).mono ?_);rintro e w5 ⟨rfl,g5⟩;have HG5:=Lib.hid ((HGr.out.alloc _).trans g5);clear g5)
        go_roundg (ar.length - (j+1))
        case measure=>have:=HLa.out;omega
        case rel=>exact⟨j+1,by go_num,HLa.out,rfl,Lib.hid (by rw [okXs_snoc HTa.out,HI.out,HD.out];rfl),HG5⟩
     ·obtain rfl:j=ar.length:=by omega
      rw [List.take_length] at HI
      have HKD:Hid (kdX k s y o=b):=Lib.hid (by have h1:=HOK.out;rw [HI.out,Bool.true_and] at h1;exact h1)
      have HID:=Lib.hid (fun W=>ident_any s hsz W)
      have HB5:=Lib.hid (HB4.out.grew HGr.out)
      have r0:wr.cell? ⟨S1,0,none⟩=some (.int .i64 k):=HB5.out.cell 0
      have r1:wr.cell? ⟨S1,1,none⟩=some (.string s):=HB5.out.cell 1
      have r2:wr.cell? ⟨S1,2,none⟩=some (.int .i16 y):=HB5.out.cell 2
      have r3:wr.cell? ⟨S1,3,none⟩=some (.int .i64 o):=HB5.out.cell 3
      have hkk:=kx6 k
      have HHH:=Lib.hid hh
      clear ih HX HOK HI hh r4 HB HB4 HGV
      rcases hkk with rfl | rfl | rfl | rfl | rfl | rfl | ⟨n1,n2,n3,n4,n5,n6⟩
      ·go_wp2
       go_ret
       exact⟨ret_bool (by rw [← HKD.out];rfl),HG.out⟩
      iterate 3
       ·replace HKD:Hid (idn s=b):=Lib.hid HKD.out
        go_wp2_with (go_at_call 62;(with_reducible refine(HID.out _).mono ?_);rintro e w6 ⟨rfl,g6⟩;have HG6:=Lib.hid (HG.out.trans g6);clear g6)
        go_ret
        exact⟨ret_bool HKD.out,HG6.out⟩
      ·replace HKD:Hid ((o==1||o==2)=b):=Lib.hid HKD.out
       go_wp2
       all_goals go_ret
       all_goals (refine⟨ret_bool ?_,HG.out⟩;rw [← HKD.out];try simp_all)
      ·replace HKD:Hid ((decide (3≤o)&&decide (o≤15))=b):=Lib.hid HKD.out
       go_wp2
       all_goals go_ret
       all_goals (refine⟨ret_bool (Eq.trans ?_ HKD.out),HG.out⟩;first | rfl | (simp_all;done) | (rw [Bool.eq_iff_iff];simp only [Bool.and_eq_true,decide_eq_true_eq,Bool.false_eq_true,false_iff,not_and,iff_true,true_and];omega))
      ·exfalso
       have h1:=HHH.out
       have h2:arK k=-1:=by simp [arK,n1,n2,n3,n4,n5,n6]
       have h3:(((ar.length:Nat):Int) != arK k)=true:=by rw [h2];simp <;> omega
       rw [hdX,h3] at h1
       simp at h1
end Go.Proofs.YtcknpcbkofgdoaaGreatDoor
namespace Go.Proofs.YtcknpcbkofgdoaaGreatDoor
open Go Go.RowKit Go.IntWalk
set_option linter.unusedSimpArgs false
set_option linter.unusedVariables false
set_option maxRecDepth 8000
section
variable {dst:Option Tmp}{ty:TypeId}{pos:String}{after:Array Edge}{g:Option (Nat × Bool)}{a:Act}{w:World}{T:Value→World→Prop}
theorem rn_ret_c167_t {fn:Func}{p0 p1:Tmp}(h:fn.results=#[.cell p0 167,.tmp p1]){tmps:Array Value}{w:World}{S0:Nat}{v0_0 v0_1 v0_2 v0_3 v0_4:Value}{v1:Value}{R:Ending→World→Prop}(hp0:tmps.getD p0 undef=.pointer (some ⟨S0,0,none⟩)) (h0_0:w.cell? ⟨S0,0,none⟩=some v0_0) (h0_1:w.cell? ⟨S0,1,none⟩=some v0_1) (h0_2:w.cell? ⟨S0,2,none⟩=some v0_2) (h0_3:w.cell? ⟨S0,3,none⟩=some v0_3) (h0_4:w.cell? ⟨S0,4,none⟩=some v0_4) (hp1:tmps.getD p1 undef=v1) (hR:R (.returned (.tuple #[.agg #[v0_0,v0_1,v0_2,v0_3,v0_4],v1])) w):bodyPost Tryz.prog fn R .ret { tmps:=tmps,defers:=[] } w:=by
 refine bodyPost_ret (v:=.tuple #[.agg #[v0_0,v0_1,v0_2,v0_3,v0_4],v1]) ?_ rfl hR
 rw [Array.getD_eq_getD_getElem?] at hp0 hp1
 simp [results,h,hp0,h0_0,h0_1,h0_2,h0_3,h0_4,hp1,go_sem]
end
set_option maxHeartbeats 4000000 in
theorem shape_any (k:Int) (w:World):Calls Tryz.prog 152 #[.int .i64 k] w fun e w'=>e=.returned (.tuple #[.agg #[.bool (shN k),.bool (shM k),.bool (shB k),.bool (shE k),.int .i64 (shA k)],.bool (shO k)])∧Grew w w':=by
 rcases kx13 k with rfl | rfl | rfl | rfl | rfl | rfl | rfl | rfl | rfl | rfl | rfl | rfl | rfl | ⟨n1,n2,n3,n4,n5,n6,n7,n8,n9,n10,n11,n12,n13⟩
 ·go_enter Tryz.func152,Tryz.ntmps152
  go_wp2
  refine rn_ret_c167_t Tryz.results152 (S0:=w.heap.size) (v0_0:=.bool true) (v0_1:=.bool false) (v0_2:=.bool false) (v0_3:=.bool false) (v0_4:=.int .i64 1) (v1:=.bool true) rfl (by go_simp) (by go_simp) (by go_simp) (by go_simp) (by go_simp) rfl ?_
  exact⟨rfl,(Grew.refl w).alloc _⟩
 ·go_enter Tryz.func152,Tryz.ntmps152
  go_wp2
  refine rn_ret_c167_t Tryz.results152 (S0:=w.heap.size) (v0_0:=.bool true) (v0_1:=.bool false) (v0_2:=.bool false) (v0_3:=.bool false) (v0_4:=.int .i64 1) (v1:=.bool true) rfl (by go_simp) (by go_simp) (by go_simp) (by go_simp) (by go_simp) rfl ?_
  exact⟨rfl,(Grew.refl w).alloc _⟩
 ·go_enter Tryz.func152,Tryz.ntmps152
  go_wp2
  refine rn_ret_c167_t Tryz.results152 (S0:=w.heap.size) (v0_0:=.bool true) (v0_1:=.bool false) (v0_2:=.bool false) (v0_3:=.bool false) (v0_4:=.int .i64 2) (v1:=.bool true) rfl (by go_simp) (by go_simp) (by go_simp) (by go_simp) (by go_simp) rfl ?_
  exact⟨rfl,(Grew.refl w).alloc _⟩
 ·go_enter Tryz.func152,Tryz.ntmps152
  go_wp2
  refine rn_ret_c167_t Tryz.results152 (S0:=w.heap.size) (v0_0:=.bool false) (v0_1:=.bool false) (v0_2:=.bool true) (v0_3:=.bool true) (v0_4:=.int .i64 1) (v1:=.bool true) rfl (by go_simp) (by go_simp) (by go_simp) (by go_simp) (by go_simp) rfl ?_
  exact⟨rfl,(Grew.refl w).alloc _⟩
 ·go_enter Tryz.func152,Tryz.ntmps152
  go_wp2
  refine rn_ret_c167_t Tryz.results152 (S0:=w.heap.size) (v0_0:=.bool false) (v0_1:=.bool true) (v0_2:=.bool true) (v0_3:=.bool false) (v0_4:=.int .i64 0) (v1:=.bool true) rfl (by go_simp) (by go_simp) (by go_simp) (by go_simp) (by go_simp) rfl ?_
  exact⟨rfl,(Grew.refl w).alloc _⟩
 ·go_enter Tryz.func152,Tryz.ntmps152
  go_wp2
  refine rn_ret_c167_t Tryz.results152 (S0:=w.heap.size) (v0_0:=.bool false) (v0_1:=.bool false) (v0_2:=.bool true) (v0_3:=.bool false) (v0_4:=.int .i64 1) (v1:=.bool true) rfl (by go_simp) (by go_simp) (by go_simp) (by go_simp) (by go_simp) rfl ?_
  exact⟨rfl,(Grew.refl w).alloc _⟩
 ·go_enter Tryz.func152,Tryz.ntmps152
  go_wp2
  refine rn_ret_c167_t Tryz.results152 (S0:=w.heap.size) (v0_0:=.bool true) (v0_1:=.bool false) (v0_2:=.bool false) (v0_3:=.bool false) (v0_4:=.int .i64 1) (v1:=.bool true) rfl (by go_simp) (by go_simp) (by go_simp) (by go_simp) (by go_simp) rfl ?_
  exact⟨rfl,(Grew.refl w).alloc _⟩
 ·go_enter Tryz.func152,Tryz.ntmps152
  go_wp2
  refine rn_ret_c167_t Tryz.results152 (S0:=w.heap.size) (v0_0:=.bool false) (v0_1:=.bool false) (v0_2:=.bool false) (v0_3:=.bool false) (v0_4:=.int .i64 1) (v1:=.bool true) rfl (by go_simp) (by go_simp) (by go_simp) (by go_simp) (by go_simp) rfl ?_
  exact⟨rfl,(Grew.refl w).alloc _⟩
 ·go_enter Tryz.func152,Tryz.ntmps152
  go_wp2
  refine rn_ret_c167_t Tryz.results152 (S0:=w.heap.size) (v0_0:=.bool true) (v0_1:=.bool false) (v0_2:=.bool false) (v0_3:=.bool false) (v0_4:=.int .i64 1) (v1:=.bool true) rfl (by go_simp) (by go_simp) (by go_simp) (by go_simp) (by go_simp) rfl ?_
  exact⟨rfl,(Grew.refl w).alloc _⟩
 ·go_enter Tryz.func152,Tryz.ntmps152
  go_wp2
  refine rn_ret_c167_t Tryz.results152 (S0:=w.heap.size) (v0_0:=.bool false) (v0_1:=.bool true) (v0_2:=.bool true) (v0_3:=.bool false) (v0_4:=.int .i64 0) (v1:=.bool true) rfl (by go_simp) (by go_simp) (by go_simp) (by go_simp) (by go_simp) rfl ?_
  exact⟨rfl,(Grew.refl w).alloc _⟩
 ·go_enter Tryz.func152,Tryz.ntmps152
  go_wp2
  refine rn_ret_c167_t Tryz.results152 (S0:=w.heap.size) (v0_0:=.bool false) (v0_1:=.bool true) (v0_2:=.bool true) (v0_3:=.bool false) (v0_4:=.int .i64 0) (v1:=.bool true) rfl (by go_simp) (by go_simp) (by go_simp) (by go_simp) (by go_simp) rfl ?_
  exact⟨rfl,(Grew.refl w).alloc _⟩
 ·go_enter Tryz.func152,Tryz.ntmps152
  go_wp2
  refine rn_ret_c167_t Tryz.results152 (S0:=w.heap.size) (v0_0:=.bool false) (v0_1:=.bool false) (v0_2:=.bool false) (v0_3:=.bool false) (v0_4:=.int .i64 0) (v1:=.bool true) rfl (by go_simp) (by go_simp) (by go_simp) (by go_simp) (by go_simp) rfl ?_
  exact⟨rfl,(Grew.refl w).alloc _⟩
 ·go_enter Tryz.func152,Tryz.ntmps152
  go_wp2
  refine rn_ret_c167_t Tryz.results152 (S0:=w.heap.size) (v0_0:=.bool false) (v0_1:=.bool false) (v0_2:=.bool false) (v0_3:=.bool false) (v0_4:=.int .i64 0) (v1:=.bool true) rfl (by go_simp) (by go_simp) (by go_simp) (by go_simp) (by go_simp) rfl ?_
  exact⟨rfl,(Grew.refl w).alloc _⟩
 ·have hN:shN k=false:=by simp [shN,n1,n2,n3,n4,n5,n6,n7,n8,n9,n10,n11,n12,n13]
  have hM:shM k=false:=by simp [shM,n1,n2,n3,n4,n5,n6,n7,n8,n9,n10,n11,n12,n13]
  have hB:shB k=false:=by simp [shB,n1,n2,n3,n4,n5,n6,n7,n8,n9,n10,n11,n12,n13]
  have hE:shE k=false:=by simp [shE,n1,n2,n3,n4,n5,n6,n7,n8,n9,n10,n11,n12,n13]
  have hA:shA k=0:=by simp [shA,n1,n2,n3,n4,n5,n6,n7,n8,n9,n10,n11,n12,n13]
  have hO:shO k=false:=by
   rw [shO,Bool.eq_false_iff]
   simp only [ne_eq,Bool.and_eq_true,decide_eq_true_eq]
   omega
  rw [hN,hM,hB,hE,hA,hO]
  have b1:=ne_b n1
  have b2:=ne_b n2
  have b3:=ne_b n3
  have b4:=ne_b n4
  have b5:=ne_b n5
  have b6:=ne_b n6
  have b7:=ne_b n7
  have b8:=ne_b n8
  have b9:=ne_b n9
  have b10:=ne_b n10
  have b11:=ne_b n11
  have b12:=ne_b n12
  have b13:=ne_b n13
  clear n1 n2 n3 n4 n5 n6 n7 n8 n9 n10 n11 n12 n13 hN hM hB hE hA hO
  go_enter Tryz.func152,Tryz.ntmps152
  go_wp2
  refine rn_ret_c167_t Tryz.results152 (S0:=w.heap.size) (v0_0:=.bool false) (v0_1:=.bool false) (v0_2:=.bool false) (v0_3:=.bool false) (v0_4:=.int .i64 0) (v1:=.bool false) rfl (by go_simp) (by go_simp) (by go_simp) (by go_simp) (by go_simp) rfl ?_
  exact⟨rfl,(Grew.refl w).alloc _⟩
end Go.Proofs.YtcknpcbkofgdoaaGreatDoor
