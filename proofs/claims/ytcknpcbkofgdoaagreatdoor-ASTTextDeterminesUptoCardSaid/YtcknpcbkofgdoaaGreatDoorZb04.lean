/-
  A READER OF TOKENS: statements (layers 16, 17). Nothing of the program stands here.
  A READER OF TOKENS: programs (layers 16, 17). Nothing of the program stands here.
  LAYER 16 (ast), THE PROGRAM: its tables, the library's functions that it calls; isKeyword, isIdentifier, formedName, isSigned, isNumber.
  LAYER 16 (ast), THE PROGRAM: every, at its seven types.
  LAYER 16 (ast), THE PROGRAM: what its tests of parts of a program say.
  LAYER 16 (ast), THE PROGRAM: formedConst, formedGlobal, formedChannel.
  LAYER 16 (ast), THE PROGRAM: what formedExpr says.
-/
import Derived.Test.YtcknpcbkofgdoaaGreatDoorZbShort
import Derived.Test.YtcknpcbkofgdoaaGreatDoorZb03
import Derived.Test.YtcknpcbkofgdoaaGreatDoorZb01
import Derived.Test.YtcknpcbkofgdoaaGreatDoorZb00
import Derived.Test.YtcknpcbkofgdoaaGreatDoorShelf
import Derived.Shelf.Strings.SlTrimAscii
import Derived.Deep.LoopGhost
import Derived.Deep.CutBlock
import Derived.Deep.MidRow
import Derived.Lib.IndexLaws
import Derived.Test.YtcknpcbkofgdoaaGreatDoorZb02
import Derived.Deep.Cut
import Derived.Shelf.Abstract
namespace Go.Proofs.YtcknpcbkofgdoaaGreatDoor
open Go
open Go.Lib (decDigits)
set_option linter.unusedSimpArgs false
set_option linter.unusedVariables false
set_option maxRecDepth 8000
section
variable {T:Type}(Z:Kz T)
def rdNam (n:Nat) (f:Xp→Sm) (r:List T):Ro T Sm:=bd (rd Z n (.expr 1) r) fun x r=>bd (tkT Z [59] r) fun _ r=>.ok (f x,r)
mutual
def rdS:Nat→List T→Ro T Sm
 | 0,ts=>.error ts
 | _+1,[]=>.error []
 | n+1,t :: r =>
   if Z.kn t=1 then
    (if isT Z [91] r=true then bd (tkT Z [91] r) fun _ r=>bd (rd Z n (.expr 1) r) fun x r=>bd (tkT Z [93] r) fun _ r=>bd (tkT Z [61] r) fun _ r=>rdNam Z n (fun y=>⟨3,nmT Z t,0,[x,y],[],[],Z.ps t⟩) r
     else bd (tkT Z [61] r) fun _ r=>rdNam Z n (fun y=>⟨2,nmT Z t,0,[y],[],[],Z.ps t⟩) r)
   else if Z.kn t≠3 then .error (t :: r)
   else if Z.tx t=[105,102] then rdC n (t :: r)
   else if Z.tx t=[108,101,116] then bd (idT Z r) fun s r=>bd (tkT Z [61] r) fun _ r=>rdNam Z n (fun y=>⟨1,nmT Z s,0,[y],[],[],Z.ps t⟩) r
   else if Z.tx t=[114,101,112,101,97,116] then bd (inT Z 0 r) fun m r=>bd (rdB n r) fun b r=>.ok (⟨5,⟨#[]⟩,m,[],b,[],Z.ps t⟩,r)
   else if Z.tx t=[119,104,105,108,101] then bd (rd Z n (.expr 1) r) fun x r=>bd (rdB n r) fun b r=>.ok (⟨6,⟨#[]⟩,0,[x],b,[],Z.ps t⟩,r)
   else if Z.tx t=[115,101,110,100] then bd (idT Z r) fun s r=>rdNam Z n (fun y=>⟨7,nmT Z s,0,[y],[],[],Z.ps t⟩) r
   else if Z.tx t=[101,109,105,116] then rdNam Z n (fun y=>⟨8,⟨#[]⟩,0,[y],[],[],Z.ps t⟩) r
   else if Z.tx t=[111,117,116,112,117,116] then bd (idT Z r) fun s r=>rdNam Z n (fun y=>⟨9,nmT Z s,0,[y],[],[],Z.ps t⟩) r
   else if Z.tx t=[102,114,101,115,104] then bd (inT Z 0 r) fun m r=>bd (rdB n r) fun b r=>.ok (⟨10,⟨#[]⟩,m,[],b,[],Z.ps t⟩,r)
   else if Z.tx t=[116,111,103,101,116,104,101,114] then bd (inT Z 0 r) fun m r=>bd (rdB n r) fun b r=>.ok (⟨11,⟨#[]⟩,m,[],b,[],Z.ps t⟩,r)
   else if Z.tx t=[99,104,101,99,107,112,111,105,110,116] then bd (tkT Z [59] r) fun _ r=>.ok (⟨12,⟨#[]⟩,0,[],[],[],Z.ps t⟩,r)
   else if Z.tx t=[114,101,116,117,114,110] then bd (tkT Z [59] r) fun _ r=>.ok (⟨13,⟨#[]⟩,0,[],[],[],Z.ps t⟩,r)
   else .error (t :: r)
def rdC:Nat→List T→Ro T Sm
 | 0,ts=>.error ts
 | n+1,ts=>bd (tkT Z [105,102] ts) fun t r=>bd (rd Z n (.expr 1) r) fun x r=>bd (rdB n r) fun b r=>bd (rdE n r) fun e r=>.ok (⟨4,⟨#[]⟩,0,[x],b,e,Z.ps t⟩,r)
def rdE:Nat→List T→Ro T (List Sm)
 | 0,ts=>.error ts
 | n+1,ts=>if isT Z [101,108,115,101] ts=true then bd (tkT Z [101,108,115,101] ts) fun _ r=>(if isT Z [105,102] r=true then bd (rdC n r) fun s r=>.ok ([s],r) else rdB n r) else .ok ([],ts)
def rdB:Nat→List T→Ro T (List Sm)
 | 0,ts=>.error ts
 | n+1,ts=>bd (tkT Z [123] ts) fun _ r=>rdI n r
def rdI:Nat→List T→Ro T (List Sm)
 | 0,ts=>.error ts
 | n+1,ts=>if isT Z [125] ts=true then bd (tkT Z [125] ts) fun _ r=>.ok ([],r) else bd (rdS n ts) fun s r=>bd (rdI n r) fun l r=>.ok (s :: l,r)
end
variable {Z}
theorem rdS_let (n:Nat) (t:T) (r:List T) (k:Z.kn t=3) (h:Z.tx t=[108,101,116]):rdS Z (n+1) (t :: r)=bd (idT Z r) fun s r=>bd (tkT Z [61] r) fun _ r=>rdNam Z n (fun y=>⟨1,nmT Z s,0,[y],[],[],Z.ps t⟩) r:=by
 rw [rdS,if_neg (by omega),if_neg (by omega),h];rfl
theorem rdS_if (n:Nat) (t:T) (r:List T) (k:Z.kn t=3) (h:Z.tx t=[105,102]):rdS Z (n+1) (t :: r)=rdC Z n (t :: r):=by
 rw [rdS,if_neg (by omega),if_neg (by omega),h];rfl
theorem rdS_rep (n:Nat) (t:T) (r:List T) (k:Z.kn t=3) (h:Z.tx t=[114,101,112,101,97,116]):rdS Z (n+1) (t :: r)=bd (inT Z 0 r) fun m r=>bd (rdB Z n r) fun b r=>.ok (⟨5,⟨#[]⟩,m,[],b,[],Z.ps t⟩,r):=by
 rw [rdS,if_neg (by omega),if_neg (by omega),h];rfl
theorem rdS_whi (n:Nat) (t:T) (r:List T) (k:Z.kn t=3) (h:Z.tx t=[119,104,105,108,101]):rdS Z (n+1) (t :: r)=bd (rd Z n (.expr 1) r) fun x r=>bd (rdB Z n r) fun b r=>.ok (⟨6,⟨#[]⟩,0,[x],b,[],Z.ps t⟩,r):=by
 rw [rdS,if_neg (by omega),if_neg (by omega),h];rfl
theorem rdS_snd (n:Nat) (t:T) (r:List T) (k:Z.kn t=3) (h:Z.tx t=[115,101,110,100]):rdS Z (n+1) (t :: r)=bd (idT Z r) fun s r=>rdNam Z n (fun y=>⟨7,nmT Z s,0,[y],[],[],Z.ps t⟩) r:=by
 rw [rdS,if_neg (by omega),if_neg (by omega),h];rfl
theorem rdS_emi (n:Nat) (t:T) (r:List T) (k:Z.kn t=3) (h:Z.tx t=[101,109,105,116]):rdS Z (n+1) (t :: r)=rdNam Z n (fun y=>⟨8,⟨#[]⟩,0,[y],[],[],Z.ps t⟩) r:=by
 rw [rdS,if_neg (by omega),if_neg (by omega),h];rfl
theorem rdS_out (n:Nat) (t:T) (r:List T) (k:Z.kn t=3) (h:Z.tx t=[111,117,116,112,117,116]):rdS Z (n+1) (t :: r)=bd (idT Z r) fun s r=>rdNam Z n (fun y=>⟨9,nmT Z s,0,[y],[],[],Z.ps t⟩) r:=by
 rw [rdS,if_neg (by omega),if_neg (by omega),h];rfl
theorem rdS_fre (n:Nat) (t:T) (r:List T) (k:Z.kn t=3) (h:Z.tx t=[102,114,101,115,104]):rdS Z (n+1) (t :: r)=bd (inT Z 0 r) fun m r=>bd (rdB Z n r) fun b r=>.ok (⟨10,⟨#[]⟩,m,[],b,[],Z.ps t⟩,r):=by
 rw [rdS,if_neg (by omega),if_neg (by omega),h];rfl
theorem rdS_tog (n:Nat) (t:T) (r:List T) (k:Z.kn t=3) (h:Z.tx t=[116,111,103,101,116,104,101,114]):rdS Z (n+1) (t :: r)=bd (inT Z 0 r) fun m r=>bd (rdB Z n r) fun b r=>.ok (⟨11,⟨#[]⟩,m,[],b,[],Z.ps t⟩,r):=by
 rw [rdS,if_neg (by omega),if_neg (by omega),h];rfl
theorem rdS_chk (n:Nat) (t:T) (r:List T) (k:Z.kn t=3) (h:Z.tx t=[99,104,101,99,107,112,111,105,110,116]):rdS Z (n+1) (t :: r)=bd (tkT Z [59] r) fun _ r=>.ok (⟨12,⟨#[]⟩,0,[],[],[],Z.ps t⟩,r):=by
 rw [rdS,if_neg (by omega),if_neg (by omega),h];rfl
theorem rdS_ret (n:Nat) (t:T) (r:List T) (k:Z.kn t=3) (h:Z.tx t=[114,101,116,117,114,110]):rdS Z (n+1) (t :: r)=bd (tkT Z [59] r) fun _ r=>.ok (⟨13,⟨#[]⟩,0,[],[],[],Z.ps t⟩,r):=by
 rw [rdS,if_neg (by omega),if_neg (by omega),h];rfl
def elR (e:List Sm):List (List UInt8):=(elK e).tail
theorem elK_cons:∀e:List Sm,elK e=[125] :: elR e
 | []=>by rw [elR,elK];rfl
 | [x]=>by
   rw [elR,elK]
   split <;> rfl
 | x :: y :: r=>by rw [elR,elK];rfl
theorem elR_nil:elR []=[]:=by rw [elR,elK];rfl
theorem elR_if (x:Sm) (h:x.k=4):elR [x]=[101,108,115,101] :: tkS x:=by rw [elR,elK_if x h];rfl
theorem elR_else {e:List Sm}(h:e≠[]) (h2:∀x,e=[x]→x.k≠4):elR e=[101,108,115,101] :: [123] :: (tkL e++[[125]]):=by rw [elR,elK_else h h2];rfl
theorem tkS_hd:∀(x:Sm),okS x=true→∃u r,tkS x=u :: r∧u≠[125]∧u≠[101,108,115,101]∧(x.k=4→u=[105,102])
 | ⟨k,s,n,ar,b,e,q⟩,h=>by
   obtain ⟨hx,_,_,h'⟩:=okS_cases h
   rw [tkS]
   have hid:idn s=true→s.data.toList≠[125]∧s.data.toList≠[101,108,115,101]:=fun hs=>⟨ne_of_kd (by rw [kd_id hs];decide),ne_of_kd (by rw [kd_id hs];decide)⟩
   rcases h' with ⟨hk,⟨a,rfl⟩,hs,_⟩ | ⟨rfl,⟨a,c,rfl⟩,hs,_⟩ | ⟨rfl,⟨a,rfl⟩,_⟩ | ⟨hk,rfl,_⟩ | ⟨rfl,⟨a,rfl⟩,_⟩ | ⟨rfl,⟨a,rfl⟩,_⟩ | ⟨hk,rfl,_⟩
   ·rcases hk with rfl | rfl | rfl | rfl
    ·exact⟨[108,101,116],_,rfl,by decide,by decide,fun h=>absurd h (by show ¬ ((1:Int)=4);decide)⟩
    ·exact⟨s.data.toList,_,rfl,(hid hs).1,(hid hs).2,fun h=>absurd h (by show ¬ ((2:Int)=4);decide)⟩
    ·exact⟨[115,101,110,100],_,rfl,by decide,by decide,fun h=>absurd h (by show ¬ ((7:Int)=4);decide)⟩
    ·exact⟨[111,117,116,112,117,116],_,rfl,by decide,by decide,fun h=>absurd h (by show ¬ ((9:Int)=4);decide)⟩
   ·exact⟨s.data.toList,_,rfl,(hid hs).1,(hid hs).2,fun h=>absurd h (by show ¬ ((3:Int)=4);decide)⟩
   ·exact⟨[105,102],_,rfl,by decide,by decide,fun _=>rfl⟩
   ·rcases hk with rfl | rfl | rfl
    ·exact⟨[114,101,112,101,97,116],_,rfl,by decide,by decide,fun h=>absurd h (by show ¬ ((5:Int)=4);decide)⟩
    ·exact⟨[102,114,101,115,104],_,rfl,by decide,by decide,fun h=>absurd h (by show ¬ ((10:Int)=4);decide)⟩
    ·exact⟨[116,111,103,101,116,104,101,114],_,rfl,by decide,by decide,fun h=>absurd h (by show ¬ ((11:Int)=4);decide)⟩
   ·exact⟨[119,104,105,108,101],_,rfl,by decide,by decide,fun h=>absurd h (by show ¬ ((6:Int)=4);decide)⟩
   ·exact⟨[101,109,105,116],_,rfl,by decide,by decide,fun h=>absurd h (by show ¬ ((8:Int)=4);decide)⟩
   ·rcases hk with rfl | rfl
    ·exact⟨[99,104,101,99,107,112,111,105,110,116],_,rfl,by decide,by decide,fun h=>absurd h (by show ¬ ((12:Int)=4);decide)⟩
    ·exact⟨[114,101,116,117,114,110],_,rfl,by decide,by decide,fun h=>absurd h (by show ¬ ((13:Int)=4);decide)⟩
theorem isT_hd {ts r:List T}{u v:List UInt8}{rest:List (List UInt8)}(hm:ts.map Z.tx=u :: rest):isT Z v (ts++r)=(u==v):=by
 obtain ⟨t,ts1,rfl,ht,h1⟩:=List.map_eq_cons_iff.1 hm
 show (Z.tx t==v)=_
 rw [ht]
variable (hZ:Z.Good)
include hZ
theorem rd_whole {a:Xp}(h:okX a=true) (hf:fitX a){ts:List T}(hm:ts.map Z.tx=tkX a):∃a',stX a'=stX a∧∀t r,Z.tx t≠[91]→opF (Z.tx t)=none→Ev (fun n=>rd Z n (.expr 1) (ts++t :: r)) (.ok (a',t :: r)):=by
 obtain ⟨a',hx,he⟩:=rd_tkX hZ a h hf ts hm
 exact⟨a',hx,fun t r h1 ho=>(he 1 (by omega) (lvX_1 h) (by omega)).whole h1 ho⟩
theorem rd_nam {a:Xp}(h:okX a=true) (hf:fitX a){ts:List T}(hm:ts.map Z.tx=tkX a++[[59]]):∃a',stX a'=stX a∧∀f r,Ev (fun n=>rdNam Z n f (ts++r)) (.ok (f a',r)):=by
 obtain ⟨tsA,ts1,rfl,hA,h1⟩:=List.map_eq_append_iff.1 hm
 obtain ⟨t,ts2,rfl,ht,h2⟩:=List.map_eq_cons_iff.1 h1
 obtain rfl:=List.map_eq_nil_iff.1 h2
 obtain ⟨a',hx,he⟩:=rd_whole hZ h hf hA
 refine⟨a',hx,fun f r=>?_⟩
 have e:tsA++[t]++r=tsA++t :: r:=by simp
 rw [e]
 refine Ev.congr (fun m=>by rw [rdNam]) (Ev.bd (he t r (by rw [ht];decide) (by rw [ht];rfl)) ?_)
 exact Ev.congr (fun m=>by rw [tkT_ok ht,bd_ok]) (Ev.pure _)
theorem inT_ok {v:Int}(h:0≤v∧v≤32767){t:T}{r:List T}(ht:Z.tx t=numZ v){l:Int}(hl:l≤v):inT Z l (t :: r)=.ok (v,r):=by
 obtain ⟨k1,k2⟩:=kn_num hZ h ht
 rw [inT,if_pos ⟨k1,by rw [k2];exact hl⟩,k2]
variable (Z) in
omit hZ in
def Ps (x:Sm):Prop:=okS x=true→fitS x→∀ts:List T,ts.map Z.tx=tkS x→∃x',stS x'=stS x∧(∀r,isT Z [101,108,115,101] r=false→Ev (fun n=>rdS Z n (ts++r)) (.ok (x',r)))∧(x.k=4→∀r,isT Z [101,108,115,101] r=false→Ev (fun n=>rdC Z n (ts++r)) (.ok (x',r)))
omit hZ in
theorem noels:∀(l:List Sm),okSs l=true→∀ts:List T,ts.map Z.tx=tkL l→∀t r,Z.tx t=[125]→isT Z [101,108,115,101] (ts++t :: r)=false
 | [],_,ts,hm,t,r,ht=>by
   rw [tkL] at hm
   obtain rfl:=List.map_eq_nil_iff.1 hm
   rw [List.nil_append]
   exact isT_no (by rw [ht];decide)
 | x :: xs,h,ts,hm,t,r,ht=>by
   rw [okSs,Bool.and_eq_true] at h
   obtain ⟨u,rest,hu,_,h2,_⟩:=tkS_hd x h.1
   rw [tkL,hu,List.cons_append] at hm
   rw [isT_hd hm]
   exact beq_eq_false_iff_ne.2 h2
omit hZ in
theorem rd_tkL:∀(l:List Sm),(∀x ∈ l,Ps Z x)→okSs l=true→fitSs l→∀ts:List T,ts.map Z.tx=tkL l→∃l',stSs l'=stSs l∧∀t r,Z.tx t=[125]→Ev (fun n=>rdI Z n (ts++t :: r)) (.ok (l',r))
 | [],_,_,_,ts,hm=>by
   rw [tkL] at hm
   obtain rfl:=List.map_eq_nil_iff.1 hm
   refine⟨[],rfl,fun t r ht=>?_⟩
   rw [List.nil_append]
   exact Ev.succ (g:=fun _=>.ok ([],r)) (fun m=>by rw [rdI,if_pos (isT_yes ht),tkT_ok ht,bd_ok]) (Ev.pure _)
 | x :: xs,ih,h,hf,ts,hm=>by
   rw [okSs,Bool.and_eq_true] at h
   rw [fitSs] at hf
   rw [tkL] at hm
   obtain ⟨tsA,tsB,rfl,hA,hB⟩:=List.map_eq_append_iff.1 hm
   obtain ⟨x',hx',hex,_⟩:=ih x (by simp) h.1 hf.1 tsA hA
   obtain ⟨l',hl',hel⟩:=rd_tkL xs (fun y hy=>ih y (by simp [hy])) h.2 hf.2 tsB hB
   refine⟨x' :: l',by rw [stSs,stSs,hx',hl'],fun t r ht=>?_⟩
   rw [List.append_assoc]
   obtain ⟨u,rest,hu,h125,_,_⟩:=tkS_hd x h.1
   have hno:isT Z [125] (tsA++(tsB++t :: r))=false:=by
    rw [isT_hd (hA.trans hu)]
    exact beq_eq_false_iff_ne.2 h125
   refine Ev.succ (g:=fun m=>bd (rdS Z m (tsA++(tsB++t :: r))) fun s r=>bd (rdI Z m r) fun l r=>.ok (s :: l,r)) (fun m=>by rw [rdI,hno];rfl) (Ev.bd (hex _ (noels xs h.2 tsB hB t r ht)) (Ev.bd (hel t r ht) (Ev.pure _)))
omit hZ in
theorem rd_blk {l:List Sm}(ih:∀x ∈ l,Ps Z x) (h:okSs l=true) (hf:fitSs l){ts:List T}(hm:ts.map Z.tx=[123] :: (tkL l++[[125]])):∃l',stSs l'=stSs l∧∀r,Ev (fun n=>rdB Z n (ts++r)) (.ok (l',r)):=by
 obtain ⟨t,ts1,rfl,ht,h1⟩:=List.map_eq_cons_iff.1 hm
 obtain ⟨tsA,ts2,rfl,hA,h2⟩:=List.map_eq_append_iff.1 h1
 obtain ⟨t',ts3,rfl,ht',h3⟩:=List.map_eq_cons_iff.1 h2
 obtain rfl:=List.map_eq_nil_iff.1 h3
 obtain ⟨l',hl,he⟩:=rd_tkL l ih h hf tsA hA
 refine⟨l',hl,fun r=>?_⟩
 have e:t :: (tsA++[t'])++r=t :: (tsA++t' :: r):=by simp
 rw [e]
 exact Ev.succ (g:=fun m=>rdI Z m (tsA++t' :: r)) (fun m=>by rw [rdB,tkT_ok ht,bd_ok]) (he t' r ht')
omit hZ in
theorem rd_els {e:List Sm}(ih:∀x ∈ e,Ps Z x) (h:okSs e=true) (hf:fitSs e){ts:List T}(hm:ts.map Z.tx=elR e):∃e',stSs e'=stSs e∧∀r,isT Z [101,108,115,101] r=false→Ev (fun n=>rdE Z n (ts++r)) (.ok (e',r)):=by
 by_cases h0:e=[]
 ·subst h0
  rw [elR_nil] at hm
  obtain rfl:=List.map_eq_nil_iff.1 hm
  refine⟨[],rfl,fun r hr=>?_⟩
  rw [List.nil_append]
  exact Ev.succ (g:=fun _=>.ok ([],r)) (fun m=>by rw [rdE,hr];rfl) (Ev.pure _)
 ·by_cases h4:∃x,e=[x]∧x.k=4
  ·obtain ⟨x,rfl,hx⟩:=h4
   rw [elR_if x hx] at hm
   obtain ⟨t,ts1,rfl,ht,h1⟩:=List.map_eq_cons_iff.1 hm
   rw [okSs,Bool.and_eq_true] at h
   rw [fitSs] at hf
   obtain ⟨x',hx',_,hC⟩:=ih x (by simp) h.1 hf.1 ts1 h1
   obtain ⟨u,rest,hu,_,_,h105⟩:=tkS_hd x h.1
   refine⟨[x'],by rw [stSs,stSs,stSs,stSs,hx'],fun r hr=>?_⟩
   have his:isT Z [105,102] (ts1++r)=true:=by
    rw [isT_hd (h1.trans hu),h105 hx];rfl
   rw [List.cons_append]
   refine Ev.succ (g:=fun m=>bd (rdC Z m (ts1++r)) fun s r=>.ok ([s],r)) (fun m=>?_) (Ev.bd (hC hx r hr) (Ev.pure _))
   rw [rdE,if_pos (isT_yes ht),tkT_ok ht,bd_ok,if_pos his]
  ·rw [elR_else h0 (fun x hx hk=>h4 ⟨x,hx,hk⟩)] at hm
   obtain ⟨t,ts1,rfl,ht,h1⟩:=List.map_eq_cons_iff.1 hm
   obtain ⟨e',he',hB⟩:=rd_blk ih h hf h1
   refine⟨e',he',fun r hr=>?_⟩
   have his:isT Z [105,102] (ts1++r)=false:=by
    rw [isT_hd h1];rfl
   rw [List.cons_append]
   refine Ev.succ (g:=fun m=>rdB Z m (ts1++r)) (fun m=>?_) (hB r)
   rw [rdE,if_pos (isT_yes ht),tkT_ok ht,bd_ok,his]
   rfl
theorem rd_tkS (x:Sm):Ps Z x:=by
 induction x using Sm.ind with
 | h k s n ar b e q ihb ihe =>
 intro h hfit ts hm
 obtain ⟨hx,hb,he,h'⟩:=okS_cases h
 rw [fitS] at hfit
 obtain ⟨fx,fb,fe⟩:=hfit
 have hf1:∀{a:Xp}{l:List Xp},fitXs (a :: l)→fitX a:=fun h=>by rw [fitXs] at h;exact h.1
 have hf2:∀{a c:Xp}{l:List Xp},fitXs (a :: c :: l)→fitX c:=fun h=>by rw [fitXs,fitXs] at h;exact h.2.1
 have no4:∀{k:Int}{P:Prop},k≠4→(Sm.mk k s n ar b e q).k=4→P:=fun h h'=>absurd h' h
 have blk:∀{u:List (List UInt8)}{ts:List T},ts.map Z.tx=u++([[123]]++(tkL b++elK []))→∃tsA tsB,ts=tsA++tsB∧tsA.map Z.tx=u∧tsB.map Z.tx=[123] :: (tkL b++[[125]]):=fun {u ts} hm=>by
  obtain ⟨tsA,tsB,e,hA,hB⟩:=List.map_eq_append_iff.1 hm
  rw [elK] at hB
  exact⟨tsA,tsB,e,hA,hB⟩
 rcases h' with ⟨hk,⟨a,rfl⟩,hs,rfl,rfl,rfl⟩ | ⟨rfl,⟨a,c,rfl⟩,hs,rfl,rfl,rfl⟩ | ⟨rfl,⟨a,rfl⟩,rfl,rfl⟩ | ⟨hk,rfl,rfl,hn,rfl⟩ | ⟨rfl,⟨a,rfl⟩,rfl,rfl,rfl⟩ | ⟨rfl,⟨a,rfl⟩,rfl,rfl,rfl,rfl⟩ | ⟨hk,rfl,rfl,rfl,rfl,rfl⟩
 ·rcases hk with rfl | rfl | rfl | rfl
  ·rw [tkS,if_pos (show hedK 1 0 _=[] from rfl),(ag0 a []).2] at hm
   replace hm:ts.map Z.tx=[108,101,116] :: s.data.toList :: [61] :: (tkX a++[[59]]):=hm
   obtain ⟨t,ts1,rfl,ht,h1⟩:=List.map_eq_cons_iff.1 hm
   obtain ⟨t2,ts2,rfl,ht2,h2⟩:=List.map_eq_cons_iff.1 h1
   obtain ⟨t3,ts3,rfl,ht3,h3⟩:=List.map_eq_cons_iff.1 h2
   obtain ⟨a',ha',hn⟩:=rd_nam hZ (ok1 hx) (hf1 fx) h3
   obtain ⟨k1,k2⟩:=kn_id hZ hs ht2
   refine⟨⟨1,s,0,[a'],[],[],Z.ps t⟩,by rw [stS,stS,stXs,stXs,stXs,stXs,ha'],fun r _=>?_,no4 (by decide)⟩
   refine Ev.succ (g:=fun m=>rdNam Z m (fun y=>⟨1,s,0,[y],[],[],Z.ps t⟩) (ts3++r)) (fun m=>?_) (hn _ r)
   rw [List.cons_append,List.cons_append,List.cons_append,rdS_let m t _ (kn_tx hZ ht rfl) ht,idT_ok k1,bd_ok,tkT_ok ht3,bd_ok,k2]
  ·rw [tkS,if_pos (show hedK 2 0 _=[] from rfl),(ag0 a []).2] at hm
   replace hm:ts.map Z.tx=s.data.toList :: [61] :: (tkX a++[[59]]):=hm
   obtain ⟨t,ts1,rfl,ht,h1⟩:=List.map_eq_cons_iff.1 hm
   obtain ⟨t2,ts2,rfl,ht2,h2⟩:=List.map_eq_cons_iff.1 h1
   obtain ⟨a',ha',hn⟩:=rd_nam hZ (ok1 hx) (hf1 fx) h2
   obtain ⟨k1,k2⟩:=kn_id hZ hs ht
   refine⟨⟨2,s,0,[a'],[],[],Z.ps t⟩,by rw [stS,stS,stXs,stXs,stXs,stXs,ha'],fun r _=>?_,no4 (by decide)⟩
   refine Ev.succ (g:=fun m=>rdNam Z m (fun y=>⟨2,s,0,[y],[],[],Z.ps t⟩) (ts2++r)) (fun m=>?_) (hn _ r)
   rw [List.cons_append,List.cons_append,rdS,if_pos k1,isT_no (by rw [ht2];decide),if_neg (by decide),tkT_ok ht2,bd_ok,k2]
  ·rw [tkS,if_pos (show hedK 7 0 _=[] from rfl),(ag0 a []).2] at hm
   replace hm:ts.map Z.tx=[115,101,110,100] :: s.data.toList :: (tkX a++[[59]]):=hm
   obtain ⟨t,ts1,rfl,ht,h1⟩:=List.map_eq_cons_iff.1 hm
   obtain ⟨t2,ts2,rfl,ht2,h2⟩:=List.map_eq_cons_iff.1 h1
   obtain ⟨a',ha',hn⟩:=rd_nam hZ (ok1 hx) (hf1 fx) h2
   obtain ⟨k1,k2⟩:=kn_id hZ hs ht2
   refine⟨⟨7,s,0,[a'],[],[],Z.ps t⟩,by rw [stS,stS,stXs,stXs,stXs,stXs,ha'],fun r _=>?_,no4 (by decide)⟩
   refine Ev.succ (g:=fun m=>rdNam Z m (fun y=>⟨7,s,0,[y],[],[],Z.ps t⟩) (ts2++r)) (fun m=>?_) (hn _ r)
   rw [List.cons_append,List.cons_append,rdS_snd m t _ (kn_tx hZ ht rfl) ht,idT_ok k1,bd_ok,k2]
  ·rw [tkS,if_pos (show hedK 9 0 _=[] from rfl),(ag0 a []).2] at hm
   replace hm:ts.map Z.tx=[111,117,116,112,117,116] :: s.data.toList :: (tkX a++[[59]]):=hm
   obtain ⟨t,ts1,rfl,ht,h1⟩:=List.map_eq_cons_iff.1 hm
   obtain ⟨t2,ts2,rfl,ht2,h2⟩:=List.map_eq_cons_iff.1 h1
   obtain ⟨a',ha',hn⟩:=rd_nam hZ (ok1 hx) (hf1 fx) h2
   obtain ⟨k1,k2⟩:=kn_id hZ hs ht2
   refine⟨⟨9,s,0,[a'],[],[],Z.ps t⟩,by rw [stS,stS,stXs,stXs,stXs,stXs,ha'],fun r _=>?_,no4 (by decide)⟩
   refine Ev.succ (g:=fun m=>rdNam Z m (fun y=>⟨9,s,0,[y],[],[],Z.ps t⟩) (ts2++r)) (fun m=>?_) (hn _ r)
   rw [List.cons_append,List.cons_append,rdS_out m t _ (kn_tx hZ ht rfl) ht,idT_ok k1,bd_ok,k2]
 ·rw [tkS,if_pos (show hedK 3 0 _=[] from rfl),(ag0 a [c]).2,(ag1 a c []).2] at hm
  replace hm:ts.map Z.tx=s.data.toList :: [91] :: (tkX a++[93] :: [61] :: (tkX c++[[59]])):=hm
  obtain ⟨t,ts1,rfl,ht,h1⟩:=List.map_eq_cons_iff.1 hm
  obtain ⟨t2,ts2,rfl,ht2,h2⟩:=List.map_eq_cons_iff.1 h1
  obtain ⟨tsA,ts3,rfl,hA,h3⟩:=List.map_eq_append_iff.1 h2
  obtain ⟨t4,ts4,rfl,ht4,h4⟩:=List.map_eq_cons_iff.1 h3
  obtain ⟨t5,ts5,rfl,ht5,h5⟩:=List.map_eq_cons_iff.1 h4
  obtain ⟨a',ha',hw⟩:=rd_whole hZ (ok1 hx) (hf1 fx) hA
  obtain ⟨c',hc',hn⟩:=rd_nam hZ (ok2 hx) (hf2 fx) h5
  obtain ⟨k1,k2⟩:=kn_id hZ hs ht
  refine⟨⟨3,s,0,[a',c'],[],[],Z.ps t⟩,by rw [stS,stS,stXs,stXs,stXs,stXs,stXs,stXs,ha',hc'],fun r _=>?_,no4 (by decide)⟩
  have e:t :: t2 :: (tsA++t4 :: t5 :: ts5)++r=t :: t2 :: (tsA++t4 :: (t5 :: (ts5++r))):=by simp
  rw [e]
  refine Ev.succ (g:=fun m=>bd (rd Z m (.expr 1) (tsA++t4 :: (t5 :: (ts5++r)))) fun x r=>bd (tkT Z [93] r) fun _ r=>bd (tkT Z [61] r) fun _ r=>rdNam Z m (fun y=>⟨3,s,0,[x,y],[],[],Z.ps t⟩) r) (fun m=>?_) (Ev.bd (hw t4 _ (by rw [ht4];decide) (by rw [ht4];rfl)) ?_)
  ·rw [rdS,if_pos k1,if_pos (isT_yes ht2),tkT_ok ht2,bd_ok,k2]
  ·exact Ev.congr (fun m=>by rw [tkT_ok ht4,bd_ok,tkT_ok ht5,bd_ok]) (hn _ r)
 ·rw [tkS,if_neg (show hedK 4 0 _≠[] from List.cons_ne_nil _ _),(ag0 a []).2] at hm
  replace hm:ts.map Z.tx=([105,102] :: (tkX a++[[123]]))++(tkL b++elK e):=hm
  rw [elK_cons] at hm
  have e0:([105,102] :: (tkX a++[[123]]))++(tkL b++[125] :: elR e)=[105,102] :: (tkX a++(([123] :: (tkL b++[[125]]))++elR e)):=by simp
  rw [e0] at hm
  obtain ⟨t,ts1,rfl,ht,h1⟩:=List.map_eq_cons_iff.1 hm
  obtain ⟨tsA,ts2,rfl,hA,h2⟩:=List.map_eq_append_iff.1 h1
  obtain ⟨tsB,tsE,rfl,hB,hE⟩:=List.map_eq_append_iff.1 h2
  obtain ⟨a',ha',hw⟩:=rd_whole hZ (ok1 hx) (hf1 fx) hA
  obtain ⟨b',hb',hwb⟩:=rd_blk ihb hb fb hB
  obtain ⟨e',he',hwe⟩:=rd_els ihe he fe hE
  have key:∀r,isT Z [101,108,115,101] r=false→Ev (fun n=>rdC Z n (t :: (tsA++(tsB++tsE))++r)) (.ok (⟨4,⟨#[]⟩,0,[a'],b',e',Z.ps t⟩,r)):=fun r hr=>by
   have e2:t :: (tsA++(tsB++tsE))++r=t :: (tsA++(tsB++(tsE++r))):=by simp
   rw [e2]
   obtain ⟨t6,ts6,e6,ht6,h6⟩:=List.map_eq_cons_iff.1 hB
   have hw':=hw t6 (ts6++(tsE++r)) (by rw [ht6];decide) (by rw [ht6];rfl)
   have e7:t6 :: (ts6++(tsE++r))=tsB++(tsE++r):=by rw [e6];simp
   rw [e7] at hw'
   refine Ev.succ (g:=fun m=>bd (rd Z m (.expr 1) (tsA++(tsB++(tsE++r)))) fun x r=>bd (rdB Z m r) fun b r=>bd (rdE Z m r) fun e r=>.ok (⟨4,⟨#[]⟩,0,[x],b,e,Z.ps t⟩,r)) (fun m=>by rw [rdC,tkT_ok ht,bd_ok]) (Ev.bd hw' (Ev.bd (hwb _) (Ev.bd (hwe r hr) (Ev.pure _))))
  refine⟨⟨4,⟨#[]⟩,0,[a'],b',e',Z.ps t⟩,by rw [stS,stS,stXs,stXs,stXs,stXs,ha',hb',he'],fun r hr=>?_,fun _ r hr=>key r hr⟩
  exact Ev.succ (fun m=>by rw [List.cons_append,rdS_if m t _ (kn_tx hZ ht rfl) ht]) (key r hr)
 ·have hb1:∀(u:List UInt8) (kk:Int),tkS ⟨kk,⟨#[]⟩,n,[],b,[],q⟩=[u,numZ n,[123]]++(tkL b++elK [])→ts.map Z.tx=tkS ⟨kk,⟨#[]⟩,n,[],b,[],q⟩→∃t t2 tsB b',ts=t :: t2 :: tsB∧Z.tx t=u∧Z.tx t2=numZ n∧stSs b'=stSs b∧∀r,Ev (fun n=>rdB Z n (tsB++r)) (.ok (b',r)):=fun u kk e hm=>by
   rw [e] at hm
   have e0:[u,numZ n,[123]]++(tkL b++elK [])=u :: numZ n :: ([123] :: (tkL b++[[125]])):=by rw [elK];simp
   rw [e0] at hm
   obtain ⟨t,ts1,rfl,ht,h1⟩:=List.map_eq_cons_iff.1 hm
   obtain ⟨t2,tsB,rfl,ht2,hB⟩:=List.map_eq_cons_iff.1 h1
   obtain ⟨b',hb',hwb⟩:=rd_blk ihb hb fb hB
   exact⟨t,t2,tsB,b',rfl,ht,ht2,hb',hwb⟩
  rcases hk with rfl | rfl | rfl
  ·obtain ⟨t,t2,tsB,b',rfl,ht,ht2,hb',hwb⟩:=hb1 [114,101,112,101,97,116] 5 (by rw [tkS,if_neg (show hedK 5 n _≠[] from List.cons_ne_nil _ _)];rfl) hm
   refine⟨⟨5,⟨#[]⟩,n,[],b',[],Z.ps t⟩,by rw [stS,stS,hb'],fun r _=>?_,no4 (by decide)⟩
   refine Ev.succ (g:=fun m=>bd (rdB Z m (tsB++r)) fun b r=>.ok (⟨5,⟨#[]⟩,n,[],b,[],Z.ps t⟩,r)) (fun m=>?_) (Ev.bd (hwb r) (Ev.pure _))
   rw [List.cons_append,List.cons_append,rdS_rep m t _ (kn_tx hZ ht rfl) ht,inT_ok hZ hn ht2 hn.1,bd_ok]
  ·obtain ⟨t,t2,tsB,b',rfl,ht,ht2,hb',hwb⟩:=hb1 [102,114,101,115,104] 10 (by rw [tkS,if_neg (show hedK 10 n _≠[] from List.cons_ne_nil _ _)];rfl) hm
   refine⟨⟨10,⟨#[]⟩,n,[],b',[],Z.ps t⟩,by rw [stS,stS,hb'],fun r _=>?_,no4 (by decide)⟩
   refine Ev.succ (g:=fun m=>bd (rdB Z m (tsB++r)) fun b r=>.ok (⟨10,⟨#[]⟩,n,[],b,[],Z.ps t⟩,r)) (fun m=>?_) (Ev.bd (hwb r) (Ev.pure _))
   rw [List.cons_append,List.cons_append,rdS_fre m t _ (kn_tx hZ ht rfl) ht,inT_ok hZ hn ht2 hn.1,bd_ok]
  ·obtain ⟨t,t2,tsB,b',rfl,ht,ht2,hb',hwb⟩:=hb1 [116,111,103,101,116,104,101,114] 11 (by rw [tkS,if_neg (show hedK 11 n _≠[] from List.cons_ne_nil _ _)];rfl) hm
   refine⟨⟨11,⟨#[]⟩,n,[],b',[],Z.ps t⟩,by rw [stS,stS,hb'],fun r _=>?_,no4 (by decide)⟩
   refine Ev.succ (g:=fun m=>bd (rdB Z m (tsB++r)) fun b r=>.ok (⟨11,⟨#[]⟩,n,[],b,[],Z.ps t⟩,r)) (fun m=>?_) (Ev.bd (hwb r) (Ev.pure _))
   rw [List.cons_append,List.cons_append,rdS_tog m t _ (kn_tx hZ ht rfl) ht,inT_ok hZ hn ht2 hn.1,bd_ok]
 ·rw [tkS,if_neg (show hedK 6 0 _≠[] from List.cons_ne_nil _ _),(ag0 a []).2] at hm
  replace hm:ts.map Z.tx=([119,104,105,108,101] :: (tkX a++[[123]]))++(tkL b++elK []):=hm
  have e0:([119,104,105,108,101] :: (tkX a++[[123]]))++(tkL b++elK [])=[119,104,105,108,101] :: (tkX a++([123] :: (tkL b++[[125]]))):=by rw [elK];simp
  rw [e0] at hm
  obtain ⟨t,ts1,rfl,ht,h1⟩:=List.map_eq_cons_iff.1 hm
  obtain ⟨tsA,tsB,rfl,hA,hB⟩:=List.map_eq_append_iff.1 h1
  obtain ⟨a',ha',hw⟩:=rd_whole hZ (ok1 hx) (hf1 fx) hA
  obtain ⟨b',hb',hwb⟩:=rd_blk ihb hb fb hB
  refine⟨⟨6,⟨#[]⟩,0,[a'],b',[],Z.ps t⟩,by rw [stS,stS,stXs,stXs,stXs,stXs,ha',hb'],fun r _=>?_,no4 (by decide)⟩
  have e2:t :: (tsA++tsB)++r=t :: (tsA++(tsB++r)):=by simp
  rw [e2]
  obtain ⟨t6,ts6,e6,ht6,h6⟩:=List.map_eq_cons_iff.1 hB
  have hw':=hw t6 (ts6++r) (by rw [ht6];decide) (by rw [ht6];rfl)
  have e7:t6 :: (ts6++r)=tsB++r:=by rw [e6];simp
  rw [e7] at hw'
  refine Ev.succ (g:=fun m=>bd (rd Z m (.expr 1) (tsA++(tsB++r))) fun x r=>bd (rdB Z m r) fun b r=>.ok (⟨6,⟨#[]⟩,0,[x],b,[],Z.ps t⟩,r)) (fun m=>by rw [rdS_whi m t _ (kn_tx hZ ht rfl) ht]) (Ev.bd hw' (Ev.bd (hwb r) (Ev.pure _)))
 ·rw [tkS,if_pos (show hedK 8 0 _=[] from rfl),(ag0 a []).2] at hm
  replace hm:ts.map Z.tx=[101,109,105,116] :: (tkX a++[[59]]):=hm
  obtain ⟨t,ts1,rfl,ht,h1⟩:=List.map_eq_cons_iff.1 hm
  obtain ⟨a',ha',hn⟩:=rd_nam hZ (ok1 hx) (hf1 fx) h1
  refine⟨⟨8,⟨#[]⟩,0,[a'],[],[],Z.ps t⟩,by rw [stS,stS,stXs,stXs,stXs,stXs,ha'],fun r _=>?_,no4 (by decide)⟩
  exact Ev.succ (fun m=>by rw [List.cons_append,rdS_emi m t _ (kn_tx hZ ht rfl) ht]) (hn _ r)
 ·rcases hk with rfl | rfl
  ·rw [tkS,if_pos (show hedK 12 0 _=[] from rfl)] at hm
   replace hm:ts.map Z.tx=[[99,104,101,99,107,112,111,105,110,116],[59]]:=hm
   obtain ⟨t,ts1,rfl,ht,h1⟩:=List.map_eq_cons_iff.1 hm
   obtain ⟨t2,ts2,rfl,ht2,h2⟩:=List.map_eq_cons_iff.1 h1
   obtain rfl:=List.map_eq_nil_iff.1 h2
   refine⟨⟨12,⟨#[]⟩,0,[],[],[],Z.ps t⟩,by rw [stS,stS],fun r _=>?_,no4 (by decide)⟩
   exact Ev.succ (g:=fun _=>_) (fun m=>by rw [List.cons_append,List.cons_append,rdS_chk m t _ (kn_tx hZ ht rfl) ht,tkT_ok ht2,bd_ok,List.nil_append]) (Ev.pure _)
  ·rw [tkS,if_pos (show hedK 13 0 _=[] from rfl)] at hm
   replace hm:ts.map Z.tx=[[114,101,116,117,114,110],[59]]:=hm
   obtain ⟨t,ts1,rfl,ht,h1⟩:=List.map_eq_cons_iff.1 hm
   obtain ⟨t2,ts2,rfl,ht2,h2⟩:=List.map_eq_cons_iff.1 h1
   obtain rfl:=List.map_eq_nil_iff.1 h2
   refine⟨⟨13,⟨#[]⟩,0,[],[],[],Z.ps t⟩,by rw [stS,stS],fun r _=>?_,no4 (by decide)⟩
   exact Ev.succ (g:=fun _=>_) (fun m=>by rw [List.cons_append,List.cons_append,rdS_ret m t _ (kn_tx hZ ht rfl) ht,tkT_ok ht2,bd_ok,List.nil_append]) (Ev.pure _)
end
end Go.Proofs.YtcknpcbkofgdoaaGreatDoor
namespace Go.Proofs.YtcknpcbkofgdoaaGreatDoor
open Go
open Go.Lib (decDigits)
set_option linter.unusedSimpArgs false
set_option linter.unusedVariables false
set_option maxRecDepth 8000
inductive Dc where
 | c (x:Cn)
 | g (x:Gl)
 | s (x:ByteArray)
 | o (x:ByteArray)
 | h (x:Cn)
 | t (x:Ta)
def dcls (P:Pg):List Dc:=P.cs.map .c++(P.gs.map .g++(P.ss.map .s++(P.os.map .o++(P.hs.map .h++P.ts.map .t))))
def dcT:Dc→List UInt8
 | .c x=>lnC [] x.s x.v
 | .g x=>lnG [] x.s x.l x.i
 | .s x=>lnS [] x
 | .o x=>lnO [] x
 | .h x=>lnH [] x.s x.v
 | .t x=>tskT x
theorem fold_flat {α:Type}{f:List UInt8→α→List UInt8}{g:α→List UInt8}(h:∀O x,f O x=O++g x):∀(l:List α) (O:List UInt8),l.foldl f O=O++l.flatMap g
 | [],O=>by simp
 | x :: l,O=>by rw [List.foldl_cons,fold_flat h l,h,List.flatMap_cons,List.append_assoc]
theorem lnG_app (O:List UInt8) (s:ByteArray) (l i:Int):lnG O s l i=O++lnG [] s l i:=by
 unfold lnG lnG2 lnG1
 split
 ·simp
 ·split <;> simp
theorem fmT_flat (P:Pg):fmT P=(dcls P).flatMap dcT:=by
 rw [fmT,fCs,fGs,fSs,fOs,fHs,fTs,fold_flat (f:=fun O t=>O++tskT t) (g:=fun t=>dcT (.t t)) (fun O x=>rfl),fold_flat (f:=fun O c=>lnH O c.s c.v) (g:=fun c=>dcT (.h c)) (fun O x=>by simp [dcT,lnH]),fold_flat (f:=lnO) (g:=fun c=>dcT (.o c)) (fun O x=>by simp [dcT,lnO]),fold_flat (f:=lnS) (g:=fun c=>dcT (.s c)) (fun O x=>by simp [dcT,lnS]),fold_flat (f:=fun O c=>lnG O c.s c.l c.i) (g:=fun c=>dcT (.g c)) (fun O x=>by simp only [dcT];exact lnG_app _ _ _ _),fold_flat (f:=fun O c=>lnC O c.s c.v) (g:=fun c=>dcT (.c c)) (fun O x=>by simp [dcT,lnC])]
 simp [dcls,List.flatMap_append,List.flatMap_map,List.append_assoc]
def sgK (z:Int):List (List UInt8):=if z < 0 then [[45],numZ (-z)] else [numZ z]
def vaK (l i:Int):List (List UInt8):=if 0 < l then [[91],numZ l,[93]] else if i≠0 then [61] :: sgK i else []
def opK (w:List UInt8) (n:Int):List (List UInt8):=if n=0 then [] else [w,numZ n]
def heK (t:Ta):List (List UInt8):=if t.p=0 then [111,110] :: t.c.data.toList :: [40] :: t.m.data.toList :: [41] :: opK [119,105,116,104,105,110] t.w else [[101,118,101,114,121],numZ t.p]
def tkD:Dc→List (List UInt8)
 | .c x=>[99,111,110,115,116] :: x.s.data.toList :: [61] :: (sgK x.v++[[59]])
 | .g x=>[118,97,114] :: x.s.data.toList :: (vaK x.l x.i++[[59]])
 | .s x=>[[115,101,110,115,111,114],x.data.toList,[59]]
 | .o x=>[[111,117,116,112,117,116],x.data.toList,[59]]
 | .h x=>[[99,104,97,110,110,101,108],x.s.data.toList,[91],numZ x.v,[93],[59]]
 | .t x=>[116,97,115,107] :: x.s.data.toList :: (heK x++(opK [100,101,97,100,108,105,110,101] x.d++([123] :: (tkL x.b++[[125]]))))
def okD:Dc→Bool
 | .c x=>okC x.s x.v
 | .g x=>okG x.s x.l x.i
 | .s x=>idn x
 | .o x=>idn x
 | .h x=>okH x.s x.v
 | .t x=>okT x
def fitD:Dc→Prop
 | .c x=>x.v≤32767
 | .g x=>x.i≤32767
 | .s _=>True
 | .o _=>True
 | .h _=>True
 | .t x=>fitSs x.b
theorem txs_sgK {z:Int}{zs:List UInt8}(hz:HN wd zs=true):txs (numZ z++zs)=sgK z++txs zs:=by
 rw [sgK]
 split
 ·rename_i h
  have h1:numZ z=45 :: numZ (-z):=by rw [numZ,if_pos h,numZ_pos (by omega)]
  rw [h1,List.cons_append,txs_1 rfl,txs_numZ (by omega) hz]
  rfl
 ·rw [txs_numZ (by omega) hz]
  rfl
theorem txs_opt {w:List UInt8}(hw:idc w=true) (hn:w≠[]){n:Int}(h:0≤n){zs:List UInt8}(hz:HN wd zs=true):txs (optT w n++zs)=opK w n++txs zs:=by
 rw [optT,opK]
 split
 ·rfl
 ·have h1:((([32]++w)++[32])++numZ n)++zs=32 :: (w++(32 :: (numZ n++zs))):=by simp
  rw [h1,txs_sp,txs_word hw hn rfl,txs_sp,txs_numZ h hz]
  rfl
theorem HN_opt (w:List UInt8) (n:Int){zs:List UInt8}(hz:HN wd zs=true):HN wd (optT w n++zs)=true:=by
 rw [optT]
 split
 ·exact hz
 ·rfl
theorem tz_sen {s:ByteArray}(h:idn s=true):Tz (lnS [] s) [[115,101,110,115,111,114],s.data.toList,[59]]:=fun zs=>by
 have h1:lnS [] s++zs=[115,101,110,115,111,114]++(32 :: (s.data.toList++(59 :: 10 :: zs))):=by simp [lnS]
 rw [h1,txs_word (by decide) (by simp) rfl,txs_sp,txs_id h rfl,txs_1 rfl,txs_nl]
 rfl
theorem tz_out {s:ByteArray}(h:idn s=true):Tz (lnO [] s) [[111,117,116,112,117,116],s.data.toList,[59]]:=fun zs=>by
 have h1:lnO [] s++zs=[111,117,116,112,117,116]++(32 :: (s.data.toList++(59 :: 10 :: zs))):=by simp [lnO]
 rw [h1,txs_word (by decide) (by simp) rfl,txs_sp,txs_id h rfl,txs_1 rfl,txs_nl]
 rfl
theorem tz_dcl:∀(d:Dc),okD d=true→Tz (dcT d) (tkD d)
 | .c x,h=>fun zs=>by
   obtain ⟨hs,_⟩:=okC_of (show okC x.s x.v=true from h)
   have h1:dcT (.c x)++zs=[99,111,110,115,116]++(32 :: (x.s.data.toList++(32 :: 61 :: 32 :: (numZ x.v++(59 :: 10 :: zs))))):=by simp [dcT,lnC]
   rw [h1,txs_word (by decide) (by simp) rfl,txs_sp,txs_id hs rfl,txs_sp,txs_eqs,txs_sgK rfl,txs_1 rfl,txs_nl,tkD]
   simp
 | .g x,h=>fun zs=>by
   obtain ⟨hs,hl,_⟩:=okG_of (show okG x.s x.l x.i=true from h)
   have h1:dcT (.g x)++zs=[118,97,114]++(32 :: (x.s.data.toList++((if 0 < x.l then 91 :: (numZ x.l++[93]) else if x.i≠0 then 32 :: 61 :: 32 :: numZ x.i else [])++(59 :: 10 :: zs)))):=by
    show lnG [] x.s x.l x.i++zs=_
    unfold lnG lnG2 lnG1
    split
    ·simp
    ·split <;> simp
   rw [h1,txs_word (by decide) (by simp) rfl,txs_sp,tkD,vaK]
   split
   ·rw [txs_id hs rfl,List.cons_append,txs_1 rfl,List.append_assoc,txs_numZ hl.1 rfl,List.singleton_append,txs_1 rfl,txs_1 rfl,txs_nl]
    rfl
   ·split
    ·rw [txs_id hs rfl]
     show _ :: _ :: txs (32 :: 61 :: 32 :: (numZ x.i++(59 :: 10 :: zs)))=_
     rw [txs_sp,txs_eqs,txs_sgK rfl,txs_1 rfl,txs_nl]
     simp
    ·rw [List.nil_append,txs_id hs rfl,txs_1 rfl,txs_nl]
     rfl
 | .s x,h=>tz_sen h
 | .o x,h=>tz_out h
 | .h x,h=>fun zs=>by
   obtain ⟨hs,hv,_⟩:=okH_of (show okH x.s x.v=true from h)
   have h1:dcT (.h x)++zs=[99,104,97,110,110,101,108]++(32 :: (x.s.data.toList++(91 :: (numZ x.v++(93 :: 59 :: 10 :: zs))))):=by simp [dcT,lnH]
   rw [h1,txs_word (by decide) (by simp) rfl,txs_sp,txs_id hs rfl,txs_1 rfl,txs_numZ hv rfl,txs_1 rfl,txs_1 rfl,txs_nl]
   rfl
 | .t x,h=>fun zs=>by
   obtain ⟨hs,hd,hb,hc⟩:=okT_cases (show okT x=true from h)
   have hL:Tz (linL x.b [32,32,32,32]) (tkL x.b):=txs_linL x.b _ hb (fun zs=>by show txs (32 :: 32 :: 32 :: 32 :: zs)=_;rw [txs_sp,txs_sp,txs_sp,txs_sp])
   have htail:txs (optT [100,101,97,100,108,105,110,101] x.d++(32 :: 123 :: 10 :: (linL x.b [32,32,32,32]++(125 :: 10 :: zs))))=opK [100,101,97,100,108,105,110,101] x.d++([123] :: (tkL x.b++([125] :: txs zs))):=by
    rw [txs_opt (by decide) (by simp) hd.1 rfl,txs_sp,txs_1 rfl,txs_nl,hL,txs_1 rfl,txs_nl]
   have hHN:=HN_opt [100,101,97,100,108,105,110,101] x.d (zs:=32 :: 123 :: 10 :: (linL x.b [32,32,32,32]++(125 :: 10 :: zs))) rfl
   show txs (tskF (tskH x) (linL x.b [32,32,32,32]) x.d++zs)=_
   rw [tkD,heK,tskF,tskH]
   rcases hc with ⟨hp,hc1,hm1,hw⟩ | ⟨hp,_,_,_⟩
   ·rw [if_pos hp,if_pos hp,tskC,tskO]
    have h1:((((((((([116,97,115,107,32]++x.s.data.toList)++[32,111,110,32])++x.c.data.toList)++[40])++x.m.data.toList)++[41])++optT [119,105,116,104,105,110] x.w)++optT [100,101,97,100,108,105,110,101] x.d++[32,123,10])++linL x.b [32,32,32,32]++[125,10])++zs=[116,97,115,107]++(32 :: (x.s.data.toList++(32 :: ([111,110]++(32 :: (x.c.data.toList++(40 :: (x.m.data.toList++(41 :: (optT [119,105,116,104,105,110] x.w++(optT [100,101,97,100,108,105,110,101] x.d++(32 :: 123 :: 10 :: (linL x.b [32,32,32,32]++(125 :: 10 :: zs)))))))))))))):=by simp
    rw [h1,txs_word (by decide) (by simp) rfl,txs_sp,txs_id hs rfl,txs_sp,txs_word (by decide) (by simp) rfl,txs_sp,txs_id hc1 rfl,txs_1 rfl,txs_id hm1 rfl,txs_1 rfl,txs_opt (by decide) (by simp) hw.1 hHN,htail]
    simp
   ·have hp0:¬ x.p=0:=by omega
    rw [if_neg hp0,if_neg hp0,tskE,tskO]
    have h1:((((([116,97,115,107,32]++x.s.data.toList)++[32,101,118,101,114,121,32])++numZ x.p)++optT [100,101,97,100,108,105,110,101] x.d++[32,123,10])++linL x.b [32,32,32,32]++[125,10])++zs=[116,97,115,107]++(32 :: (x.s.data.toList++(32 :: ([101,118,101,114,121]++(32 :: (numZ x.p++(optT [100,101,97,100,108,105,110,101] x.d++(32 :: 123 :: 10 :: (linL x.b [32,32,32,32]++(125 :: 10 :: zs)))))))))):=by simp
    rw [h1,txs_word (by decide) (by simp) rfl,txs_sp,txs_id hs rfl,txs_sp,txs_word (by decide) (by simp) rfl,txs_sp,txs_numZ (by omega) hHN,htail]
    simp
theorem txs_dcls:∀(l:List Dc),(∀d ∈ l,okD d=true)→txs (l.flatMap dcT)=l.flatMap tkD
 | [],_=>by rw [List.flatMap_nil,List.flatMap_nil];rfl
 | d :: l,h=>by rw [List.flatMap_cons,List.flatMap_cons,tz_dcl d (h d (by simp)),txs_dcls l (fun e he=>h e (by simp [he]))]
section
variable {T:Type}(Z:Kz T)
def rdO (w:List UInt8) (r:List T):Ro T Int:=if isT Z w r=true then bd (tkT Z w r) fun _ r=>inT Z 0 r else .ok (0,r)
def rdTk (n:Nat) (s:T) (p:Int) (c m:ByteArray) (w:Int) (r:List T):Ro T Dc:=bd (rdO Z [100,101,97,100,108,105,110,101] r) fun d r=>bd (rdB Z n r) fun b r=>.ok (.t ⟨nmT Z s,p,d,c,m,w,b,Z.ps s⟩,r)
def rdT (n:Nat) (r:List T):Ro T Dc:=bd (idT Z r) fun s r=>if isT Z [101,118,101,114,121] r=true then bd (tkT Z [101,118,101,114,121] r) fun _ r=>bd (inT Z 1 r) fun p r=>rdTk Z n s p ⟨#[]⟩ ⟨#[]⟩ 0 r
 else bd (tkT Z [111,110] r) fun _ r=>bd (idT Z r) fun c r=>bd (tkT Z [40] r) fun _ r=>bd (idT Z r) fun m r=>bd (tkT Z [41] r) fun _ r=>bd (rdO Z [119,105,116,104,105,110] r) fun w r=>rdTk Z n s 0 (nmT Z c) (nmT Z m) w r
def rdV (r:List T):Ro T (Int × Int):=if isT Z [91] r=true then bd (tkT Z [91] r) fun _ r=>bd (inT Z 1 r) fun l r=>bd (tkT Z [93] r) fun _ r=>.ok ((l,0),r)
 else if isT Z [61] r=true then bd (tkT Z [61] r) fun _ r=>bd (siT Z r) fun i r=>.ok ((0,i),r) else .ok ((0,0),r)
def rdG (r:List T):Ro T Dc:=bd (idT Z r) fun s r=>bd (rdV Z r) fun v r=>bd (tkT Z [59] r) fun _ r=>.ok (.g ⟨nmT Z s,v.1,v.2,Z.ps s⟩,r)
def rdD (n:Nat) (ts:List T):Ro T Dc :=
 if isT Z [116,97,115,107] ts=true then bd (tkT Z [116,97,115,107] ts) fun _ r=>rdT Z n r
 else if isT Z [118,97,114] ts=true then bd (tkT Z [118,97,114] ts) fun _ r=>rdG Z r
 else if isT Z [99,111,110,115,116] ts=true then bd (tkT Z [99,111,110,115,116] ts) fun _ r=>bd (idT Z r) fun s r=>bd (tkT Z [61] r) fun _ r=>bd (siT Z r) fun v r=>bd (tkT Z [59] r) fun _ r=>.ok (.c ⟨nmT Z s,v,Z.ps s⟩,r)
 else if isT Z [99,104,97,110,110,101,108] ts=true then bd (tkT Z [99,104,97,110,110,101,108] ts) fun _ r=>bd (idT Z r) fun s r=>bd (tkT Z [91] r) fun _ r=>bd (inT Z 0 r) fun v r=>bd (tkT Z [93] r) fun _ r=>bd (tkT Z [59] r) fun _ r=>.ok (.h ⟨nmT Z s,v,Z.ps s⟩,r)
 else if isT Z [115,101,110,115,111,114] ts=true then bd (tkT Z [115,101,110,115,111,114] ts) fun _ r=>bd (idT Z r) fun s r=>bd (tkT Z [59] r) fun _ r=>.ok (.s (nmT Z s),r)
 else bd (tkT Z [111,117,116,112,117,116] ts) fun _ r=>bd (idT Z r) fun s r=>bd (tkT Z [59] r) fun _ r=>.ok (.o (nmT Z s),r)
def rdDs:Nat→List T→Ro T (List Dc)
 | 0,ts=>.error ts
 | _+1,[]=>.ok ([],[])
 | n+1,t :: r=>bd (rdD Z n (t :: r)) fun d r=>bd (rdDs n r) fun l r=>.ok (d :: l,r)
end
def stCn (x:Cn):Cn:=⟨x.s,x.v,0⟩
def stGl (x:Gl):Gl:=⟨x.s,x.l,x.i,0⟩
def stTa (x:Ta):Ta:=⟨x.s,x.p,x.d,x.c,x.m,x.w,stSs x.b,0⟩
def stD:Dc→Dc
 | .c x=>.c (stCn x)
 | .g x=>.g (stGl x)
 | .s x=>.s x
 | .o x=>.o x
 | .h x=>.h (stCn x)
 | .t x=>.t (stTa x)
section
variable {T:Type}{Z:Kz T}(hZ:Z.Good)
include hZ
theorem siT_ok {z:Int}(h:-32767≤z∧z≤32767){ts:List T}(hm:ts.map Z.tx=sgK z) (r:List T):siT Z (ts++r)=.ok (z,r):=by
 rw [sgK] at hm
 split at hm
 ·obtain ⟨t,ts1,rfl,ht,h1⟩:=List.map_eq_cons_iff.1 hm
  obtain ⟨t2,ts2,rfl,ht2,h2⟩:=List.map_eq_cons_iff.1 h1
  obtain rfl:=List.map_eq_nil_iff.1 h2
  rw [List.cons_append,List.cons_append,List.nil_append,siT,if_pos (isT_yes ht),tkT_ok ht,bd_ok,inT_ok hZ (by omega) ht2 (by omega),bd_ok,Int.neg_neg]
 ·obtain ⟨t,ts1,rfl,ht,h1⟩:=List.map_eq_cons_iff.1 hm
  obtain rfl:=List.map_eq_nil_iff.1 h1
  have hno:isT Z [45] (t :: r)=false:=isT_no (by rw [ht];exact ne_of_kd (by rw [(kd_num (by omega)).1];decide))
  rw [List.cons_append,List.nil_append,siT,hno,if_neg (by decide),inT_ok hZ (by omega) ht (by omega)]
theorem rdO_ok {w:List UInt8}{n:Int}(h:0≤n∧n≤32767){ts:List T}(hm:ts.map Z.tx=opK w n){r:List T}(hr:isT Z w r=false):rdO Z w (ts++r)=.ok (n,r):=by
 rw [opK] at hm
 split at hm
 ·rename_i h0
  obtain rfl:=List.map_eq_nil_iff.1 hm
  rw [List.nil_append,rdO,hr,if_neg (by decide),h0]
 ·obtain ⟨t,ts1,rfl,ht,h1⟩:=List.map_eq_cons_iff.1 hm
  obtain ⟨t2,ts2,rfl,ht2,h2⟩:=List.map_eq_cons_iff.1 h1
  obtain rfl:=List.map_eq_nil_iff.1 h2
  rw [List.cons_append,List.cons_append,List.nil_append,rdO,if_pos (isT_yes ht),tkT_ok ht,bd_ok,inT_ok hZ h ht2 h.1]
theorem rd_tail {x:Ta}(hd:0≤x.d∧x.d≤32767) (hb:okSs x.b=true) (hf:fitSs x.b){ts:List T}(hm:ts.map Z.tx=opK [100,101,97,100,108,105,110,101] x.d++([123] :: (tkL x.b++[[125]]))):∃b',stSs b'=stSs x.b∧∀s p c m w r,Ev (fun n=>rdTk Z n s p c m w (ts++r)) (.ok (.t ⟨nmT Z s,p,x.d,c,m,w,b',Z.ps s⟩,r)):=by
 obtain ⟨tsA,tsB,rfl,hA,hB⟩:=List.map_eq_append_iff.1 hm
 obtain ⟨b',hb',hwb⟩:=rd_blk (fun x _=>rd_tkS hZ x) hb hf hB
 refine⟨b',hb',fun s p c m w r=>?_⟩
 have hno:isT Z [100,101,97,100,108,105,110,101] (tsB++r)=false:=by rw [isT_hd hB];rfl
 rw [List.append_assoc]
 exact Ev.congr (g:=fun n=>bd (rdB Z n (tsB++r)) fun b r=>.ok (.t ⟨nmT Z s,p,x.d,c,m,w,b,Z.ps s⟩,r)) (fun n=>by rw [rdTk,rdO_ok hZ hd hA hno,bd_ok]) (Ev.bd (hwb r) (Ev.pure _))
theorem rd_tkD:∀(d:Dc),okD d=true→fitD d→∀ts:List T,ts.map Z.tx=tkD d→∃d',stD d'=stD d∧∀r,Ev (fun n=>rdD Z n (ts++r)) (.ok (d',r))
 | .c x,h,hf,ts,hm=>by
   obtain ⟨hs,hv⟩:=okC_of (show okC x.s x.v=true from h)
   rw [tkD] at hm
   obtain ⟨t,ts1,rfl,ht,h1⟩:=List.map_eq_cons_iff.1 hm
   obtain ⟨t2,ts2,rfl,ht2,h2⟩:=List.map_eq_cons_iff.1 h1
   obtain ⟨t3,ts3,rfl,ht3,h3⟩:=List.map_eq_cons_iff.1 h2
   obtain ⟨tsA,ts4,rfl,hA,h4⟩:=List.map_eq_append_iff.1 h3
   obtain ⟨t5,ts5,rfl,ht5,h5⟩:=List.map_eq_cons_iff.1 h4
   obtain rfl:=List.map_eq_nil_iff.1 h5
   obtain ⟨k1,k2⟩:=kn_id hZ hs ht2
   refine⟨.c ⟨x.s,x.v,Z.ps t2⟩,rfl,fun r=>?_⟩
   have e:t :: t2 :: t3 :: (tsA++[t5])++r=t :: t2 :: t3 :: (tsA++t5 :: r):=by simp
   rw [e]
   refine Ev.congr (fun n=>?_) (Ev.pure _)
   rw [rdD,isT_no (by rw [ht];decide),isT_no (by rw [ht];decide),isT_yes ht,if_neg (by decide),if_neg (by decide),if_pos rfl,tkT_ok ht,bd_ok,idT_ok k1,bd_ok,tkT_ok ht3,bd_ok,siT_ok hZ ⟨hv,hf⟩ hA,bd_ok,tkT_ok ht5,bd_ok,k2]
 | .g x,h,hf,ts,hm=>by
   obtain ⟨hs,hl,hi,hli⟩:=okG_of (show okG x.s x.l x.i=true from h)
   rw [tkD] at hm
   obtain ⟨t,ts1,rfl,ht,h1⟩:=List.map_eq_cons_iff.1 hm
   obtain ⟨t2,ts2,rfl,ht2,h2⟩:=List.map_eq_cons_iff.1 h1
   obtain ⟨tsA,ts4,rfl,hA,h4⟩:=List.map_eq_append_iff.1 h2
   obtain ⟨t5,ts5,rfl,ht5,h5⟩:=List.map_eq_cons_iff.1 h4
   obtain rfl:=List.map_eq_nil_iff.1 h5
   obtain ⟨k1,k2⟩:=kn_id hZ hs ht2
   refine⟨.g ⟨x.s,x.l,x.i,Z.ps t2⟩,rfl,fun r=>?_⟩
   have e:t :: t2 :: (tsA++[t5])++r=t :: t2 :: (tsA++t5 :: r):=by simp
   rw [e]
   have hV:rdV Z (tsA++t5 :: r)=.ok ((x.l,x.i),t5 :: r):=by
    rw [vaK] at hA
    split at hA
    ·rename_i h0
     obtain ⟨u,us1,rfl,hu,g1⟩:=List.map_eq_cons_iff.1 hA
     obtain ⟨u2,us2,rfl,hu2,g2⟩:=List.map_eq_cons_iff.1 g1
     obtain ⟨u3,us3,rfl,hu3,g3⟩:=List.map_eq_cons_iff.1 g2
     obtain rfl:=List.map_eq_nil_iff.1 g3
     rw [List.cons_append,List.cons_append,List.cons_append,List.nil_append,rdV,if_pos (isT_yes hu),tkT_ok hu,bd_ok,inT_ok hZ hl hu2 (by omega),bd_ok,tkT_ok hu3,bd_ok,hli h0]
    ·have hl0:x.l=0:=by omega
     split at hA
     ·obtain ⟨u,us1,rfl,hu,g1⟩:=List.map_eq_cons_iff.1 hA
      rw [List.cons_append,rdV,isT_no (by rw [hu];decide),if_neg (by decide),if_pos (isT_yes hu),tkT_ok hu,bd_ok,siT_ok hZ ⟨hi,hf⟩ g1,bd_ok,hl0]
     ·rename_i hi0
      obtain rfl:=List.map_eq_nil_iff.1 hA
      have hi1:x.i=0:=Decidable.not_not.1 hi0
      rw [List.nil_append,rdV,isT_no (by rw [ht5];decide),isT_no (by rw [ht5];decide),if_neg (by decide),if_neg (by decide),hl0,hi1]
   refine Ev.congr (fun n=>?_) (Ev.pure _)
   rw [rdD,isT_no (by rw [ht];decide),isT_yes ht,if_neg (by decide),if_pos rfl,tkT_ok ht,bd_ok,rdG,idT_ok k1,bd_ok,hV,bd_ok,tkT_ok ht5,bd_ok,k2]
 | .s x,h,hf,ts,hm=>by
   rw [tkD] at hm
   obtain ⟨t,ts1,rfl,ht,h1⟩:=List.map_eq_cons_iff.1 hm
   obtain ⟨t2,ts2,rfl,ht2,h2⟩:=List.map_eq_cons_iff.1 h1
   obtain ⟨t3,ts3,rfl,ht3,h3⟩:=List.map_eq_cons_iff.1 h2
   obtain rfl:=List.map_eq_nil_iff.1 h3
   obtain ⟨k1,k2⟩:=kn_id hZ (show idn x=true from h) ht2
   refine⟨.s x,rfl,fun r=>?_⟩
   refine Ev.congr (fun n=>?_) (Ev.pure _)
   rw [List.cons_append,List.cons_append,List.cons_append,List.nil_append,rdD,isT_no (by rw [ht];decide),isT_no (by rw [ht];decide),isT_no (by rw [ht];decide),isT_no (by rw [ht];decide),isT_yes ht,if_neg (by decide),if_neg (by decide),if_neg (by decide),if_neg (by decide),if_pos rfl,tkT_ok ht,bd_ok,idT_ok k1,bd_ok,tkT_ok ht3,bd_ok,k2]
 | .o x,h,hf,ts,hm=>by
   rw [tkD] at hm
   obtain ⟨t,ts1,rfl,ht,h1⟩:=List.map_eq_cons_iff.1 hm
   obtain ⟨t2,ts2,rfl,ht2,h2⟩:=List.map_eq_cons_iff.1 h1
   obtain ⟨t3,ts3,rfl,ht3,h3⟩:=List.map_eq_cons_iff.1 h2
   obtain rfl:=List.map_eq_nil_iff.1 h3
   obtain ⟨k1,k2⟩:=kn_id hZ (show idn x=true from h) ht2
   refine⟨.o x,rfl,fun r=>?_⟩
   refine Ev.congr (fun n=>?_) (Ev.pure _)
   rw [List.cons_append,List.cons_append,List.cons_append,List.nil_append,rdD,isT_no (by rw [ht];decide),isT_no (by rw [ht];decide),isT_no (by rw [ht];decide),isT_no (by rw [ht];decide),isT_no (by rw [ht];decide),if_neg (by decide),if_neg (by decide),if_neg (by decide),if_neg (by decide),if_neg (by decide),tkT_ok ht,bd_ok,idT_ok k1,bd_ok,tkT_ok ht3,bd_ok,k2]
 | .h x,h,hf,ts,hm=>by
   obtain ⟨hs,hv⟩:=okH_of (show okH x.s x.v=true from h)
   rw [tkD] at hm
   obtain ⟨t,ts1,rfl,ht,h1⟩:=List.map_eq_cons_iff.1 hm
   obtain ⟨t2,ts2,rfl,ht2,h2⟩:=List.map_eq_cons_iff.1 h1
   obtain ⟨t3,ts3,rfl,ht3,h3⟩:=List.map_eq_cons_iff.1 h2
   obtain ⟨t4,ts4,rfl,ht4,h4⟩:=List.map_eq_cons_iff.1 h3
   obtain ⟨t5,ts5,rfl,ht5,h5⟩:=List.map_eq_cons_iff.1 h4
   obtain ⟨t6,ts6,rfl,ht6,h6⟩:=List.map_eq_cons_iff.1 h5
   obtain rfl:=List.map_eq_nil_iff.1 h6
   obtain ⟨k1,k2⟩:=kn_id hZ hs ht2
   refine⟨.h ⟨x.s,x.v,Z.ps t2⟩,rfl,fun r=>?_⟩
   refine Ev.congr (fun n=>?_) (Ev.pure _)
   rw [List.cons_append,List.cons_append,List.cons_append,List.cons_append,List.cons_append,List.cons_append,List.nil_append,rdD,isT_no (by rw [ht];decide),isT_no (by rw [ht];decide),isT_no (by rw [ht];decide),isT_yes ht,if_neg (by decide),if_neg (by decide),if_neg (by decide),if_pos rfl,tkT_ok ht,bd_ok,idT_ok k1,bd_ok,tkT_ok ht3,bd_ok,inT_ok hZ hv ht4 hv.1,bd_ok,tkT_ok ht5,bd_ok,tkT_ok ht6,bd_ok,k2]
 | .t x,h,hf,ts,hm=>by
   obtain ⟨hs,hd,hb,hc⟩:=okT_cases (show okT x=true from h)
   rw [tkD] at hm
   obtain ⟨t,ts1,rfl,ht,h1⟩:=List.map_eq_cons_iff.1 hm
   obtain ⟨t2,ts2,rfl,ht2,h2⟩:=List.map_eq_cons_iff.1 h1
   obtain ⟨tsH,tsB,rfl,hH,hB⟩:=List.map_eq_append_iff.1 h2
   obtain ⟨k1,k2⟩:=kn_id hZ hs ht2
   obtain ⟨b',hb',hwb⟩:=rd_tail hZ hd hb hf hB
   have e:∀r,t :: t2 :: (tsH++tsB)++r=t :: t2 :: (tsH++(tsB++r)):=fun r=>by simp
   rw [heK] at hH
   rcases hc with ⟨hp,hc1,hm1,hw⟩ | ⟨hp,hc1,hm1,hw⟩
   ·rw [if_pos hp] at hH
    obtain ⟨u,us1,rfl,hu,g1⟩:=List.map_eq_cons_iff.1 hH
    obtain ⟨u2,us2,rfl,hu2,g2⟩:=List.map_eq_cons_iff.1 g1
    obtain ⟨u3,us3,rfl,hu3,g3⟩:=List.map_eq_cons_iff.1 g2
    obtain ⟨u4,us4,rfl,hu4,g4⟩:=List.map_eq_cons_iff.1 g3
    obtain ⟨u5,us5,rfl,hu5,g5⟩:=List.map_eq_cons_iff.1 g4
    obtain ⟨c1,c2⟩:=kn_id hZ hc1 hu2
    obtain ⟨m1,m2⟩:=kn_id hZ hm1 hu4
    refine⟨.t ⟨x.s,x.p,x.d,x.c,x.m,x.w,b',Z.ps t2⟩,by rw [stD,stD,stTa,stTa,hb'],fun r=>?_⟩
    have hno:isT Z [119,105,116,104,105,110] (tsB++r)=false:=by
     have hB2:=hB
     rw [opK] at hB2
     split at hB2
     ·rw [isT_hd hB2];rfl
     ·rw [isT_hd hB2];rfl
    rw [e]
    refine Ev.congr (fun n=>?_) (hwb t2 0 x.c x.m x.w r |> fun h=>by rw [k2,← hp] at h;exact h)
    rw [rdD,if_pos (isT_yes ht),tkT_ok ht,bd_ok,rdT,idT_ok k1,bd_ok]
    show (if isT Z [101,118,101,114,121] (u :: (u2 :: u3 :: u4 :: u5 :: us5++(tsB++r)))=true then _ else _)=_
    rw [isT_no (by rw [hu];decide),if_neg (by decide)]
    show bd (tkT Z [111,110] (u :: (u2 :: u3 :: u4 :: u5 :: (us5++(tsB++r))))) _=_
    rw [tkT_ok hu,bd_ok,idT_ok c1,bd_ok,tkT_ok hu3,bd_ok,idT_ok m1,bd_ok,tkT_ok hu5,bd_ok,rdO_ok hZ hw g5 hno,bd_ok,c2,m2,hp]
   ·rw [if_neg (by omega)] at hH
    obtain ⟨u,us1,rfl,hu,g1⟩:=List.map_eq_cons_iff.1 hH
    obtain ⟨u2,us2,rfl,hu2,g2⟩:=List.map_eq_cons_iff.1 g1
    obtain rfl:=List.map_eq_nil_iff.1 g2
    refine⟨.t ⟨x.s,x.p,x.d,⟨#[]⟩,⟨#[]⟩,0,b',Z.ps t2⟩,by rw [stD,stD,stTa,stTa,hb',hc1,hm1,hw],fun r=>?_⟩
    rw [e]
    refine Ev.congr (fun n=>?_) (hwb t2 x.p ⟨#[]⟩ ⟨#[]⟩ 0 r |> fun h=>by rw [k2] at h;exact h)
    rw [rdD,if_pos (isT_yes ht),tkT_ok ht,bd_ok,rdT,idT_ok k1,bd_ok]
    show (if isT Z [101,118,101,114,121] (u :: u2 :: (tsB++r))=true then bd (tkT Z [101,118,101,114,121] (u :: u2 :: (tsB++r))) _ else _)=_
    rw [if_pos (isT_yes hu),tkT_ok hu,bd_ok,inT_ok hZ (by omega) hu2 (by omega),bd_ok]
theorem rd_tkDs:∀(l:List Dc),(∀d ∈ l,okD d=true∧fitD d)→∀ts:List T,ts.map Z.tx=l.flatMap tkD→∃l',l'.map stD=l.map stD∧Ev (fun n=>rdDs Z n ts) (.ok (l',[]))
 | [],_,ts,hm=>by
   rw [List.flatMap_nil] at hm
   obtain rfl:=List.map_eq_nil_iff.1 hm
   exact⟨[],rfl,Ev.succ (g:=fun _=>.ok ([],[])) (fun m=>by rw [rdDs]) (Ev.pure _)⟩
 | d :: l,h,ts,hm=>by
   rw [List.flatMap_cons] at hm
   obtain ⟨tsA,tsB,rfl,hA,hB⟩:=List.map_eq_append_iff.1 hm
   obtain ⟨d',hd',hwd⟩:=rd_tkD hZ d (h d (by simp)).1 (h d (by simp)).2 tsA hA
   obtain ⟨l',hl',hwl⟩:=rd_tkDs l (fun e he=>h e (by simp [he])) tsB hB
   refine⟨d' :: l',by rw [List.map_cons,List.map_cons,hd',hl'],?_⟩
   have hne:∃t r,tsA++tsB=t :: r:=by
    match tsA,hA with
    | [],hA=>cases d <;> cases hA
    | t :: r,_=>exact⟨t,r++tsB,rfl⟩
   obtain ⟨t,r,e⟩:=hne
   refine Ev.succ (g:=fun m=>bd (rdD Z m (tsA++tsB)) fun d r=>bd (rdDs Z m r) fun l r=>.ok (d :: l,r)) (fun m=>by rw [e,rdDs]) (Ev.bd (hwd tsB) (Ev.bd hwl (Ev.pure _)))
end
def kzT:Kz (List UInt8):=⟨id,kdT,fun t=>(dval 0 t:Nat),fun _=>0⟩
theorem kzT_good:kzT.Good:=⟨fun _=>rfl,fun _ _=>rfl⟩
theorem text_dcls {l m:List Dc}(hl:∀d ∈ l,okD d=true∧fitD d) (hm:∀d ∈ m,okD d=true∧fitD d) (h:l.flatMap dcT=m.flatMap dcT):l.map stD=m.map stD:=by
 have h1:=congrArg txs h
 rw [txs_dcls l (fun d hd=>(hl d hd).1),txs_dcls m (fun d hd=>(hm d hd).1)] at h1
 obtain ⟨l',hl',el⟩:=rd_tkDs kzT_good l hl (l.flatMap tkD) (List.map_id _)
 obtain ⟨m',hm',em⟩:=rd_tkDs kzT_good m hm (l.flatMap tkD) ((List.map_id _).trans h1)
 have e:=Ev.one el em
 injection e with e
 injection e with e
 rw [← hl',← hm',e]
end Go.Proofs.YtcknpcbkofgdoaaGreatDoor
namespace Go.Proofs.YtcknpcbkofgdoaaGreatDoor
open Go Go.RowKit Go.IntWalk
open Go.Lib (decDigits itoa)
open Go.Sort
set_option linter.unusedSimpArgs false
set_option linter.unusedVariables false
set_option maxRecDepth 8000

abbrev setLD:ByteArray:=⟨#[65,66,67,68,69,70,71,72,73,74,75,76,77,78,79,80,81,82,83,84,85,86,87,88,89,90,95,97,98,99,100,101,102,103,104,105,106,107,108,109,110,111,112,113,114,115,116,117,118,119,120,121,122,48,49,50,51,52,53,54,55,56,57]⟩
abbrev setD:ByteArray:=⟨#[48,49,50,51,52,53,54,55,56,57]⟩
theorem all_bytes {p:UInt8→Bool}(h:(List.range 256).all (fun n=>p (UInt8.ofNat n))=true) (c:UInt8):p c=true:=by
 have h1:=List.all_eq_true.1 h c.toNat (List.mem_range.2 c.toNat_lt)
 simpa using h1
theorem same_bytes {p q:UInt8→Bool}(h:(List.range 256).all (fun n=>p (UInt8.ofNat n)==q (UInt8.ofNat n))=true):∀c,p c=q c:=fun c=>eq_of_beq (all_bytes (p:=fun c=>p c==q c) h c)
theorem setLD_has:∀c,setLD.data.toList.contains c=wd c:=same_bytes (by kernel_rfl)
theorem setD_has:∀c,setD.data.toList.contains c=dig c:=same_bytes (by kernel_rfl)
theorem var?_keep {P:Program}{w w':World}{n:String}{cs:Array Value}(hb:Below w.heap.size w w') (h:w.var? P n=some cs):w'.var? P n=some cs:=by
 unfold World.var? at h ⊢
 cases hg:P.globalNamed n with
 | none=>simp [hg] at h
 | some g =>
   simp only [hg,Option.bind_some] at h ⊢
   have hlt:g < w.heap.size:=by
    rcases Nat.lt_or_ge g w.heap.size with h' | h'
    ·exact h'
    ·simp [Array.getElem?_eq_none h'] at h
   rw [hb.block g hlt]
   exact h
structure Es5 where
 b:Bool
 v:Int
 f:Int
 l:Int
 n:Int
structure Ss5 where
 b:Bool
 n:Int
 a:Int
 y:Bool
 e:Bool
structure Op2 where
 s:List UInt8
 l:Int
abbrev es5 (o:Es5):List Value:=[.bool o.b,.int .i16 o.v,.int .i64 o.f,.int .i64 o.l,.int .i64 o.n]
abbrev ss5 (o:Ss5):List Value:=[.bool o.b,.int .i64 o.n,.int .i64 o.a,.bool o.y,.bool o.e]
abbrev op2 (o:Op2):List Value:=[.string ⟨o.s.toArray⟩,.int .i64 o.l]
theorem encE5:Enc 5 es5:=⟨fun _=>rfl,fun x u hu=>by simp at hu;rcases hu with rfl | rfl | rfl | rfl | rfl <;> rfl,by decide⟩
theorem encS5:Enc 5 ss5:=⟨fun _=>rfl,fun x u hu=>by simp at hu;rcases hu with rfl | rfl | rfl | rfl | rfl <;> rfl,by decide⟩
theorem encO2:Enc 2 op2:=⟨fun _=>rfl,fun x u hu=>by simp at hu;rcases hu with rfl | rfl <;> rfl,by decide⟩
def lvO (o:Int):Int:=if o=1∨o=2 then 6 else lvT o
def exL:List Es5:=[⟨false,0,0,0,0⟩,⟨false,32767,0,0,0⟩,⟨true,0,0,0,0⟩,⟨true,0,0,0,1⟩,⟨true,0,0,0,0⟩,⟨false,0,1,2,1⟩,⟨false,0,3,15,2⟩]
def ssL:List Ss5:=[⟨false,0,0,false,false⟩,⟨true,0,1,false,false⟩,⟨true,0,1,false,false⟩,⟨true,0,2,false,false⟩,⟨false,0,1,true,true⟩,⟨false,32767,0,true,false⟩,⟨false,0,1,true,false⟩,⟨true,0,1,false,false⟩,⟨false,0,1,false,false⟩,⟨true,0,1,false,false⟩,⟨false,32767,0,true,false⟩,⟨false,32767,0,true,false⟩,⟨false,0,0,false,false⟩,⟨false,0,0,false,false⟩]
def oprL:List Op2:=(List.range 16).map fun(i:Nat)=>(⟨sgT (i:Int),if i=0 then 0 else lvO (i:Int)⟩:Op2)
def exC:List Value:=flatL es5 exL
def ssC:List Value:=flatL ss5 ssL
def oprC:List Value:=flatL op2 oprL
def exR (k:Int):Es5:=exL.getD k.toNat ⟨false,0,0,0,0⟩
def ssR (k:Int):Ss5:=ssL.getD k.toNat ⟨false,0,0,false,false⟩
structure Env (w:World):Prop where
 kws : w.var? Tryz.prog "trickle/ast.keywords" = some (kwT.map (fun l => Value.string ⟨l.toArray⟩)).toArray
 exs : w.var? Tryz.prog "trickle/ast.exprShapes" = some exC.toArray
 sts : w.var? Tryz.prog "trickle/ast.stmtShapes" = some ssC.toArray
 ops : w.var? Tryz.prog "trickle/ast.operators" = some oprC.toArray
 pow : Lib.TabIs Tryz.prog w "internal/strconv.uint64pow10" .u64 Lib.pow10Tab
theorem Env.grew {w w':World}(h:Env w) (hb:Grew w w'):Env w':=by
 obtain ⟨h1,h2,h3,h4,h5⟩:=h
 exact⟨var?_keep hb h1,var?_keep hb h2,var?_keep hb h3,var?_keep hb h4,var?_keep hb h5⟩
theorem Env.rangeK {w:World}(h:Env w):w.rangeAt 2 0 (kwT.map (fun l=>Value.string ⟨l.toArray⟩)):=fun j v hv=>by
 rw [Nat.zero_add, World.var?_cell (show Tryz.prog.globalNamed "trickle/ast.keywords" = some 2 by kernel_rfl) h.kws j]
 simpa using hv
theorem Env.ex {w:World}(h:Env w) (k:Nat) (hk:k < 7) (j:Nat){v:Value}(hv:(es5 (exR (k:Int)))[j]?=some v):w.cell? ⟨0,k * 5+j,none⟩=some v:=by
 have h1 := World.var?_cell (show Tryz.prog.globalNamed "trickle/ast.exprShapes" = some 0 by kernel_rfl) h.exs (k * 5 + j)
 rw [h1]
 have h2:exL[k]?=some (exR (k:Int)):=by
  have hl:k < exL.length:=hk
  unfold exR
  simp only [Int.toNat_natCast,List.getD,List.getElem?_eq_getElem hl,Option.getD_some]
 simpa [exC] using flatL_get encE5 h2 hv
theorem Env.st {w:World}(h:Env w) (k:Nat) (hk:k < 14) (j:Nat){v:Value}(hv:(ss5 (ssR (k:Int)))[j]?=some v):w.cell? ⟨3,k * 5+j,none⟩=some v:=by
 have h1 := World.var?_cell (show Tryz.prog.globalNamed "trickle/ast.stmtShapes" = some 3 by kernel_rfl) h.sts (k * 5 + j)
 rw [h1]
 have h2:ssL[k]?=some (ssR (k:Int)):=by
  have hl:k < ssL.length:=hk
  unfold ssR
  simp only [Int.toNat_natCast,List.getD,List.getElem?_eq_getElem hl,Option.getD_some]
 simpa [ssC] using flatL_get encS5 h2 hv
theorem oprL_at:∀k,(h:k < 16)→oprL[k]'h=⟨sgT (k:Int),if k=0 then 0 else lvO (k:Int)⟩:=by
 intro k h
 rcases k with _ | _ | _ | _ | _ | _ | _ | _ | _ | _ | _ | _ | _ | _ | _ | _ | k
 all_goals first | rfl | omega
theorem Env.op {w:World}(h:Env w) (k:Nat) (h0:1≤k) (hk:k < 16) (j:Nat){v:Value}(hv:(op2 ⟨sgT (k:Int),lvO (k:Int)⟩)[j]?=some v):w.cell? ⟨1,k * 2+j,none⟩=some v:=by
 have h1 := World.var?_cell (show Tryz.prog.globalNamed "trickle/ast.operators" = some 1 by kernel_rfl) h.ops (k * 2 + j)
 rw [h1]
 have hl:k < oprL.length:=hk
 have h2:oprL[k]?=some ⟨sgT (k:Int),lvO (k:Int)⟩:=by
  rw [List.getElem?_eq_getElem hl]
  exact congrArg some ((oprL_at k hk).trans (by rw [if_neg (by omega)]))
 simpa [oprC] using flatL_get encO2 h2 hv
set_option maxRecDepth 20000 in
theorem index_kw:∀(k:Nat) (_:k < 22) (W:World),Sem.run Tryz.prog (Instr.index 162 (.agg (kwT.map (fun l=>Value.string ⟨l.toArray⟩)).toArray) (.int .i64 (k:Int))) W=.ok (.string ⟨(kwT.getD k []).toArray⟩) W
 | 0,_,W=>by kernel_rfl
 | 1,_,W=>by kernel_rfl
 | 2,_,W=>by kernel_rfl
 | 3,_,W=>by kernel_rfl
 | 4,_,W=>by kernel_rfl
 | 5,_,W=>by kernel_rfl
 | 6,_,W=>by kernel_rfl
 | 7,_,W=>by kernel_rfl
 | 8,_,W=>by kernel_rfl
 | 9,_,W=>by kernel_rfl
 | 10,_,W=>by kernel_rfl
 | 11,_,W=>by kernel_rfl
 | 12,_,W=>by kernel_rfl
 | 13,_,W=>by kernel_rfl
 | 14,_,W=>by kernel_rfl
 | 15,_,W=>by kernel_rfl
 | 16,_,W=>by kernel_rfl
 | 17,_,W=>by kernel_rfl
 | 18,_,W=>by kernel_rfl
 | 19,_,W=>by kernel_rfl
 | 20,_,W=>by kernel_rfl
 | 21,_,W=>by kernel_rfl
 | k+22,h,_=>absurd h (by omega)
theorem beq_list {a:List UInt8}{s:ByteArray}:(a==s.toList)=(a==s.data.toList):=by rw [ByteArray.toList_eq]
theorem ascii {cs:ByteArray}(h:cs.data.toList.all (fun b=>decide (b.toNat < 128))=true):∀(j:Nat) b,cs.data.toList[j]?=some b→b.toNat < 128:=fun j b hb=>by
 have:=List.all_eq_true.1 h b (List.mem_of_getElem? hb)
 simpa using this
theorem index_has (l:List UInt8) (c:UInt8):(0≤Lib.indexByte l c)↔l.contains c=true:=by
 have h0:=Lib.indexByte_ge l c
 constructor
 ·intro h
  obtain ⟨o,ho⟩:∃o:Nat,Lib.indexByte l c=o:=⟨(Lib.indexByte l c).toNat,by omega⟩
  simpa using List.mem_of_getElem? (Lib.indexByte_some ho).1
 ·intro h
  obtain ⟨k,hk,e⟩:=List.getElem_of_mem (by simpa using h:c ∈ l)
  rcases Int.lt_or_le (Lib.indexByte l c) 0 with h1 | h1
  ·exact absurd (by rw [List.getElem?_eq_getElem hk,e]) (Lib.indexByte_none (by omega:Lib.indexByte l c=-1) k)
  ·exact h1
theorem index_le:∀(l:List UInt8) (c:UInt8),Lib.indexByte l c≤l.length:=fun l c=>by
 have h0:=Lib.indexByte_ge l c
 rcases Int.lt_or_le (Lib.indexByte l c) 0 with h1 | h1
 ·omega
 ·obtain ⟨o,ho⟩:∃o:Nat,Lib.indexByte l c=o:=⟨(Lib.indexByte l c).toNat,by omega⟩
  have:=(List.getElem?_eq_some_iff.1 (Lib.indexByte_some ho).1).1
  omega
theorem u8_toNat (c:UInt8):(c.toNat:Int).toNat.toUInt8=c:=by
 rw [Int.toNat_natCast]
 exact UInt8.ofNat_toNat
theorem digit_any (c:UInt8):∃z:Int,decide (z < 0)=!dig c∧(-1≤z∧z≤10)∧∀W,Calls Tryz.prog 109 #[.string setD,.int .u8 (c.toNat:Nat)] W fun e w'=>e=.returned (.int .i64 z)∧W=w':=by
 refine⟨Lib.indexByte setD.data.toList c,?_,⟨Lib.indexByte_ge _ _,index_le _ _⟩,fun W=>?_⟩
 ·rw [← setD_has]
  cases h:setD.data.toList.contains c with
  | true=>have:=(index_has _ _).2 h;simpa using this
  | false =>
    have:¬ 0≤Lib.indexByte setD.data.toList c:=fun h1=>by rw [(index_has _ _).1 h1] at h;cases h
    simpa using this
 ·have:=Tryz.strings_IndexByte setD (c.toNat:Int) W
  rw [u8_toNat] at this
  exact this.mono fun e w' h=>⟨h.1,h.2.symm⟩
theorem dw_all (p:UInt8→Bool):∀l:List UInt8,l.dropWhile p=[]↔l.all p=true
 | []=>by simp
 | a :: r=>by
   rw [List.dropWhile_cons,List.all_cons]
   cases h:p a with
   | true=>rw [if_pos rfl,Bool.true_and];exact dw_all p r
   | false=>simp
theorem dw_none (p:UInt8→Bool) (l:List UInt8):(l.dropWhile p).all p=l.all p:=by
 induction l with
 | nil=>rfl
 | cons a r ih =>
   rw [List.dropWhile_cons]
   cases h:p a with
   | true=>rw [if_pos rfl,List.all_cons,h,Bool.true_and,ih]
   | false=>rw [if_neg (by simp),List.all_cons,h]
theorem trim_nil (l cs:List UInt8):Lib.trimS l cs=[]↔l.all cs.contains=true:=by
 unfold Lib.trimS Lib.trimLeftS Lib.trimRightS
 rw [dw_all,List.all_reverse]
 exact(by rw [dw_none (fun x=>cs.contains x) l.reverse,List.all_reverse])
theorem trim_any (s:ByteArray) (hs:s.size≤1048576):∃y:List UInt8,(y.isEmpty=s.data.toList.all wd)∧∀W,Calls Tryz.prog 110 #[.string s,.string setLD] W fun e w'=>e=.returned (.string ⟨y.toArray⟩)∧Grew W w':=by
 refine⟨Lib.trimS s.data.toList setLD.data.toList,?_,fun W=>?_⟩
 ·rw [Bool.eq_iff_iff,List.isEmpty_iff,trim_nil]
  have:(fun x=>setLD.data.toList.contains x)=wd:=funext setLD_has
  show s.data.toList.all (fun x=>setLD.data.toList.contains x)=true↔_
  rw [this]
 ·exact Any.strings_Trim_laid Tryz.lays160 (by kernel_rfl) s setLD W (by omega) (by decide) (ascii (by kernel_rfl))
theorem grow_grew (w:World) (k:Nat) (os:Array Obj):Grew w (grow (w.drewN k) os) :=
 ⟨rfl,rfl,rfl,by simp [grow,World.drewN],fun j hj=>by
  show (w.heap++os)[j]?=w.heap[j]?
  exact Array.getElem?_append_left hj⟩
theorem itoa_num (z:Int):itoa z=numZ z:=by
 rw [itoa,numZ]
 split
 ·rw [show z.natAbs=(-z).toNat by omega]
 ·rfl
theorem itoa_any (z:Int) (hz:-9223372036854775808≤z∧z≤9223372036854775807) (w:World) (hE:Env w):Calls Tryz.prog 40 #[.int .i64 z] w fun e w'=>e=.returned (.string ⟨(numZ z).toArray⟩)∧Grew w w' :=
 (Tryz.strconv_Itoa z hz.1 hz.2 w hE.pow).mono fun e w' h=>by
   obtain ⟨h1,k,os,h2⟩:=h
   exact⟨itoa_num z ▸ h1,h2 ▸ grow_grew w k os⟩
theorem kwT_at {k:Nat}(h:k < 22):kwT.getD k [] ∈ kwT:=by
 have hl:k < kwT.length:=h
 rw [List.getD_eq_getElem?_getD,List.getElem?_eq_getElem hl]
 exact List.getElem_mem hl
theorem kwT_no {t:List UInt8}(h:∀i,i < 22→kwT.getD i []≠t):kwT.contains t=false:=by
 cases hc:kwT.contains t with
 | false=>rfl
 | true =>
   obtain ⟨k,hk,e⟩:=List.getElem_of_mem (by simpa using hc:t ∈ kwT)
   refine absurd ?_ (h k hk)
   rw [List.getD_eq_getElem?_getD,List.getElem?_eq_getElem hk]
   exact e
theorem iskw_any (s:ByteArray) (w:World) (hE:Env w):Calls Tryz.prog 111 #[.string s] w fun e w'=>e=.returned (.bool (kwT.contains s.data.toList))∧w=w':=by
 have HNO:=Lib.hid (kwT_no (t:=s.data.toList))
 have HYES:=Lib.hid (fun k (hk:k < 22) (e:kwT.getD k []=s.data.toList)=>(show kwT.contains s.data.toList=true by rw [← e];simpa using kwT_at hk))
 generalize kwT.contains s.data.toList=b at HNO HYES ⊢
 go_enter Tryz.func111,Tryz.ntmps111
 go_upto_region 1 with fail
 refine wp_region_list ?_
 refine wpList_load_mid rfl 162 (.global 2) rfl 2 0 rfl (kwT.map (fun l=>Value.string ⟨l.toArray⟩)) _ hE.rangeK Tryz.underlying162 rfl (by kernel_rfl) ?_
 have HIX:=Lib.hid index_kw
 generalize Value.agg (kwT.map (fun l=>Value.string ⟨l.toArray⟩)).toArray=TAB at HIX ⊢
 clear hE
 go_wp2
 go_loopg [6] 22 (fun gg iv wr=>∃j:Nat,iv=.int .i64 (j:Int)∧j≤22∧gg=22 - j∧Hid (∀i,i < j→kwT.getD i []≠s.data.toList)∧wr=w)
 case atStart=>exact⟨0,rfl,by omega,rfl,Lib.hid (fun i h=>absurd h (Nat.not_lt_zero i)),rfl⟩
 case round =>
  obtain ⟨j,rfl,hj,rfl,HN,rfl⟩:=hrel
  by_cases hlt:j < 22
  ·have hx:=fun W=>HIX.out j hlt W
   have HJ:=Lib.hid hlt
   have HY:=Lib.hid (HYES.out j hlt)
   obtain ⟨t,ht⟩:∃t,kwT.getD j []=t:=⟨_,rfl⟩
   rw [ht] at hx HY
   have HT:=Lib.hid ht
   clear ht
   by_cases he:t=s.data.toList
   ·have h1:(t==s.toList)=true:=by rw [beq_list,he];simp
    have HE:=Lib.hid (HY.out he)
    clear he
    go_wp2
    go_ret
    exact⟨ret_bool HE.out.symm,rfl⟩
   ·have h1:(t==s.toList)=false:=by rw [beq_list];simpa using he
    have HE:=Lib.hid he
    clear he
    go_wp2
    go_roundg (22 - (j+1))
    case measure=>have:=HJ.out;omega
    case rel=>exact⟨j+1,by go_num,HJ.out,rfl,Lib.hid (fun i hi=>by rcases Nat.lt_or_eq_of_le (Nat.le_of_lt_succ hi) with h | rfl;exact HN.out i h;rw [HT.out];exact HE.out),rfl⟩
  ·obtain rfl:j=22:=by omega
   have HF:=Lib.hid (HNO.out HN.out)
   go_wp2
   go_ret
   exact⟨ret_bool HF.out.symm,rfl⟩
theorem dig_wd {c:UInt8}:dig c=true→ltr c=false:=by
 have:∀c:UInt8,(!dig c||!ltr c)=true:=all_bytes (p:=fun c=>!dig c||!ltr c) (by kernel_rfl)
 intro h
 have:=this c
 rw [h] at this
 simpa using this
theorem idB_eq (c:UInt8) (r:List UInt8):idB (c :: r)=(decide ((c :: r).length≤32)&&(!dig c&&((c :: r).all wd&&!kwT.contains (c :: r)))):=by
 have h1:idc (c :: r)=(!dig c&&(c :: r).all wd):=by
  rw [idc,List.all_cons]
  cases hd:dig c with
  | true=>rw [dig_wd hd];rfl
  | false=>rw [wd,hd,Bool.or_false];rfl
 rw [idB,h1]
 have h2:decide (1≤(c :: r).length)=true:=by simp
 rw [h2]
 cases kwT.contains (c :: r) <;> cases dig c <;> cases (c :: r).all wd <;> cases decide ((c :: r).length≤32) <;> rfl
set_option maxHeartbeats 4000000 in
theorem isid_any (s:ByteArray) (hs:s.size≤1048576) (w:World) (hE:Env w):Calls Tryz.prog 57 #[.string s] w fun e w'=>e=.returned (.bool (idn s))∧Grew w w':=by
 have HE:=Lib.hid hE
 clear hE
 by_cases hz:s.size=0
 ·have hnl:s.toList=[]:=by rw [ByteArray.toList_eq];exact List.eq_nil_of_length_eq_zero hz
  have h0:idn s=false:=by rw [idn,← ByteArray.toList_eq,hnl];rfl
  rw [h0]
  clear h0
  go_enter Tryz.func57,Tryz.ntmps57
  go_wp2
  go_ret
  exact⟨rfl,Grew.refl _⟩
 ·have hpos:0 < s.size:=Nat.pos_of_ne_zero hz
  have hne:¬ s.toList=[]:=fun h=>hz (by
   rw [ByteArray.toList_eq] at h
   exact congrArg List.length h)
  have hie:s.toList.isEmpty=false:=by rw [List.isEmpty_eq_false_iff];exact hne
  obtain ⟨z,hz1,hz2,hzc⟩:=digit_any s[0]
  obtain ⟨y,hy1,hyc⟩:=trim_any s hs
  have key:idn s=(decide (s.size≤32)&&(!dig s[0]&&(s.data.toList.all wd&&!kwT.contains s.data.toList))):=by
   have h1:s.data.toList[0]'hpos=s[0]:=rfl
   cases hx:s.data.toList with
   | nil=>exact absurd (congrArg List.length hx) hz
   | cons a r =>
     simp only [hx,zz2] at h1
     have h2:s.size=(a :: r).length:=congrArg List.length hx
     subst h1
     rw [idn,hx,idB_eq,h2]
  rw [← hz1,← hy1] at key
  rw [key]
  have HZ:=Lib.hid hzc
  have HY:=Lib.hid hyc
  have HK:=Lib.hid (fun W (hW:Grew w W)=>iskw_any s W (HE.out.grew hW))
  clear key hz1 hy1 hzc hyc HE
  generalize kwT.contains s.data.toList=kb at HK ⊢
  by_cases h32:s.size≤32
  ·rw [decide_eq_true h32,Bool.true_and]
   by_cases hz0:z < 0
   ·rw [decide_eq_true hz0,Bool.true_and]
    cases y with
    | nil =>
      rw [List.isEmpty_nil,Bool.true_and]
      go_enter Tryz.func57,Tryz.ntmps57
      go_wp2_with (first
       | (go_at_call 109;(with_reducible refine(HZ.out _).mono ?_);rintro e w1 ⟨rfl,hw1⟩;subst w1)
       | (go_at_call 110;(with_reducible refine(HY.out _).mono ?_);rintro e w1 ⟨rfl,hg1⟩;have HG:=Lib.hid hg1;clear hg1)
       | (go_at_call 111;(with_reducible refine(HK.out _ HG.out).mono ?_);rintro e w2 ⟨rfl,hw2⟩;subst w2))
      go_ret
      exact⟨rfl,HG.out⟩
    | cons a r =>
      have hey:((a :: r).isEmpty)=false:=rfl
      rw [hey,Bool.false_and]
      go_enter Tryz.func57,Tryz.ntmps57
      go_wp2_with (first
       | (go_at_call 109;(with_reducible refine(HZ.out _).mono ?_);rintro e w1 ⟨rfl,hw1⟩;subst w1)
       | (go_at_call 110;(with_reducible refine(HY.out _).mono ?_);rintro e w1 ⟨rfl,hg1⟩;have HG:=Lib.hid hg1;clear hg1))
      go_ret
      exact⟨rfl,HG.out⟩
   ·rw [decide_eq_false hz0,Bool.false_and]
    go_enter Tryz.func57,Tryz.ntmps57
    go_wp2_with (go_at_call 109;(with_reducible refine(HZ.out _).mono ?_);rintro e w1 ⟨rfl,hw1⟩;subst w1)
    go_ret
    exact⟨rfl,Grew.refl _⟩
  ·rw [decide_eq_false h32,Bool.false_and]
   go_enter Tryz.func57,Tryz.ntmps57
   go_wp2
   go_ret
   exact⟨rfl,Grew.refl _⟩
theorem name_any (s:ByteArray) (nm:Bool) (hs:s.size≤1048576) (w:World) (hE:Env w):Calls Tryz.prog 99 #[.string s,.bool nm] w fun e w'=>e=.returned (.bool (if nm then idn s else decide (s=⟨#[]⟩)))∧Grew w w':=by
 have HC:=Lib.hid (isid_any s hs w hE)
 clear hE
 cases nm with
 | true =>
   rw [if_pos rfl]
   go_enter Tryz.func99,Tryz.ntmps99
   go_wp2_with (go_at_call 57;(with_reducible refine(HC.out).mono ?_);rintro e w1 ⟨rfl,hg1⟩;have HG:=Lib.hid hg1;clear hg1)
   go_ret
   exact⟨rfl,HG.out⟩
 | false =>
   rw [if_neg (by simp)]
   have hk:s.toList.isEmpty=decide (s=⟨#[]⟩):=by
    rw [ByteArray.toList_eq,Bool.eq_iff_iff,List.isEmpty_iff,decide_eq_true_iff]
    exact⟨fun h=>by cases s;simp at h;rw [h],fun h=>by rw [h]⟩
   have HK:=Lib.hid hk
   clear hk
   generalize decide (s=⟨#[]⟩)=d at HK ⊢
   go_enter Tryz.func99,Tryz.ntmps99
   go_wp2
   go_ret
   exact⟨ret_bool (by have:=HK.out;simpa using this),Grew.refl _⟩
theorem signed_any (z:Int) (w:World):Calls Tryz.prog 107 #[.int .i16 z] w fun e w'=>e=.returned (.bool (decide (-32767≤z)))∧w=w':=by
 go_enter Tryz.func107,Tryz.ntmps107
 go_wp2
 go_ret
 exact⟨rfl,rfl⟩
theorem isnum_any (z:Int) (w:World):Calls Tryz.prog 108 #[.int .i64 z] w fun e w'=>e=.returned (.bool (num1 z 0))∧w=w':=by
 by_cases h:(0:Int)≤z
 ·have hk:num1 z 0=decide (z≤32767):=by rw [num1,decide_eq_true h,Bool.true_and]
  rw [hk]
  clear hk
  go_enter Tryz.func108,Tryz.ntmps108
  go_wp2
  go_ret
  exact⟨rfl,rfl⟩
 ·have hk:num1 z 0=false:=by rw [num1,decide_eq_false h,Bool.false_and]
  rw [hk]
  clear hk
  go_enter Tryz.func108,Tryz.ntmps108
  go_wp2
  go_ret
  exact⟨rfl,rfl⟩
end Go.Proofs.YtcknpcbkofgdoaaGreatDoor
namespace Go.Proofs.YtcknpcbkofgdoaaGreatDoor
open Go Go.RowKit Go.IntWalk
set_option linter.unusedSimpArgs false
set_option linter.unusedVariables false
set_option maxRecDepth 8000
set_option maxHeartbeats 4000000 in
theorem everyX_any (g:FuncId) (cb:Array Value) (eg:∀args w,(callFunc g args).run Tryz.prog w=.ok (.enter g args) w) (l:List Xp) (P:Xp→Bool) (B:Nat→Prop) (w:World) (p:Option Addr) (c:Nat) (hx:XL B w p c l)
 (hf:∀x ∈ l,∀(p_:Option Addr) (c_:Nat) (W:World),XL B W p_ c_ x.ar→x.s.size≤1048576∧x.v≤32767→Grew w W→Calls Tryz.prog g (#[xv x.k x.s x.v x.o p_ x.ar.length c_ x.q]++cb) W fun e w'=>e=.returned (.bool (P x))∧Grew W w') :
 Calls Tryz.prog 100 #[.slice p l.length c,.func (.func g) #[] cb] w fun e w'=>e=.returned (.bool (l.all P))∧Grew w w':=by
 have HX:=Lib.hid hx
 have HF:=Lib.hid hf
 have hcap:l.length≤c:=hx.cap.1
 have hmax:=hx.cap.2.1
 obtain ⟨b,hb⟩:∃b,l.all P=b:=⟨_,rfl⟩
 have HOK:=Lib.hid hb
 have HFALSE:=Lib.hid (fun(x:Xp) (hm:x ∈ l) (h:P x=false)=>(show b=false from hb ▸ all_no hm h))
 rw [hb]
 clear hx hf hb
 go_enter Tryz.func100,Tryz.ntmps100
 go_wp2
 go_loopg [6,9] l.length (fun gg xv_ iv wr=>∃(j:Nat),iv=.int .i64 (j:Int)∧j≤l.length∧gg=l.length - j∧Hid ((l.take j).all P=true)∧Hid (Grew w wr))
 case atStart=>exact⟨0,rfl,Nat.zero_le _,rfl,Lib.hid rfl,Lib.hid (Grew.refl _)⟩
 case round =>
  obtain ⟨j,rfl,hj,rfl,HI,HG⟩:=hrel
  by_cases hlt:j < l.length
  ·
   obtain ⟨bz,oz,pz,cz,rfl,hbz,haz,hcz⟩:=HX.out.get j hlt
   have hmz:=List.getElem_mem hlt
   have hnz:=nXs_mem hmz
   have htz:=List.take_succ_eq_append_getElem hlt
   have HLz:=Lib.hid (Nat.succ_le_of_lt hlt)
   generalize l[j]=xz at *
   obtain ⟨kz,sz,vz,o_z,rz,qz⟩:=xz
   replace hbz:sz.size≤1048576∧vz≤32767:=hbz.2
   have HTz:=Lib.hid htz
   have HAz:Hid (XL B w pz cz rz):=Lib.hid haz
   have hcapz:rz.length≤cz:=haz.cap.1
   have hmaxz:=haz.cap.2.1
   replace hcz:∀i_ u_,(xdc ⟨kz,sz,vz,o_z,pz,rz.length,cz,qz⟩)[i_]?=some u_→wr.cell? ⟨bz,oz+j * 6+i_,none⟩=some u_:=fun i_ u_ h_=>Atv.kept (hcz i_ u_ h_) HG.out
   have cz0:wr.cell? ⟨bz,oz+j * 6,none⟩=some (.int .i64 kz):=by simpa using hcz 0 _ rfl
   have cz1:wr.cell? ⟨bz,oz+j * 6+1,none⟩=some (.string sz):=hcz 1 _ rfl
   have cz2:wr.cell? ⟨bz,oz+j * 6+2,none⟩=some (.int .i16 vz):=hcz 2 _ rfl
   have cz3:wr.cell? ⟨bz,oz+j * 6+3,none⟩=some (.int .i64 o_z):=hcz 3 _ rfl
   have cz4:wr.cell? ⟨bz,oz+j * 6+4,none⟩=some (.slice pz rz.length cz):=hcz 4 _ rfl
   have cz5:wr.cell? ⟨bz,oz+j * 6+5,none⟩=some (.int .i64 qz):=hcz 5 _ rfl
   clear hcz haz htz
   obtain ⟨d,hd⟩:∃d,P ⟨kz,sz,vz,o_z,rz,qz⟩=d:=⟨_,rfl⟩
   have HD:=Lib.hid hd
   have HC:=Lib.hid (fun W (hW:Grew w W)=>(show Calls Tryz.prog g (#[xv kz sz vz o_z pz rz.length cz qz]++cb) W fun e w'=>e=.returned (.bool d)∧Grew W w' from hd ▸ HF.out ⟨kz,sz,vz,o_z,rz,qz⟩ hmz pz cz _ (HAz.out.kept hW) hbz hW))
   have HNO:=Lib.hid (fun(h:d=false)=>HFALSE.out _ hmz (hd.trans h))
   clear hmz hd HF HFALSE
   cases d with
   | false =>
     have HN2:Hid (b=false):=Lib.hid (HNO.out rfl)
     clear HNO
     go_wp2_with (go_at_fn g;refine(HC.out _ (HG.out.alloc _)).mono ?_;rintro e w1 ⟨rfl,g1⟩;have HG1:=Lib.hid ((HG.out.alloc _).trans g1);clear g1)
     go_ret
     exact⟨ret_bool HN2.out.symm,HG1.out⟩
   | true =>
     go_wp2_with (go_at_fn g;refine(HC.out _ (HG.out.alloc _)).mono ?_;rintro e w1 ⟨rfl,g1⟩;have HG1:=Lib.hid ((HG.out.alloc _).trans g1);clear g1)
     go_roundg (l.length - (j+1))
     case measure=>have:=HLz.out;omega
     case rel=>exact⟨j+1,by go_num,HLz.out,rfl,Lib.hid (by rw [all_snoc HTz.out,HI.out,Bool.true_and];exact HD.out),HG1⟩
  ·obtain rfl:j=l.length:=by omega
   rw [List.take_length] at HI
   go_wp2
   go_ret
   exact⟨ret_bool (HI.out.symm.trans HOK.out),HG.out⟩
set_option maxHeartbeats 4000000 in
theorem everyS_any (g:FuncId) (cb:Array Value) (eg:∀args w,(callFunc g args).run Tryz.prog w=.ok (.enter g args) w) (l:List Sm) (P:Sm→Bool) (B:Nat→Prop) (w:World) (p:Option Addr) (c:Nat) (hx:SL B w p c l)
 (hf:∀x ∈ l,∀(pa_:Option Addr) (ca_:Nat) (pb_:Option Addr) (cb_:Nat) (pe_:Option Addr) (ce_:Nat) (W:World),XL B W pa_ ca_ x.ar→SL B W pb_ cb_ x.b→SL B W pe_ ce_ x.e→x.s.size≤1048576→Grew w W→Calls Tryz.prog g (#[sv x.k x.s x.n pa_ x.ar.length ca_ pb_ x.b.length cb_ pe_ x.e.length ce_ x.q]++cb) W fun e w'=>e=.returned (.bool (P x))∧Grew W w') :
 Calls Tryz.prog 113 #[.slice p l.length c,.func (.func g) #[] cb] w fun e w'=>e=.returned (.bool (l.all P))∧Grew w w':=by
 have HX:=Lib.hid hx
 have HF:=Lib.hid hf
 have hcap:l.length≤c:=hx.cap.1
 have hmax:=hx.cap.2.1
 obtain ⟨b,hb⟩:∃b,l.all P=b:=⟨_,rfl⟩
 have HOK:=Lib.hid hb
 have HFALSE:=Lib.hid (fun(x:Sm) (hm:x ∈ l) (h:P x=false)=>(show b=false from hb ▸ all_no hm h))
 rw [hb]
 clear hx hf hb
 go_enter Tryz.func113,Tryz.ntmps113
 go_wp2
 go_loopg [6,9] l.length (fun gg xv_ iv wr=>∃(j:Nat),iv=.int .i64 (j:Int)∧j≤l.length∧gg=l.length - j∧Hid ((l.take j).all P=true)∧Hid (Grew w wr))
 case atStart=>exact⟨0,rfl,Nat.zero_le _,rfl,Lib.hid rfl,Lib.hid (Grew.refl _)⟩
 case round =>
  obtain ⟨j,rfl,hj,rfl,HI,HG⟩:=hrel
  by_cases hlt:j < l.length
  ·
   obtain ⟨bz,oz,paz,caz,pbz,cbz,pez,cez,rfl,hbz,haz,hboz,helz,hcz⟩:=HX.out.get j hlt
   have hmz:=List.getElem_mem hlt
   have hnz:=nSs_mem hmz
   have htz:=List.take_succ_eq_append_getElem hlt
   have HLz:=Lib.hid (Nat.succ_le_of_lt hlt)
   generalize l[j]=xz at *
   obtain ⟨kz,sz,nz,rz,yz,ez,qz⟩:=xz
   replace hbz:sz.size≤1048576:=hbz.2
   have HTz:=Lib.hid htz
   have HAz:Hid (XL B w paz caz rz):=Lib.hid haz
   have HYz:Hid (SL B w pbz cbz yz):=Lib.hid hboz
   have HEz:Hid (SL B w pez cez ez):=Lib.hid helz
   have hcapz:rz.length≤caz∧yz.length≤cbz∧ez.length≤cez:=⟨haz.cap.1,hboz.cap.1,helz.cap.1⟩
   have hmaxz:=And.intro haz.cap.2.1 (And.intro hboz.cap.2.1 helz.cap.2.1)
   replace hcz:∀i_ u_,(sdc ⟨kz,sz,nz,paz,rz.length,caz,pbz,yz.length,cbz,pez,ez.length,cez,qz⟩)[i_]?=some u_→wr.cell? ⟨bz,oz+j * 7+i_,none⟩=some u_:=fun i_ u_ h_=>Atv.kept (hcz i_ u_ h_) HG.out
   have cz0:wr.cell? ⟨bz,oz+j * 7,none⟩=some (.int .i64 kz):=by simpa using hcz 0 _ rfl
   have cz1:wr.cell? ⟨bz,oz+j * 7+1,none⟩=some (.string sz):=hcz 1 _ rfl
   have cz2:wr.cell? ⟨bz,oz+j * 7+2,none⟩=some (.int .i64 nz):=hcz 2 _ rfl
   have cz3:wr.cell? ⟨bz,oz+j * 7+3,none⟩=some (.slice paz rz.length caz):=hcz 3 _ rfl
   have cz4:wr.cell? ⟨bz,oz+j * 7+4,none⟩=some (.slice pbz yz.length cbz):=hcz 4 _ rfl
   have cz5:wr.cell? ⟨bz,oz+j * 7+5,none⟩=some (.slice pez ez.length cez):=hcz 5 _ rfl
   have cz6:wr.cell? ⟨bz,oz+j * 7+6,none⟩=some (.int .i64 qz):=hcz 6 _ rfl
   clear hcz haz hboz helz htz
   obtain ⟨d,hd⟩:∃d,P ⟨kz,sz,nz,rz,yz,ez,qz⟩=d:=⟨_,rfl⟩
   have HD:=Lib.hid hd
   have HC:=Lib.hid (fun W (hW:Grew w W)=>(show Calls Tryz.prog g (#[sv kz sz nz paz rz.length caz pbz yz.length cbz pez ez.length cez qz]++cb) W fun e w'=>e=.returned (.bool d)∧Grew W w' from hd ▸ HF.out ⟨kz,sz,nz,rz,yz,ez,qz⟩ hmz paz caz pbz cbz pez cez _ (HAz.out.kept hW) (HYz.out.kept hW) (HEz.out.kept hW) hbz hW))
   have HNO:=Lib.hid (fun(h:d=false)=>HFALSE.out _ hmz (hd.trans h))
   clear hmz hd HF HFALSE
   cases d with
   | false =>
     have HN2:Hid (b=false):=Lib.hid (HNO.out rfl)
     clear HNO
     go_wp2_with (go_at_fn g;refine(HC.out _ (HG.out.alloc _)).mono ?_;rintro e w1 ⟨rfl,g1⟩;have HG1:=Lib.hid ((HG.out.alloc _).trans g1);clear g1)
     go_ret
     exact⟨ret_bool HN2.out.symm,HG1.out⟩
   | true =>
     go_wp2_with (go_at_fn g;refine(HC.out _ (HG.out.alloc _)).mono ?_;rintro e w1 ⟨rfl,g1⟩;have HG1:=Lib.hid ((HG.out.alloc _).trans g1);clear g1)
     go_roundg (l.length - (j+1))
     case measure=>have:=HLz.out;omega
     case rel=>exact⟨j+1,by go_num,HLz.out,rfl,Lib.hid (by rw [all_snoc HTz.out,HI.out,Bool.true_and];exact HD.out),HG1⟩
  ·obtain rfl:j=l.length:=by omega
   rw [List.take_length] at HI
   go_wp2
   go_ret
   exact⟨ret_bool (HI.out.symm.trans HOK.out),HG.out⟩
set_option maxHeartbeats 4000000 in
theorem everyT_any (g:FuncId) (cb:Array Value) (eg:∀args w,(callFunc g args).run Tryz.prog w=.ok (.enter g args) w) (l:List Ta) (P:Ta→Bool) (B:Nat→Prop) (w:World) (p:Option Addr) (c:Nat) (hx:TL B w p c l)
 (hf:∀x ∈ l,∀(pb_:Option Addr) (cb_:Nat) (W:World),SL B W pb_ cb_ x.b→x.s.size≤1048576∧x.c.size≤1048576∧x.m.size≤1048576→Grew w W→Calls Tryz.prog g (#[tv x.s x.p x.d x.c x.m x.w pb_ x.b.length cb_ x.q]++cb) W fun e w'=>e=.returned (.bool (P x))∧Grew W w') :
 Calls Tryz.prog 60 #[.slice p l.length c,.func (.func g) #[] cb] w fun e w'=>e=.returned (.bool (l.all P))∧Grew w w':=by
 have HX:=Lib.hid hx
 have HF:=Lib.hid hf
 have hcap:l.length≤c:=hx.cap.1
 have hmax:=hx.cap.2.1
 obtain ⟨b,hb⟩:∃b,l.all P=b:=⟨_,rfl⟩
 have HOK:=Lib.hid hb
 have HFALSE:=Lib.hid (fun(x:Ta) (hm:x ∈ l) (h:P x=false)=>(show b=false from hb ▸ all_no hm h))
 rw [hb]
 clear hx hf hb
 go_enter Tryz.func60,Tryz.ntmps60
 go_wp2
 go_loopg [6,9] l.length (fun gg xv_ iv wr=>∃(j:Nat),iv=.int .i64 (j:Int)∧j≤l.length∧gg=l.length - j∧Hid ((l.take j).all P=true)∧Hid (Grew w wr))
 case atStart=>exact⟨0,rfl,Nat.zero_le _,rfl,Lib.hid rfl,Lib.hid (Grew.refl _)⟩
 case round =>
  obtain ⟨j,rfl,hj,rfl,HI,HG⟩:=hrel
  by_cases hlt:j < l.length
  ·
   obtain ⟨bz,oz,pbz,cbz,rfl,hbz,hboz,hcz⟩:=HX.out.get j hlt
   have hmz:=List.getElem_mem hlt
   have htz:=List.take_succ_eq_append_getElem hlt
   have HLz:=Lib.hid (Nat.succ_le_of_lt hlt)
   generalize l[j]=xz at *
   obtain ⟨sz,iz,dz,hz,mz,nz,yz,qz⟩:=xz
   replace hbz:sz.size≤1048576∧hz.size≤1048576∧mz.size≤1048576:=hbz.2
   have HTz:=Lib.hid htz
   have HYz:Hid (SL B w pbz cbz yz):=Lib.hid hboz
   have hcapz:yz.length≤cbz:=hboz.cap.1
   have hmaxz:=hboz.cap.2.1
   replace hcz:∀i_ u_,(tdc ⟨sz,iz,dz,hz,mz,nz,pbz,yz.length,cbz,qz⟩)[i_]?=some u_→wr.cell? ⟨bz,oz+j * 8+i_,none⟩=some u_:=fun i_ u_ h_=>Atv.kept (hcz i_ u_ h_) HG.out
   have cz0:wr.cell? ⟨bz,oz+j * 8,none⟩=some (.string sz):=by simpa using hcz 0 _ rfl
   have cz1:wr.cell? ⟨bz,oz+j * 8+1,none⟩=some (.int .i64 iz):=hcz 1 _ rfl
   have cz2:wr.cell? ⟨bz,oz+j * 8+2,none⟩=some (.int .i64 dz):=hcz 2 _ rfl
   have cz3:wr.cell? ⟨bz,oz+j * 8+3,none⟩=some (.string hz):=hcz 3 _ rfl
   have cz4:wr.cell? ⟨bz,oz+j * 8+4,none⟩=some (.string mz):=hcz 4 _ rfl
   have cz5:wr.cell? ⟨bz,oz+j * 8+5,none⟩=some (.int .i64 nz):=hcz 5 _ rfl
   have cz6:wr.cell? ⟨bz,oz+j * 8+6,none⟩=some (.slice pbz yz.length cbz):=hcz 6 _ rfl
   have cz7:wr.cell? ⟨bz,oz+j * 8+7,none⟩=some (.int .i64 qz):=hcz 7 _ rfl
   clear hcz hboz htz
   obtain ⟨d,hd⟩:∃d,P ⟨sz,iz,dz,hz,mz,nz,yz,qz⟩=d:=⟨_,rfl⟩
   have HD:=Lib.hid hd
   have HC:=Lib.hid (fun W (hW:Grew w W)=>(show Calls Tryz.prog g (#[tv sz iz dz hz mz nz pbz yz.length cbz qz]++cb) W fun e w'=>e=.returned (.bool d)∧Grew W w' from hd ▸ HF.out ⟨sz,iz,dz,hz,mz,nz,yz,qz⟩ hmz pbz cbz _ (HYz.out.kept hW) hbz hW))
   have HNO:=Lib.hid (fun(h:d=false)=>HFALSE.out _ hmz (hd.trans h))
   clear hmz hd HF HFALSE
   cases d with
   | false =>
     have HN2:Hid (b=false):=Lib.hid (HNO.out rfl)
     clear HNO
     go_wp2_with (go_at_fn g;refine(HC.out _ (HG.out.alloc _)).mono ?_;rintro e w1 ⟨rfl,g1⟩;have HG1:=Lib.hid ((HG.out.alloc _).trans g1);clear g1)
     go_ret
     exact⟨ret_bool HN2.out.symm,HG1.out⟩
   | true =>
     go_wp2_with (go_at_fn g;refine(HC.out _ (HG.out.alloc _)).mono ?_;rintro e w1 ⟨rfl,g1⟩;have HG1:=Lib.hid ((HG.out.alloc _).trans g1);clear g1)
     go_roundg (l.length - (j+1))
     case measure=>have:=HLz.out;omega
     case rel=>exact⟨j+1,by go_num,HLz.out,rfl,Lib.hid (by rw [all_snoc HTz.out,HI.out,Bool.true_and];exact HD.out),HG1⟩
  ·obtain rfl:j=l.length:=by omega
   rw [List.take_length] at HI
   go_wp2
   go_ret
   exact⟨ret_bool (HI.out.symm.trans HOK.out),HG.out⟩
set_option maxHeartbeats 4000000 in
theorem everyC_any (g:FuncId) (cb:Array Value) (eg:∀args w,(callFunc g args).run Tryz.prog w=.ok (.enter g args) w) (l:List Cn) (P:Cn→Bool) (B:Nat→Prop) (w:World) (p:Option Addr) (c:Nat) (hx:InN FlatAt 3 cnc B w p l.length c l)
 (hf:∀x ∈ l,∀(W:World),Grew w W→Calls Tryz.prog g (#[.agg #[.string x.s,.int .i16 x.v,.int .i64 x.q]]++cb) W fun e w'=>e=.returned (.bool (P x))∧Grew W w') :
 Calls Tryz.prog 52 #[.slice p l.length c,.func (.func g) #[] cb] w fun e w'=>e=.returned (.bool (l.all P))∧Grew w w':=by
 have HX:=Lib.hid hx
 have HF:=Lib.hid hf
 have hcap:=hx.cap (hangsF encCn)
 obtain ⟨b,hb⟩:∃b,l.all P=b:=⟨_,rfl⟩
 have HOK:=Lib.hid hb
 have HFALSE:=Lib.hid (fun(x:Cn) (hm:x ∈ l) (h:P x=false)=>(show b=false from hb ▸ all_no hm h))
 rw [hb]
 clear hx hf hb
 go_enter Tryz.func52,Tryz.ntmps52
 go_wp2
 go_loopg [6,9] l.length (fun gg xv_ iv wr=>∃(j:Nat),iv=.int .i64 (j:Int)∧j≤l.length∧gg=l.length - j∧Hid ((l.take j).all P=true)∧Hid (Grew w wr))
 case atStart=>exact⟨0,rfl,Nat.zero_le _,rfl,Lib.hid rfl,Lib.hid (Grew.refl _)⟩
 case round =>
  obtain ⟨j,rfl,hj,rfl,HI,HG⟩:=hrel
  by_cases hlt:j < l.length
  ·
   obtain ⟨bz,oz,rfl,hcz⟩:=HX.out.getF j hlt
   have hmz:=List.getElem_mem hlt
   have htz:=List.take_succ_eq_append_getElem hlt
   have HLz:=Lib.hid (Nat.succ_le_of_lt hlt)
   generalize l[j]=xz at *
   obtain ⟨sz,vz,qz⟩:=xz
   have HTz:=Lib.hid htz
   replace hcz:∀i_ u_,([.string sz,.int .i16 vz,.int .i64 qz]:List Value)[i_]?=some u_→wr.cell? ⟨bz,oz+j * 3+i_,none⟩=some u_:=fun i_ u_ h_=>Atv.kept (hcz i_ u_ h_) HG.out
   have cz0:wr.cell? ⟨bz,oz+j * 3,none⟩=some (.string sz):=by simpa using hcz 0 _ rfl
   have cz1:wr.cell? ⟨bz,oz+j * 3+1,none⟩=some (.int .i16 vz):=hcz 1 _ rfl
   have cz2:wr.cell? ⟨bz,oz+j * 3+2,none⟩=some (.int .i64 qz):=hcz 2 _ rfl
   clear hcz htz
   obtain ⟨d,hd⟩:∃d,P ⟨sz,vz,qz⟩=d:=⟨_,rfl⟩
   have HD:=Lib.hid hd
   have HC:=Lib.hid (fun W (hW:Grew w W)=>(show Calls Tryz.prog g (#[.agg #[.string sz,.int .i16 vz,.int .i64 qz]]++cb) W fun e w'=>e=.returned (.bool d)∧Grew W w' from hd ▸ HF.out ⟨sz,vz,qz⟩ hmz _ hW))
   have HNO:=Lib.hid (fun(h:d=false)=>HFALSE.out _ hmz (hd.trans h))
   clear hmz hd HF HFALSE
   cases d with
   | false =>
     have HN2:Hid (b=false):=Lib.hid (HNO.out rfl)
     clear HNO
     go_wp2_with (go_at_fn g;refine(HC.out _ (HG.out.alloc _)).mono ?_;rintro e w1 ⟨rfl,g1⟩;have HG1:=Lib.hid ((HG.out.alloc _).trans g1);clear g1)
     go_ret
     exact⟨ret_bool HN2.out.symm,HG1.out⟩
   | true =>
     go_wp2_with (go_at_fn g;refine(HC.out _ (HG.out.alloc _)).mono ?_;rintro e w1 ⟨rfl,g1⟩;have HG1:=Lib.hid ((HG.out.alloc _).trans g1);clear g1)
     go_roundg (l.length - (j+1))
     case measure=>have:=HLz.out;omega
     case rel=>exact⟨j+1,by go_num,HLz.out,rfl,Lib.hid (by rw [all_snoc HTz.out,HI.out,Bool.true_and];exact HD.out),HG1⟩
  ·obtain rfl:j=l.length:=by omega
   rw [List.take_length] at HI
   go_wp2
   go_ret
   exact⟨ret_bool (HI.out.symm.trans HOK.out),HG.out⟩
set_option maxHeartbeats 4000000 in
theorem everyG_any (g:FuncId) (cb:Array Value) (eg:∀args w,(callFunc g args).run Tryz.prog w=.ok (.enter g args) w) (l:List Gl) (P:Gl→Bool) (B:Nat→Prop) (w:World) (p:Option Addr) (c:Nat) (hx:InN FlatAt 4 glc B w p l.length c l)
 (hf:∀x ∈ l,∀(W:World),Grew w W→Calls Tryz.prog g (#[.agg #[.string x.s,.int .i64 x.l,.int .i16 x.i,.int .i64 x.q]]++cb) W fun e w'=>e=.returned (.bool (P x))∧Grew W w') :
 Calls Tryz.prog 54 #[.slice p l.length c,.func (.func g) #[] cb] w fun e w'=>e=.returned (.bool (l.all P))∧Grew w w':=by
 have HX:=Lib.hid hx
 have HF:=Lib.hid hf
 have hcap:=hx.cap (hangsF encGl)
 obtain ⟨b,hb⟩:∃b,l.all P=b:=⟨_,rfl⟩
 have HOK:=Lib.hid hb
 have HFALSE:=Lib.hid (fun(x:Gl) (hm:x ∈ l) (h:P x=false)=>(show b=false from hb ▸ all_no hm h))
 rw [hb]
 clear hx hf hb
 go_enter Tryz.func54,Tryz.ntmps54
 go_wp2
 go_loopg [6,9] l.length (fun gg xv_ iv wr=>∃(j:Nat),iv=.int .i64 (j:Int)∧j≤l.length∧gg=l.length - j∧Hid ((l.take j).all P=true)∧Hid (Grew w wr))
 case atStart=>exact⟨0,rfl,Nat.zero_le _,rfl,Lib.hid rfl,Lib.hid (Grew.refl _)⟩
 case round =>
  obtain ⟨j,rfl,hj,rfl,HI,HG⟩:=hrel
  by_cases hlt:j < l.length
  ·
   obtain ⟨bz,oz,rfl,hcz⟩:=HX.out.getF j hlt
   have hmz:=List.getElem_mem hlt
   have htz:=List.take_succ_eq_append_getElem hlt
   have HLz:=Lib.hid (Nat.succ_le_of_lt hlt)
   generalize l[j]=xz at *
   obtain ⟨sz,lz,iz,qz⟩:=xz
   have HTz:=Lib.hid htz
   replace hcz:∀i_ u_,([.string sz,.int .i64 lz,.int .i16 iz,.int .i64 qz]:List Value)[i_]?=some u_→wr.cell? ⟨bz,oz+j * 4+i_,none⟩=some u_:=fun i_ u_ h_=>Atv.kept (hcz i_ u_ h_) HG.out
   have cz0:wr.cell? ⟨bz,oz+j * 4,none⟩=some (.string sz):=by simpa using hcz 0 _ rfl
   have cz1:wr.cell? ⟨bz,oz+j * 4+1,none⟩=some (.int .i64 lz):=hcz 1 _ rfl
   have cz2:wr.cell? ⟨bz,oz+j * 4+2,none⟩=some (.int .i16 iz):=hcz 2 _ rfl
   have cz3:wr.cell? ⟨bz,oz+j * 4+3,none⟩=some (.int .i64 qz):=hcz 3 _ rfl
   clear hcz htz
   obtain ⟨d,hd⟩:∃d,P ⟨sz,lz,iz,qz⟩=d:=⟨_,rfl⟩
   have HD:=Lib.hid hd
   have HC:=Lib.hid (fun W (hW:Grew w W)=>(show Calls Tryz.prog g (#[.agg #[.string sz,.int .i64 lz,.int .i16 iz,.int .i64 qz]]++cb) W fun e w'=>e=.returned (.bool d)∧Grew W w' from hd ▸ HF.out ⟨sz,lz,iz,qz⟩ hmz _ hW))
   have HNO:=Lib.hid (fun(h:d=false)=>HFALSE.out _ hmz (hd.trans h))
   clear hmz hd HF HFALSE
   cases d with
   | false =>
     have HN2:Hid (b=false):=Lib.hid (HNO.out rfl)
     clear HNO
     go_wp2_with (go_at_fn g;refine(HC.out _ (HG.out.alloc _)).mono ?_;rintro e w1 ⟨rfl,g1⟩;have HG1:=Lib.hid ((HG.out.alloc _).trans g1);clear g1)
     go_ret
     exact⟨ret_bool HN2.out.symm,HG1.out⟩
   | true =>
     go_wp2_with (go_at_fn g;refine(HC.out _ (HG.out.alloc _)).mono ?_;rintro e w1 ⟨rfl,g1⟩;have HG1:=Lib.hid ((HG.out.alloc _).trans g1);clear g1)
     go_roundg (l.length - (j+1))
     case measure=>have:=HLz.out;omega
     case rel=>exact⟨j+1,by go_num,HLz.out,rfl,Lib.hid (by rw [all_snoc HTz.out,HI.out,Bool.true_and];exact HD.out),HG1⟩
  ·obtain rfl:j=l.length:=by omega
   rw [List.take_length] at HI
   go_wp2
   go_ret
   exact⟨ret_bool (HI.out.symm.trans HOK.out),HG.out⟩
set_option maxHeartbeats 4000000 in
theorem everyH_any (g:FuncId) (cb:Array Value) (eg:∀args w,(callFunc g args).run Tryz.prog w=.ok (.enter g args) w) (l:List Cn) (P:Cn→Bool) (B:Nat→Prop) (w:World) (p:Option Addr) (c:Nat) (hx:InN FlatAt 3 chc B w p l.length c l)
 (hf:∀x ∈ l,∀(W:World),Grew w W→Calls Tryz.prog g (#[.agg #[.string x.s,.int .i64 x.v,.int .i64 x.q]]++cb) W fun e w'=>e=.returned (.bool (P x))∧Grew W w') :
 Calls Tryz.prog 58 #[.slice p l.length c,.func (.func g) #[] cb] w fun e w'=>e=.returned (.bool (l.all P))∧Grew w w':=by
 have HX:=Lib.hid hx
 have HF:=Lib.hid hf
 have hcap:=hx.cap (hangsF encCh)
 obtain ⟨b,hb⟩:∃b,l.all P=b:=⟨_,rfl⟩
 have HOK:=Lib.hid hb
 have HFALSE:=Lib.hid (fun(x:Cn) (hm:x ∈ l) (h:P x=false)=>(show b=false from hb ▸ all_no hm h))
 rw [hb]
 clear hx hf hb
 go_enter Tryz.func58,Tryz.ntmps58
 go_wp2
 go_loopg [6,9] l.length (fun gg xv_ iv wr=>∃(j:Nat),iv=.int .i64 (j:Int)∧j≤l.length∧gg=l.length - j∧Hid ((l.take j).all P=true)∧Hid (Grew w wr))
 case atStart=>exact⟨0,rfl,Nat.zero_le _,rfl,Lib.hid rfl,Lib.hid (Grew.refl _)⟩
 case round =>
  obtain ⟨j,rfl,hj,rfl,HI,HG⟩:=hrel
  by_cases hlt:j < l.length
  ·
   obtain ⟨bz,oz,rfl,hcz⟩:=HX.out.getF j hlt
   have hmz:=List.getElem_mem hlt
   have htz:=List.take_succ_eq_append_getElem hlt
   have HLz:=Lib.hid (Nat.succ_le_of_lt hlt)
   generalize l[j]=xz at *
   obtain ⟨sz,vz,qz⟩:=xz
   have HTz:=Lib.hid htz
   replace hcz:∀i_ u_,([.string sz,.int .i64 vz,.int .i64 qz]:List Value)[i_]?=some u_→wr.cell? ⟨bz,oz+j * 3+i_,none⟩=some u_:=fun i_ u_ h_=>Atv.kept (hcz i_ u_ h_) HG.out
   have cz0:wr.cell? ⟨bz,oz+j * 3,none⟩=some (.string sz):=by simpa using hcz 0 _ rfl
   have cz1:wr.cell? ⟨bz,oz+j * 3+1,none⟩=some (.int .i64 vz):=hcz 1 _ rfl
   have cz2:wr.cell? ⟨bz,oz+j * 3+2,none⟩=some (.int .i64 qz):=hcz 2 _ rfl
   clear hcz htz
   obtain ⟨d,hd⟩:∃d,P ⟨sz,vz,qz⟩=d:=⟨_,rfl⟩
   have HD:=Lib.hid hd
   have HC:=Lib.hid (fun W (hW:Grew w W)=>(show Calls Tryz.prog g (#[.agg #[.string sz,.int .i64 vz,.int .i64 qz]]++cb) W fun e w'=>e=.returned (.bool d)∧Grew W w' from hd ▸ HF.out ⟨sz,vz,qz⟩ hmz _ hW))
   have HNO:=Lib.hid (fun(h:d=false)=>HFALSE.out _ hmz (hd.trans h))
   clear hmz hd HF HFALSE
   cases d with
   | false =>
     have HN2:Hid (b=false):=Lib.hid (HNO.out rfl)
     clear HNO
     go_wp2_with (go_at_fn g;refine(HC.out _ (HG.out.alloc _)).mono ?_;rintro e w1 ⟨rfl,g1⟩;have HG1:=Lib.hid ((HG.out.alloc _).trans g1);clear g1)
     go_ret
     exact⟨ret_bool HN2.out.symm,HG1.out⟩
   | true =>
     go_wp2_with (go_at_fn g;refine(HC.out _ (HG.out.alloc _)).mono ?_;rintro e w1 ⟨rfl,g1⟩;have HG1:=Lib.hid ((HG.out.alloc _).trans g1);clear g1)
     go_roundg (l.length - (j+1))
     case measure=>have:=HLz.out;omega
     case rel=>exact⟨j+1,by go_num,HLz.out,rfl,Lib.hid (by rw [all_snoc HTz.out,HI.out,Bool.true_and];exact HD.out),HG1⟩
  ·obtain rfl:j=l.length:=by omega
   rw [List.take_length] at HI
   go_wp2
   go_ret
   exact⟨ret_bool (HI.out.symm.trans HOK.out),HG.out⟩
set_option maxHeartbeats 4000000 in
theorem everyN_any (g:FuncId) (cb:Array Value) (eg:∀args w,(callFunc g args).run Tryz.prog w=.ok (.enter g args) w) (l:List ByteArray) (P:ByteArray→Bool) (B:Nat→Prop) (w:World) (p:Option Addr) (c:Nat) (hx:InN FlatAt 1 strc B w p l.length c l)
 (hf:∀x ∈ l,∀(W:World),Grew w W→Calls Tryz.prog g (#[.string x]++cb) W fun e w'=>e=.returned (.bool (P x))∧Grew W w') :
 Calls Tryz.prog 56 #[.slice p l.length c,.func (.func g) #[] cb] w fun e w'=>e=.returned (.bool (l.all P))∧Grew w w':=by
 have HX:=Lib.hid hx
 have HF:=Lib.hid hf
 have hcap:=hx.cap (hangsF encStr)
 obtain ⟨b,hb⟩:∃b,l.all P=b:=⟨_,rfl⟩
 have HOK:=Lib.hid hb
 have HFALSE:=Lib.hid (fun(x:ByteArray) (hm:x ∈ l) (h:P x=false)=>(show b=false from hb ▸ all_no hm h))
 rw [hb]
 clear hx hf hb
 go_enter Tryz.func56,Tryz.ntmps56
 go_wp2
 go_loopg [6,9] l.length (fun gg xv_ iv wr=>∃(j:Nat),iv=.int .i64 (j:Int)∧j≤l.length∧gg=l.length - j∧Hid ((l.take j).all P=true)∧Hid (Grew w wr))
 case atStart=>exact⟨0,rfl,Nat.zero_le _,rfl,Lib.hid rfl,Lib.hid (Grew.refl _)⟩
 case round =>
  obtain ⟨j,rfl,hj,rfl,HI,HG⟩:=hrel
  by_cases hlt:j < l.length
  ·
   obtain ⟨bz,oz,rfl,hcz⟩:=HX.out.getF j hlt
   have hmz:=List.getElem_mem hlt
   have htz:=List.take_succ_eq_append_getElem hlt
   have HLz:=Lib.hid (Nat.succ_le_of_lt hlt)
   generalize l[j]=xz at *
   have HTz:=Lib.hid htz
   replace hcz:∀i_ u_,([.string xz]:List Value)[i_]?=some u_→wr.cell? ⟨bz,oz+j * 1+i_,none⟩=some u_:=fun i_ u_ h_=>Atv.kept (hcz i_ u_ h_) HG.out
   have cz0:wr.cell? ⟨bz,oz+j,none⟩=some (.string xz):=by simpa using hcz 0 _ rfl
   clear hcz htz
   obtain ⟨d,hd⟩:∃d,P xz=d:=⟨_,rfl⟩
   have HD:=Lib.hid hd
   have HC:=Lib.hid (fun W (hW:Grew w W)=>(show Calls Tryz.prog g (#[.string xz]++cb) W fun e w'=>e=.returned (.bool d)∧Grew W w' from hd ▸ HF.out xz hmz _ hW))
   have HNO:=Lib.hid (fun(h:d=false)=>HFALSE.out _ hmz (hd.trans h))
   clear hmz hd HF HFALSE
   cases d with
   | false =>
     have HN2:Hid (b=false):=Lib.hid (HNO.out rfl)
     clear HNO
     go_wp2_with (go_at_fn g;refine(HC.out _ HG.out).mono ?_;rintro e w1 ⟨rfl,g1⟩;have HG1:=Lib.hid (HG.out.trans g1);clear g1)
     go_ret
     exact⟨ret_bool HN2.out.symm,HG1.out⟩
   | true =>
     go_wp2_with (go_at_fn g;refine(HC.out _ HG.out).mono ?_;rintro e w1 ⟨rfl,g1⟩;have HG1:=Lib.hid (HG.out.trans g1);clear g1)
     go_roundg (l.length - (j+1))
     case measure=>have:=HLz.out;omega
     case rel=>exact⟨j+1,by go_num,HLz.out,rfl,Lib.hid (by rw [all_snoc HTz.out,HI.out,Bool.true_and];exact HD.out),HG1⟩
  ·obtain rfl:j=l.length:=by omega
   rw [List.take_length] at HI
   go_wp2
   go_ret
   exact⟨ret_bool (HI.out.symm.trans HOK.out),HG.out⟩
end Go.Proofs.YtcknpcbkofgdoaaGreatDoor
namespace Go.Proofs.YtcknpcbkofgdoaaGreatDoor
open Go Go.RowKit Go.IntWalk
set_option linter.unusedSimpArgs false
set_option linter.unusedVariables false
set_option maxRecDepth 8000
theorem okXs_lall:∀l:List Xp,okXs l=l.all okX
 | []=>rfl
 | x :: l=>by rw [okXs,List.all_cons,okXs_lall l]
theorem okSs_lall:∀l:List Sm,okSs l=l.all okS
 | []=>rfl
 | x :: l=>by rw [okSs,List.all_cons,okSs_lall l]
theorem formC_eq (s:ByteArray) (z:Int):(idn s&&decide (-32767≤z))=okC s z:=by
 rw [okC]
 by_cases h:z < -32767
 ·rw [decide_eq_true h,decide_eq_false (by omega)];cases idn s <;> rfl
 ·rw [decide_eq_false h,decide_eq_true (by omega)];cases idn s <;> rfl
theorem formH_eq (s:ByteArray) (z:Int):(idn s&&num1 z 0)=okH s z:=by
 rw [okH];cases idn s <;> cases num1 z 0 <;> rfl
theorem formG_eq (s:ByteArray) (l i:Int):(((idn s&&num1 l 0)&&decide (-32767≤i))&&((l==0)||(i==0)))=okG s l i:=by
 rw [okG]
 have h1:decide (-32767≤i)=!decide (i < -32767):=by
  by_cases h:i < -32767
  ·rw [decide_eq_true h,decide_eq_false (by omega)];rfl
  ·rw [decide_eq_false h,decide_eq_true (by omega)];rfl
 rw [h1]
 cases hn:num1 l 0 with
 | false=>cases idn s <;> cases decide (i < -32767) <;> cases (l==0) <;> cases (i==0) <;> simp
 | true =>
   have hl:0≤l:=by
    rw [num1,Bool.and_eq_true,decide_eq_true_eq] at hn
    exact hn.1
   have h2:(l==0)=!decide (0 < l):=by
    by_cases h:0 < l
    ·rw [decide_eq_true h]
     have:(l==0)=false:=beq_eq_false_iff_ne.2 (by omega)
     rw [this];rfl
    ·rw [decide_eq_false h]
     have:(l==0)=true:=beq_iff_eq.2 (by omega)
     rw [this];rfl
   have h3:(i != 0)=!(i==0):=rfl
   rw [h2,h3]
   cases idn s <;> cases decide (i < -32767) <;> cases decide (0 < l) <;> cases (i==0) <;> rfl
theorem en_id:Enters Tryz.prog 57:=fun args w=>by go_simp
theorem en_sg:Enters Tryz.prog 107:=fun args w=>by go_simp
theorem en_nu:Enters Tryz.prog 108:=fun args w=>by go_simp
theorem en_nm:Enters Tryz.prog 99:=fun args w=>by go_simp
theorem en_tg:Enters Tryz.prog 112:=fun args w=>by go_simp
theorem en_fx:Enters Tryz.prog 48:=fun args w=>by go_simp
theorem en_fs:Enters Tryz.prog 114:=fun args w=>by go_simp
theorem en_ft:Enters Tryz.prog 61:=fun args w=>by go_simp
theorem en_fc:Enters Tryz.prog 53:=fun args w=>by go_simp
theorem en_fg:Enters Tryz.prog 55:=fun args w=>by go_simp
theorem en_fh:Enters Tryz.prog 59:=fun args w=>by go_simp
theorem en_evX:Enters Tryz.prog 100:=fun args w=>by go_simp
theorem en_evS:Enters Tryz.prog 113:=fun args w=>by go_simp
theorem en_evT:Enters Tryz.prog 60:=fun args w=>by go_simp
theorem en_evC:Enters Tryz.prog 52:=fun args w=>by go_simp
theorem en_evG:Enters Tryz.prog 54:=fun args w=>by go_simp
theorem en_evH:Enters Tryz.prog 58:=fun args w=>by go_simp
theorem en_evN:Enters Tryz.prog 56:=fun args w=>by go_simp
end Go.Proofs.YtcknpcbkofgdoaaGreatDoor
namespace Go.Proofs.YtcknpcbkofgdoaaGreatDoor
open Go Go.RowKit Go.IntWalk
set_option linter.unusedSimpArgs false
set_option linter.unusedVariables false
set_option maxRecDepth 8000
section
variable {dst:Option Tmp}{ty:TypeId}{pos:String}{after:Array Edge}{g:Option (Nat × Bool)}{a:Act}{w:World}{T:Value→World→Prop}
theorem rn_eql_32 {o1 o2:Operand}{b c:Int}(hx:a.eval o1=.int .i16 b) (hy:a.eval o2=.int .i16 c) (h:T (.bool (b==c)) w):Runs Tryz.prog ⟨dst,.binOp .eql 32 o1 o2 32,ty,pos,after,g⟩ a w T:=by
 refine Runs.value (v:=.bool (b==c)) (w':=w) ?_ h
 simp only [execOp,hx,hy]
 go_simp
end
set_option maxHeartbeats 4000000 in
theorem formC_any (s:ByteArray) (z q:Int) (w:World) (hs:s.size≤1048576) (hE:Env w) :
 Calls Tryz.prog 53 #[.agg #[.string s,.int .i16 z,.int .i64 q]] w fun e w'=>e=.returned (.bool (okC s z))∧Grew w w':=by
 have HE:=Lib.hid hE
 have HIs:=Lib.hid (fun W (hW:Grew w W)=>isid_any s hs W (HE.out.grew hW))
 have hE:((idn s)&&(decide (-32767≤z)))=okC s z:=formC_eq s z
 have HEQ:=Lib.hid hE
 clear hE
 go_enter Tryz.func53,Tryz.ntmps53
 go_upto_region 1 with fail
 have hb1:Blk w.heap.size [.string s,.int .i16 z,.int .i64 q] 60 (w.alloc (Obj.cells #[.string s,.int .i16 z,.int .i64 q] 60)):=Blk.new w _ _
 have hgV:Grew w (w.alloc (Obj.cells #[.string s,.int .i16 z,.int .i64 q] 60)):=(Grew.refl w).alloc _
 generalize (w.alloc (Obj.cells #[.string s,.int .i16 z,.int .i64 q] 60))=V at hb1 hgV ⊢
 generalize w.heap.size=T at hb1 ⊢
 have HB:=Lib.hid hb1
 have HGV:=Lib.hid hgV
 have d0:Atv ⟨T,0,none⟩ (.string s) V:=hb1.atv 0 rfl
 have d1:Atv ⟨T,1,none⟩ (.int .i16 z) V:=hb1.atv 1 rfl
 have d2:Atv ⟨T,2,none⟩ (.int .i64 q) V:=hb1.atv 2 rfl
 clear hb1 hgV
 refine wp_postsL [some 3,some 4,some 5,some 6,some 7,some 8,some 9,some 10,some 2] [false,false,true,true,true,true,true,true,true,true,true] [fun v _=>v=.pointer (some ⟨T,0,none⟩),fun v _=>v=.string s,fun v _=>v=.bool (idn s),fun v _=>v=.bool (idn s),fun v _=>(((idn s)=true)→v=.pointer (some ⟨T,1,none⟩))∧(¬ ((idn s)=true)→v=undef),fun v _=>(((idn s)=true)→v=.int .i16 (z))∧(¬ ((idn s)=true)→v=undef),fun v _=>(((idn s)=true)→v=.bool (decide (-32767≤z)))∧(¬ ((idn s)=true)→v=undef),fun v _=>v=.bool ((idn s)&&(decide (-32767≤z))),fun v _=>v=.bool ((idn s)&&(decide (-32767≤z)))] (by kernel_rfl) rfl ?_ ⟨?_,?_,?_,?_,?_,?_,?_,?_,?_,trivial⟩ ?_
 ·exact⟨Zi,Zi,Zi,Zi,Zi,Zi,Zi,Zi,Zi,trivial⟩
 ·intro u w hR hd;exact rn_fld_60_0 (ev rfl) Zr
 ·intro u w hR hd;exact rn_ld_9 (ev (hd.1 rfl)) (d0.kept hR) Zr
 ·intro u w hR hd;exact runs_c1 en_id (ev (hd.1 rfl)) (callp (fun _ e=>e) (HIs.out _ (HGV.out.trans hR)))
 ·intro u w hR hd;exact runs_mv (ev (hd.1 rfl)) Zr
 ·intro u w hR hd;exact⟨fun hg=>have hG:((idn s)=true):=Value.bool.inj ((hd.1 rfl).symm.trans hg);rn_fld_60_1 (ev rfl) (Zs hG),Zn (hd.1 rfl)⟩
 ·intro u w hR hd;exact⟨fun hg=>have hG:((idn s)=true):=Value.bool.inj ((hd.2.1 rfl).symm.trans hg);rn_ld_32 (ev ((hd.1 rfl).1 hG)) (d1.kept hR) (Zs hG),Zn (hd.2.1 rfl)⟩
 ·intro u w hR hd;exact⟨fun hg=>have hG:((idn s)=true):=Value.bool.inj ((hd.2.1 rfl).symm.trans hg);runs_c1 en_sg (ev ((hd.1 rfl).1 hG)) (callp (fun _ e=>⟨fun _=>e,fun hn=>absurd hG hn⟩) ((signed_any _ _).mono fun e w9 h=>⟨h.1,h.2 ▸ Grew.refl _⟩)),Zn (hd.2.1 rfl)⟩
 ·intro u w hR hd;exact runs_an (ev (hd.1 rfl)) (fun hb=>ev ((hd.2.1 rfl).1 hb)) Zr
 ·intro u w hR hd;exact runs_mva (ev (hd.1 rfl)) Zr
 ·intro u w4 hR hh
  have he:u 2=.bool ((idn s)&&(decide (-32767≤z))):=hh 8 (by decide)
  rw [HEQ.out] at he
  simp only [mixA,mixL,zz9,zz0,he]
  have HG4:Hid (Grew w w4):=Lib.hid (HGV.out.trans hR)
  clear hh he hR d0 d1 d2 HB HGV
  go_wp2
  go_ret
  exact⟨rfl,HG4.out⟩
set_option maxHeartbeats 4000000 in
theorem formG_any (s:ByteArray) (l i q:Int) (w:World) (hs:s.size≤1048576) (hE:Env w) :
 Calls Tryz.prog 55 #[.agg #[.string s,.int .i64 l,.int .i16 i,.int .i64 q]] w fun e w'=>e=.returned (.bool (okG s l i))∧Grew w w':=by
 have HE:=Lib.hid hE
 have HIs:=Lib.hid (fun W (hW:Grew w W)=>isid_any s hs W (HE.out.grew hW))
 have hE:((((idn s)&&(num1 l 0))&&(decide (-32767≤i)))&&(((l)==(0))||((i)==(0))))=okG s l i:=formG_eq s l i
 have HEQ:=Lib.hid hE
 clear hE
 go_enter Tryz.func55,Tryz.ntmps55
 go_upto_region 1 with fail
 have hb1:Blk w.heap.size [.string s,.int .i64 l,.int .i16 i,.int .i64 q] 62 (w.alloc (Obj.cells #[.string s,.int .i64 l,.int .i16 i,.int .i64 q] 62)):=Blk.new w _ _
 have hgV:Grew w (w.alloc (Obj.cells #[.string s,.int .i64 l,.int .i16 i,.int .i64 q] 62)):=(Grew.refl w).alloc _
 generalize (w.alloc (Obj.cells #[.string s,.int .i64 l,.int .i16 i,.int .i64 q] 62))=V at hb1 hgV ⊢
 generalize w.heap.size=T at hb1 ⊢
 have HB:=Lib.hid hb1
 have HGV:=Lib.hid hgV
 have d0:Atv ⟨T,0,none⟩ (.string s) V:=hb1.atv 0 rfl
 have d1:Atv ⟨T,1,none⟩ (.int .i64 l) V:=hb1.atv 1 rfl
 have d2:Atv ⟨T,2,none⟩ (.int .i16 i) V:=hb1.atv 2 rfl
 have d3:Atv ⟨T,3,none⟩ (.int .i64 q) V:=hb1.atv 3 rfl
 clear hb1 hgV
 refine wp_postsL [some 3,some 4,some 5,some 6,some 7,some 8,some 9,some 10,some 11,some 12,some 13,some 14,some 15,some 16,some 17,some 18,some 19,some 20,some 21,some 22,some 23,some 24,some 25,some 2] [Zf,Zf,Zt,Zt,Zt,Zt,Zt,Zt,Zt,Zt,Zt,Zt,Zt,Zt,Zt,Zt,Zt,Zt,Zt,Zt,Zt,Zt,Zt,Zt,Zt,Zt] [fun v _=>v=.pointer (some ⟨T,0,none⟩),fun v _=>v=.string s,fun v _=>v=.bool (idn s),fun v _=>v=.bool (idn s),fun v _=>(((idn s)=true)→v=.pointer (some ⟨T,1,none⟩))∧(¬ ((idn s)=true)→v=undef),fun v _=>(((idn s)=true)→v=.int .i64 (l))∧(¬ ((idn s)=true)→v=undef),fun v _=>(((idn s)=true)→v=.bool (num1 l 0))∧(¬ ((idn s)=true)→v=undef),fun v _=>v=.bool ((idn s)&&(num1 l 0)),fun v _=>v=.bool ((idn s)&&(num1 l 0)),fun v _=>((((idn s)&&(num1 l 0))=true)→v=.pointer (some ⟨T,2,none⟩))∧(¬ (((idn s)&&(num1 l 0))=true)→v=undef),fun v _=>((((idn s)&&(num1 l 0))=true)→v=.int .i16 (i))∧(¬ (((idn s)&&(num1 l 0))=true)→v=undef),fun v _=>((((idn s)&&(num1 l 0))=true)→v=.bool (decide (-32767≤i)))∧(¬ (((idn s)&&(num1 l 0))=true)→v=undef),fun v _=>v=.bool (((idn s)&&(num1 l 0))&&(decide (-32767≤i))),fun v _=>v=.bool (((idn s)&&(num1 l 0))&&(decide (-32767≤i))),fun v _=>(((((idn s)&&(num1 l 0))&&(decide (-32767≤i)))=true)→v=.pointer (some ⟨T,1,none⟩))∧(¬ ((((idn s)&&(num1 l 0))&&(decide (-32767≤i)))=true)→v=undef),fun v _=>(((((idn s)&&(num1 l 0))&&(decide (-32767≤i)))=true)→v=.int .i64 (l))∧(¬ ((((idn s)&&(num1 l 0))&&(decide (-32767≤i)))=true)→v=undef),fun v _=>(((((idn s)&&(num1 l 0))&&(decide (-32767≤i)))=true)→v=.bool ((l)==(0)))∧(¬ ((((idn s)&&(num1 l 0))&&(decide (-32767≤i)))=true)→v=undef),fun v _=>(((((idn s)&&(num1 l 0))&&(decide (-32767≤i)))=true)→v=.bool ((l)==(0)))∧(¬ ((((idn s)&&(num1 l 0))&&(decide (-32767≤i)))=true)→v=undef),fun v _=>((((((idn s)&&(num1 l 0))&&(decide (-32767≤i)))=true)∧(((l)==(0))=false))→v=.pointer (some ⟨T,2,none⟩))∧(¬ (((((idn s)&&(num1 l 0))&&(decide (-32767≤i)))=true)∧(((l)==(0))=false))→v=undef),fun v _=>((((((idn s)&&(num1 l 0))&&(decide (-32767≤i)))=true)∧(((l)==(0))=false))→v=.int .i16 (i))∧(¬ (((((idn s)&&(num1 l 0))&&(decide (-32767≤i)))=true)∧(((l)==(0))=false))→v=undef),fun v _=>((((((idn s)&&(num1 l 0))&&(decide (-32767≤i)))=true)∧(((l)==(0))=false))→v=.bool ((i)==(0)))∧(¬ (((((idn s)&&(num1 l 0))&&(decide (-32767≤i)))=true)∧(((l)==(0))=false))→v=undef),fun v _=>(((((idn s)&&(num1 l 0))&&(decide (-32767≤i)))=true)→v=.bool (((l)==(0))||((i)==(0))))∧(¬ ((((idn s)&&(num1 l 0))&&(decide (-32767≤i)))=true)→v=undef),fun v _=>v=.bool ((((idn s)&&(num1 l 0))&&(decide (-32767≤i)))&&(((l)==(0))||((i)==(0)))),fun v _=>v=.bool ((((idn s)&&(num1 l 0))&&(decide (-32767≤i)))&&(((l)==(0))||((i)==(0))))] (by kernel_rfl) rfl ?_ ⟨?_,?_,?_,?_,?_,?_,?_,?_,?_,?_,?_,?_,?_,?_,?_,?_,?_,?_,?_,?_,?_,?_,?_,?_,trivial⟩ ?_
 ·exact⟨Zi,Zi,Zi,Zi,Zi,Zi,Zi,Zi,Zi,Zi,Zi,Zi,Zi,Zi,Zi,Zi,Zi,Zi,Zi,Zi,Zi,Zi,Zi,Zi,trivial⟩
 ·intro u w hR hd;exact rn_fld_62_0 (ev rfl) Zr
 ·intro u w hR hd;exact rn_ld_9 (ev (hd.1 rfl)) (d0.kept hR) Zr
 ·intro u w hR hd;exact runs_c1 en_id (ev (hd.1 rfl)) (callp (fun _ e=>e) (HIs.out _ (HGV.out.trans hR)))
 ·intro u w hR hd;exact runs_mv (ev (hd.1 rfl)) Zr
 ·intro u w hR hd;exact⟨fun hg=>have hG:((idn s)=true):=Value.bool.inj ((hd.1 rfl).symm.trans hg);rn_fld_62_1 (ev rfl) (Zs hG),Zn (hd.1 rfl)⟩
 ·intro u w hR hd;exact⟨fun hg=>have hG:((idn s)=true):=Value.bool.inj ((hd.2.1 rfl).symm.trans hg);rn_ld_3 (ev ((hd.1 rfl).1 hG)) (d1.kept hR) (Zs hG),Zn (hd.2.1 rfl)⟩
 ·intro u w hR hd;exact⟨fun hg=>have hG:((idn s)=true):=Value.bool.inj ((hd.2.1 rfl).symm.trans hg);runs_c1 en_nu (ev ((hd.1 rfl).1 hG)) (callp (fun _ e=>⟨fun _=>e,fun hn=>absurd hG hn⟩) ((isnum_any _ _).mono fun e w9 h=>⟨h.1,h.2 ▸ Grew.refl _⟩)),Zn (hd.2.1 rfl)⟩
 ·intro u w hR hd;exact runs_an (ev (hd.1 rfl)) (fun hb=>ev ((hd.2.1 rfl).1 hb)) Zr
 ·intro u w hR hd;exact runs_mv (ev (hd.1 rfl)) Zr
 ·intro u w hR hd;exact⟨fun hg=>have hG:(((idn s)&&(num1 l 0))=true):=Value.bool.inj ((hd.1 rfl).symm.trans hg);rn_fld_62_2 (ev rfl) (Zs hG),Zn (hd.1 rfl)⟩
 ·intro u w hR hd;exact⟨fun hg=>have hG:(((idn s)&&(num1 l 0))=true):=Value.bool.inj ((hd.2.1 rfl).symm.trans hg);rn_ld_32 (ev ((hd.1 rfl).1 hG)) (d2.kept hR) (Zs hG),Zn (hd.2.1 rfl)⟩
 ·intro u w hR hd;exact⟨fun hg=>have hG:(((idn s)&&(num1 l 0))=true):=Value.bool.inj ((hd.2.1 rfl).symm.trans hg);runs_c1 en_sg (ev ((hd.1 rfl).1 hG)) (callp (fun _ e=>⟨fun _=>e,fun hn=>absurd hG hn⟩) ((signed_any _ _).mono fun e w9 h=>⟨h.1,h.2 ▸ Grew.refl _⟩)),Zn (hd.2.1 rfl)⟩
 ·intro u w hR hd;exact runs_an (ev (hd.1 rfl)) (fun hb=>ev ((hd.2.1 rfl).1 hb)) Zr
 ·intro u w hR hd;exact runs_mv (ev (hd.1 rfl)) Zr
 ·intro u w hR hd;exact⟨fun hg=>have hG:((((idn s)&&(num1 l 0))&&(decide (-32767≤i)))=true):=Value.bool.inj ((hd.1 rfl).symm.trans hg);rn_fld_62_1 (ev rfl) (Zs hG),Zn (hd.1 rfl)⟩
 ·intro u w hR hd;exact⟨fun hg=>have hG:((((idn s)&&(num1 l 0))&&(decide (-32767≤i)))=true):=Value.bool.inj ((hd.2.1 rfl).symm.trans hg);rn_ld_3 (ev ((hd.1 rfl).1 hG)) (d1.kept hR) (Zs hG),Zn (hd.2.1 rfl)⟩
 ·intro u w hR hd;exact⟨fun hg=>have hG:((((idn s)&&(num1 l 0))&&(decide (-32767≤i)))=true):=Value.bool.inj ((hd.2.1 rfl).symm.trans hg);rn_eql_3 (ev ((hd.1 rfl).1 hG)) rfl (Zs hG),Zn (hd.2.1 rfl)⟩
 ·intro u w hR hd;exact⟨fun hg=>have hG:((((idn s)&&(num1 l 0))&&(decide (-32767≤i)))=true):=Value.bool.inj ((hd.2.1 rfl).symm.trans hg);runs_mv (ev ((hd.1 rfl).1 hG)) (Zs hG),Zn (hd.2.1 rfl)⟩
 ·intro u w hR hd;exact⟨fun hg=>have hP:((((idn s)&&(num1 l 0))&&(decide (-32767≤i)))=true):=Classical.byContradiction (fun hnp=>absurd (((hd.1 rfl).2 hnp).symm.trans hg) (fun h=>by first | cases h | (simp [undef] at h)));have hG:(((((idn s)&&(num1 l 0))&&(decide (-32767≤i)))=true)∧(((l)==(0))=false)):=⟨hP,Value.bool.inj (((hd.1 rfl).1 hP).symm.trans hg)⟩;rn_fld_62_2 (ev rfl) (Zs hG),fun hn=>⟨fun hG=>absurd (((hd.1 rfl).1 hG.1).trans (congrArg Value.bool hG.2)) hn,fun _=>rfl⟩⟩
 ·intro u w hR hd;exact⟨fun hg=>have hP:((((idn s)&&(num1 l 0))&&(decide (-32767≤i)))=true):=Classical.byContradiction (fun hnp=>absurd (((hd.2.1 rfl).2 hnp).symm.trans hg) (fun h=>by first | cases h | (simp [undef] at h)));have hG:(((((idn s)&&(num1 l 0))&&(decide (-32767≤i)))=true)∧(((l)==(0))=false)):=⟨hP,Value.bool.inj (((hd.2.1 rfl).1 hP).symm.trans hg)⟩;rn_ld_32 (ev ((hd.1 rfl).1 hG)) (d2.kept hR) (Zs hG),fun hn=>⟨fun hG=>absurd (((hd.2.1 rfl).1 hG.1).trans (congrArg Value.bool hG.2)) hn,fun _=>rfl⟩⟩
 ·intro u w hR hd;exact⟨fun hg=>have hP:((((idn s)&&(num1 l 0))&&(decide (-32767≤i)))=true):=Classical.byContradiction (fun hnp=>absurd (((hd.2.1 rfl).2 hnp).symm.trans hg) (fun h=>by first | cases h | (simp [undef] at h)));have hG:(((((idn s)&&(num1 l 0))&&(decide (-32767≤i)))=true)∧(((l)==(0))=false)):=⟨hP,Value.bool.inj (((hd.2.1 rfl).1 hP).symm.trans hg)⟩;rn_eql_32 (ev ((hd.1 rfl).1 hG)) rfl (Zs hG),fun hn=>⟨fun hG=>absurd (((hd.2.1 rfl).1 hG.1).trans (congrArg Value.bool hG.2)) hn,fun _=>rfl⟩⟩
 ·intro u w hR hd;exact⟨fun hg=>have hG:((((idn s)&&(num1 l 0))&&(decide (-32767≤i)))=true):=Value.bool.inj ((hd.2.2.1 rfl).symm.trans hg);runs_or2 (ev ((hd.1 rfl).1 hG)) (fun hb=>ev ((hd.2.1 rfl).1 ⟨hG,hb⟩)) (Zs hG),Zn (hd.2.2.1 rfl)⟩
 ·intro u w hR hd;exact runs_an (ev (hd.1 rfl)) (fun hb=>ev ((hd.2.1 rfl).1 hb)) Zr
 ·intro u w hR hd;exact runs_mva (ev (hd.1 rfl)) Zr
 ·intro u w4 hR hh
  have he:u 2=.bool ((((idn s)&&(num1 l 0))&&(decide (-32767≤i)))&&(((l)==(0))||((i)==(0)))):=hh 23 (by decide)
  rw [HEQ.out] at he
  simp only [mixA,mixL,zz9,zz0,he]
  have HG4:Hid (Grew w w4):=Lib.hid (HGV.out.trans hR)
  clear hh he hR d0 d1 d2 d3 HB HGV
  go_wp2
  go_ret
  exact⟨rfl,HG4.out⟩
set_option maxHeartbeats 4000000 in
theorem formH_any (s:ByteArray) (z q:Int) (w:World) (hs:s.size≤1048576) (hE:Env w) :
 Calls Tryz.prog 59 #[.agg #[.string s,.int .i64 z,.int .i64 q]] w fun e w'=>e=.returned (.bool (okH s z))∧Grew w w':=by
 have HE:=Lib.hid hE
 have HIs:=Lib.hid (fun W (hW:Grew w W)=>isid_any s hs W (HE.out.grew hW))
 have hE:((idn s)&&(num1 z 0))=okH s z:=formH_eq s z
 have HEQ:=Lib.hid hE
 clear hE
 go_enter Tryz.func59,Tryz.ntmps59
 go_upto_region 1 with fail
 have hb1:Blk w.heap.size [.string s,.int .i64 z,.int .i64 q] 64 (w.alloc (Obj.cells #[.string s,.int .i64 z,.int .i64 q] 64)):=Blk.new w _ _
 have hgV:Grew w (w.alloc (Obj.cells #[.string s,.int .i64 z,.int .i64 q] 64)):=(Grew.refl w).alloc _
 generalize (w.alloc (Obj.cells #[.string s,.int .i64 z,.int .i64 q] 64))=V at hb1 hgV ⊢
 generalize w.heap.size=T at hb1 ⊢
 have HB:=Lib.hid hb1
 have HGV:=Lib.hid hgV
 have d0:Atv ⟨T,0,none⟩ (.string s) V:=hb1.atv 0 rfl
 have d1:Atv ⟨T,1,none⟩ (.int .i64 z) V:=hb1.atv 1 rfl
 have d2:Atv ⟨T,2,none⟩ (.int .i64 q) V:=hb1.atv 2 rfl
 clear hb1 hgV
 refine wp_postsL [some 3,some 4,some 5,some 6,some 7,some 8,some 9,some 10,some 2] [false,false,true,true,true,true,true,true,true,true,true] [fun v _=>v=.pointer (some ⟨T,0,none⟩),fun v _=>v=.string s,fun v _=>v=.bool (idn s),fun v _=>v=.bool (idn s),fun v _=>(((idn s)=true)→v=.pointer (some ⟨T,1,none⟩))∧(¬ ((idn s)=true)→v=undef),fun v _=>(((idn s)=true)→v=.int .i64 (z))∧(¬ ((idn s)=true)→v=undef),fun v _=>(((idn s)=true)→v=.bool (num1 z 0))∧(¬ ((idn s)=true)→v=undef),fun v _=>v=.bool ((idn s)&&(num1 z 0)),fun v _=>v=.bool ((idn s)&&(num1 z 0))] (by kernel_rfl) rfl ?_ ⟨?_,?_,?_,?_,?_,?_,?_,?_,?_,trivial⟩ ?_
 ·exact⟨Zi,Zi,Zi,Zi,Zi,Zi,Zi,Zi,Zi,trivial⟩
 ·intro u w hR hd;exact rn_fld_64_0 (ev rfl) Zr
 ·intro u w hR hd;exact rn_ld_9 (ev (hd.1 rfl)) (d0.kept hR) Zr
 ·intro u w hR hd;exact runs_c1 en_id (ev (hd.1 rfl)) (callp (fun _ e=>e) (HIs.out _ (HGV.out.trans hR)))
 ·intro u w hR hd;exact runs_mv (ev (hd.1 rfl)) Zr
 ·intro u w hR hd;exact⟨fun hg=>have hG:((idn s)=true):=Value.bool.inj ((hd.1 rfl).symm.trans hg);rn_fld_64_1 (ev rfl) (Zs hG),Zn (hd.1 rfl)⟩
 ·intro u w hR hd;exact⟨fun hg=>have hG:((idn s)=true):=Value.bool.inj ((hd.2.1 rfl).symm.trans hg);rn_ld_3 (ev ((hd.1 rfl).1 hG)) (d1.kept hR) (Zs hG),Zn (hd.2.1 rfl)⟩
 ·intro u w hR hd;exact⟨fun hg=>have hG:((idn s)=true):=Value.bool.inj ((hd.2.1 rfl).symm.trans hg);runs_c1 en_nu (ev ((hd.1 rfl).1 hG)) (callp (fun _ e=>⟨fun _=>e,fun hn=>absurd hG hn⟩) ((isnum_any _ _).mono fun e w9 h=>⟨h.1,h.2 ▸ Grew.refl _⟩)),Zn (hd.2.1 rfl)⟩
 ·intro u w hR hd;exact runs_an (ev (hd.1 rfl)) (fun hb=>ev ((hd.2.1 rfl).1 hb)) Zr
 ·intro u w hR hd;exact runs_mva (ev (hd.1 rfl)) Zr
 ·intro u w4 hR hh
  have he:u 2=.bool ((idn s)&&(num1 z 0)):=hh 8 (by decide)
  rw [HEQ.out] at he
  simp only [mixA,mixL,zz9,zz0,he]
  have HG4:Hid (Grew w w4):=Lib.hid (HGV.out.trans hR)
  clear hh he hR d0 d1 d2 HB HGV
  go_wp2
  go_ret
  exact⟨rfl,HG4.out⟩
end Go.Proofs.YtcknpcbkofgdoaaGreatDoor
namespace Go.Proofs.YtcknpcbkofgdoaaGreatDoor
open Go Go.RowKit Go.IntWalk
set_option linter.unusedSimpArgs false
set_option linter.unusedVariables false
set_option maxRecDepth 8000
theorem okX_out {k vx ox qx:Int}{sx:ByteArray}{rx:List Xp}(h:k≤0∨7≤k):okX ⟨k,sx,vx,ox,rx,qx⟩=false:=by
 have h1:arK k=-1:=by
  have a1:k≠1:=by omega
  have a2:k≠2:=by omega
  have a3:k≠3:=by omega
  have a4:k≠4:=by omega
  have a5:k≠5:=by omega
  have a6:k≠6:=by omega
  simp [arK,a1,a2,a3,a4,a5,a6]
 have h2:((rx.length:Int) != -1)=true:=by
  rw [bne_iff_ne];omega
 rw [okX,hdX,h1,h2]
 rfl
theorem beq_dec {a b:Int}:(a==b)=decide (a=b):=by
 rw [Bool.eq_iff_iff,beq_iff_eq,decide_eq_true_eq]
theorem bne_dec {a b:Int}:(a != b)=!decide (a=b):=by
 rw [bne,beq_dec]
theorem formX_eq (kn:Nat) (h1:1≤kn) (h7:kn < 7) (sx:ByteArray) (vx ox qx:Int) (rx:List Xp) (hv:vx≤32767) :
 (((((((if (exR (kn:Int)).b then idn sx else decide (sx=⟨#[]⟩))&&(decide ((0)≤(vx))))&&(decide ((vx)≤((exR (kn:Int)).v))))&&(decide (((exR (kn:Int)).f)≤(ox))))&&(decide ((ox)≤((exR (kn:Int)).l))))&&((((rx.length:Nat):Int))==((exR (kn:Int)).n)))&&(rx.all okX))=okX ⟨(kn:Int),sx,vx,ox,rx,qx⟩:=by
 rw [okX,okXs_lall]
 have hk:kn=1∨kn=2∨kn=3∨kn=4∨kn=5∨kn=6:=by omega
 simp only [beq_dec]
 generalize rx.all okX=R
 generalize hn:rx.length=n
 generalize hs:decide (sx=⟨#[]⟩)=E
 rcases hk with rfl | rfl | rfl | rfl | rfl | rfl
 ·have r:exR ((1:Nat):Int)=⟨false,32767,0,0,0⟩:=rfl
  have a:hdX ((1:Nat):Int) sx vx ox n=!(((((n:Int) != 0)||!decide (sx=⟨#[]⟩))||(vx != vx))||(ox != 0)):=rfl
  have b:kdX ((1:Nat):Int) sx vx ox=decide (0≤vx):=rfl
  rw [r,a,b,hs,bne_dec,bne_dec,bne_dec,decide_eq_true hv]
  rw [Bool.eq_iff_iff]
  cases R <;> cases E <;> simp <;> omega
 ·have r:exR ((2:Nat):Int)=⟨true,0,0,0,0⟩:=rfl
  have a:hdX ((2:Nat):Int) sx vx ox n=!(((((n:Int) != 0)||!decide (sx=sx))||(vx != 0))||(ox != 0)):=rfl
  have b:kdX ((2:Nat):Int) sx vx ox=idn sx:=rfl
  rw [r,a,b,bne_dec,bne_dec,bne_dec]
  rw [Bool.eq_iff_iff]
  cases R <;> cases hD:idn sx <;> simp <;> omega
 ·have r:exR ((3:Nat):Int)=⟨true,0,0,0,1⟩:=rfl
  have a:hdX ((3:Nat):Int) sx vx ox n=!(((((n:Int) != 1)||!decide (sx=sx))||(vx != 0))||(ox != 0)):=rfl
  have b:kdX ((3:Nat):Int) sx vx ox=idn sx:=rfl
  rw [r,a,b,bne_dec,bne_dec,bne_dec]
  rw [Bool.eq_iff_iff]
  cases R <;> cases hD:idn sx <;> simp <;> omega
 ·have r:exR ((4:Nat):Int)=⟨true,0,0,0,0⟩:=rfl
  have a:hdX ((4:Nat):Int) sx vx ox n=!(((((n:Int) != 0)||!decide (sx=sx))||(vx != 0))||(ox != 0)):=rfl
  have b:kdX ((4:Nat):Int) sx vx ox=idn sx:=rfl
  rw [r,a,b,bne_dec,bne_dec,bne_dec]
  rw [Bool.eq_iff_iff]
  cases R <;> cases hD:idn sx <;> simp <;> omega
 ·have r:exR ((5:Nat):Int)=⟨false,0,1,2,1⟩:=rfl
  have a:hdX ((5:Nat):Int) sx vx ox n=!(((((n:Int) != 1)||!decide (sx=⟨#[]⟩))||(vx != 0))||(ox != ox)):=rfl
  have b:kdX ((5:Nat):Int) sx vx ox=(ox==1||ox==2):=rfl
  rw [r,a,b,hs,bne_dec,bne_dec,bne_dec,beq_dec,beq_dec]
  rw [Bool.eq_iff_iff]
  cases R <;> cases E <;> simp <;> omega
 ·have r:exR ((6:Nat):Int)=⟨false,0,3,15,2⟩:=rfl
  have a:hdX ((6:Nat):Int) sx vx ox n=!(((((n:Int) != 2)||!decide (sx=⟨#[]⟩))||(vx != 0))||(ox != ox)):=rfl
  have b:kdX ((6:Nat):Int) sx vx ox=(decide (3≤ox)&&decide (ox≤15)):=rfl
  rw [r,a,b,hs,bne_dec,bne_dec,bne_dec]
  rw [Bool.eq_iff_iff]
  cases R <;> cases E <;> simp <;> omega
end Go.Proofs.YtcknpcbkofgdoaaGreatDoor
