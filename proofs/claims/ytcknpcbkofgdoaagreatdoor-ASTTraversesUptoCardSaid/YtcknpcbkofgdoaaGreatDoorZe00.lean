/-
  A REGION THAT DRAWS ITS ORDER, BY POSTS: one claim for each operation, about the value that it yields; each is shown once, from the claims of the operations that it waits for. The work is linear in the operations, whatever the orders.
  THE OPERATIONS OF A REGION BY POSTS: moves, picks, calls (any program).
  SLICES OF STRUCTS OF WHATEVER FLAT SHAPE (any program): how they lie, that they stay, how an argument of such a type opens. Nothing of the program stands here.
  SLICES OF BYTES, over whatever program: how they lie, that they stay, what is read, cut, converted and appended. Nothing of the program stands here.
  WORLDS OF WHICH ONLY NAMED BLOCKS HAVE CHANGED (any program): what stays; a store to a cell of a block whose cells are known.
  SLICES OF STRUCTS OF WHATEVER FLAT SHAPE (any program): given ones (Rw) and those that the call itself has made (OwR): how they lie, that they stay, what is read, cut, made, stored and appended. Nothing of the program stands here.
  A REGION THAT DRAWS ITS ORDER, BY POSTS, AND ITS LAST OPERATIONS ONE AFTER THE OTHER (stores, assignments, that wait for all of the others).
  BLOCKS OF WHICH ALL CELLS ARE KNOWN, and drawn regions that make memory and end in a store (any program).
  A REGION THAT DRAWS ITS ORDER, BY POSTS, WITH ONE OPERATION THAT WRITES (number i0): the others leave the memory as it was (Rn), it changes it (R); the claims of the operations that come behind it (lt) are kept by Rn alone.
  A REGION THAT DRAWS ITS ORDER, BY POSTS, WITH SOME OPERATIONS (L) THAT ONLY READ SLOTS AND FOR WHICH THE LAST PART NEED NOT WAIT (any program; over XPostsSideW, with no writing operation).
  A REGION THAT DRAWS ITS ORDER, BY POSTS, WITH A TAIL: operations that nothing of the tail waits for (moves) are taken first.
  THE OPERATIONS OF A REGION BY POSTS, the part that is of no program: moves, picks, calls; worlds that grow through a walk; cells that stay (own text; out of XIntervalOps and XRmOps).
  APPEND TO A ROW OF THE CALL's OWN, INSIDE A FENCE (any program). Nothing of the program stands here.
  APPEND TO A ROW OF THE CALL's OWN as an operation of a region that draws: it says where the new row lies (any program). Nothing of the program stands here.
  RANGES OVER A FUNCTION (any program), as EachP; what is fresh (Fr) may speak of the world: the iterator names the blocks that the body must keep (P): it may change those of them that are new (from N on), and no others; a round is told what has come so far. The law for the loop. Nothing of the program stands here.
  A CALL OF A FUNCTION VALUE THAT IS NOT KNOWN (any program): of the program's closure or of a loop's yield. Nothing of one program stands here.
  SYNTAX TREES (any program of this project): expressions, statements, programs as plain data; how they lie in memory. Nothing of one program stands here.
  LISTS OF NODES OF THE CALL's OWN (any program): a row that the call has made, whose elements are nodes of trees; append to it. Nothing of one program stands here.
-/
import Derived.Test.YtcknpcbkofgdoaaGreatDoorZeShort
import Derived.Orders
import Derived.Laws.World
import Derived.Below
import Derived.WalkKit
import Derived.Deep.SlicePairs
import Derived.Deep.Strs
import Derived.Lib.SmallJoins
import Derived.Lib.Hide
import Derived.Laws.BytesArg
import Derived.Laws.IdiomStrings
import Derived.Lib.SlBytesConst
import Derived.Laws.AppendOwnNone
import Derived.ProofKit
import Derived.Laws.Rows
import Derived.Maps.AppendAt
import Derived.Laws.OwnMore
import Derived.WalkSpells
import Derived.WalkLawsBesides
import Derived.OwnWalkIn
import Derived.TacticsInMore
import Derived.RangeFuncIn
import Derived.RangeFuncRecord
import Derived.RangeFuncLeaves
import Derived.RangeFuncSeq
namespace Go.Proofs.YtcknpcbkofgdoaaGreatDoor
open Go
def mixL:List Bool→List Value→(Nat→Value)→Nat→List Value
 | d :: ds,v :: vs,u,t=>(bif d then u t else v) :: mixL ds vs u (t+1)
 | [],vs,_,_=>vs
 | _,[],_,_=>[]
def mixA (D:List Bool) (a0:Act) (u:Nat→Value):Act:={ tmps:=(mixL D a0.tmps.toList u 0).toArray,defers:=a0.defers }
theorem mixL_set:∀(D:List Bool) (vs:List Value) (u:Nat→Value) (t d:Nat) (v:Value),D.length=vs.length→D.getD d false=true →
 (mixL D vs u t).set d v=mixL D vs (fun k=>if k=t+d then v else u k) t
 | [],_,_,_,_,_,_,h=>by simp at h
 | _ :: _,[],_,_,_,_,h,_=>by simp at h
 | b :: ds,x :: vs,u,t,0,v,h,hd=>by
   have hb:b=true:=by simpa using hd
   subst hb
   simp only [mixL,zz5,Nat.add_zero,zz9,if_true]
   congr 1
   exact mixL_congr ds vs _ _ (t+1) fun k hk=>by rw [if_neg (by omega)]
 | b :: ds,x :: vs,u,t,d+1,v,h,hd=>by
   have ih:=mixL_set ds vs u (t+1) d v (by simpa using h) (by simpa using hd)
   simp only [mixL,zz6]
   rw [ih]
   have e:t+1+d=t+(d+1):=by omega
   rw [e]
   congr 1
   cases b with
   | false=>rfl
   | true=>simp
where
 mixL_congr:∀(D:List Bool) (vs:List Value) (u u':Nat→Value) (t:Nat),(∀k,t≤k→u k=u' k)→mixL D vs u t=mixL D vs u' t
 | [],_,_,_,_,_=>rfl
 | _ :: _,[],_,_,_,_=>rfl
 | b :: ds,x :: vs,u,u',t,h=>by
   simp only [mixL]
   rw [h t (Nat.le_refl _),mixL_congr ds vs u u' (t+1) fun k hk=>h k (by omega)]
theorem mixL_get:∀(D:List Bool) (vs:List Value) (u:Nat→Value) (t d:Nat),D.length=vs.length→D.getD d false=true→(mixL D vs u t)[d]?=some (u (t+d))
 | [],_,_,_,_,_,h=>by simp at h
 | _ :: _,[],_,_,_,h,_=>by simp at h
 | b :: ds,x :: vs,u,t,0,h,hd=>by
   have hb:b=true:=by simpa using hd
   subst hb
   simp [mixL]
 | b :: ds,x :: vs,u,t,d+1,h,hd=>by
   have ih:=mixL_get ds vs u (t+1) d (by simpa using h) (by simpa using hd)
   simp only [mixL,zz8,ih]
   congr 2
   omega
theorem mixL_self:∀(D:List Bool) (vs:List Value) (u:Nat→Value) (t:Nat),(∀k,k < vs.length→u (t+k)=vs.getD k undef)→mixL D vs u t=vs
 | [],_,_,_,_=>rfl
 | _ :: _,[],_,_,_=>rfl
 | b :: ds,x :: vs,u,t,h=>by
   simp only [mixL]
   have h0:=h 0 (by simp)
   simp at h0
   rw [mixL_self ds vs u (t+1) fun k hk=>by have:=h (k+1) (by simp;omega);rw [show t+(k+1)=t+1+k by omega] at this;simpa using this]
   cases b with
   | false=>rfl
   | true=>simp [h0]
def uval (sl:List (Option Nat)) (u:Nat→Value) (j:Nat):Value:=match sl.getD j none with | some d=>u d | none=>undef
def Runs (P:Program) (o:Oper) (a:Act) (w:World) (T:Value→World→Prop):Prop :=
 ∀(K:Act→World→Prop) (Q:Exit→Act→World→Prop),(∀v w',T v w'→K (a.put o.dst v) w')→o.wp P a w K Q
theorem Runs.value {P:Program}{o:Oper}{a:Act}{w w':World}{T:Value→World→Prop}{v:Value}(h:(execOp a.eval o).run P w=.ok (.value v) w') (ht:T v w'):Runs P o a w T:=fun K Q hk=>by
 unfold Oper.wp
 rw [h]
 exact hk _ _ ht
theorem Runs.skip {P:Program}{o:Oper}{a:Act}{w w':World}{T:Value→World→Prop}(h:(execOp a.eval o).run P w=.ok .skip w') (ht:T undef w'):Runs P o a w T:=fun K Q hk=>by
 unfold Oper.wp
 rw [h]
 exact hk _ _ ht
theorem Runs.call {P:Program}{o:Oper}{a:Act}{w w':World}{T:Value→World→Prop}{f:FuncId}{args:Array Value}(h:(execOp a.eval o).run P w=.ok (.enter f args) w')
 (ht:Calls P f args w' fun e w''=>∃v,e=.returned v∧T v w''):Runs P o a w T:=fun K Q hk=>by
 unfold Oper.wp
 rw [h]
 rw [Oper.upon_enter]
 refine ht.mono ?_
 rintro e w'' ⟨v,rfl,h⟩
 exact hk _ _ h
def deps (F:Nat→Value→World→Prop) (sl:List (Option Nat)) (u:Nat→Value) (w:World):List Edge→Prop
 | []=>True
 | e :: es=>(Region.binds .any e=true→F e.on (uval sl u e.on) w)∧deps F sl u w es
theorem deps_of {F:Nat→Value→World→Prop}{sl:List (Option Nat)}{u:Nat→Value}{w:World}:∀{es:List Edge},(∀e ∈ es,Region.binds .any e=true→F e.on (uval sl u e.on) w)→deps F sl u w es
 | [],_=>trivial
 | e :: _,h=>⟨h e (by simp),deps_of fun e' he'=>h e' (by simp [he'])⟩
def StepOk (P:Program) (R:World→World→Prop) (F:Nat→Value→World→Prop) (sl:List (Option Nat)) (i:Nat) (o:Oper) (u:Nat→Value) (a:Act) (w:World):Prop :=
 match o.guard with
 | none=>Runs P o a w fun v w'=>R w w'∧F i (match o.dst with | some _=>v | none=>undef) w'
 | some (g,b)=>(uval sl u g=.bool b→Runs P o a w fun v w'=>R w w'∧F i (match o.dst with | some _=>v | none=>undef) w')∧(uval sl u g≠.bool b→F i undef w)
def Steps (P:Program) (R:World→World→Prop) (F:Nat→Value→World→Prop) (sl:List (Option Nat)) (A:(Nat→Value)→Act) (w0:World):Nat→List Oper→Prop
 | _,[]=>True
 | i,o :: os=>(∀u w,R w0 w→deps F sl u w o.after.toList→StepOk P R F sl i o u (A u) w)∧Steps P R F sl A w0 (i+1) os
theorem Steps.at {P:Program}{R:World→World→Prop}{F:Nat→Value→World→Prop}{sl:List (Option Nat)}{A:(Nat→Value)→Act}{w0:World}:∀{n:Nat}{os:List Oper},Steps P R F sl A w0 n os →
 ∀{i:Nat}{o:Oper},os[i]?=some o→∀u w,R w0 w→deps F sl u w o.after.toList→StepOk P R F sl (n+i) o u (A u) w
 | _,[],_,_,_,h=>by simp at h
 | n,o :: os,h,0,_,e=>by
   obtain rfl:o=_:=by simpa using e
   exact h.1
 | n,o :: os,h,i+1,o',e=>by
   have:=Steps.at h.2 (i:=i) (by simpa using e)
   rwa [show n+1+i=n+(i+1) by omega] at this

def nodupB:List Nat→Bool
 | []=>true
 | x :: xs=>!xs.contains x&&nodupB xs
def regionOk (ops:Array Oper) (sl:List (Option Nat)) (D:List Bool):Bool :=
 (ops.toList.map (·.dst)==sl)&&nodupB (sl.filterMap id)&&(sl.filterMap id).all (fun d=>D.getD d false) &&
 ops.toList.all (fun o=>match o.guard with | none=>true | some (g,_)=>(sl.getD g none).isSome) &&
 (List.range ops.size).all (fun i=>match ops[i]? with | none=>true | some o=>o.after.toList.all fun e=>!Region.binds .any e||decide (e.on < i))
theorem nodup_ne:∀{sl:List (Option Nat)},nodupB (sl.filterMap id)=true→∀{i j d:Nat},sl.getD i none=some d→sl.getD j none=some d→i=j
 | [],_,_,_,_,h,_=>by simp at h
 | x :: xs,hn,i,j,d,hi,hj=>by
   have tail:nodupB (xs.filterMap id)=true:=by
    cases x with
    | none=>simpa using hn
    | some y=>simp [nodupB] at hn;exact hn.2
   have notin:x=some d→∀k,xs.getD k none≠some d:=fun e k hk=>by
    subst e
    simp [nodupB] at hn
    have hm:some d ∈ xs:=by
     rw [List.getD_eq_getElem?_getD] at hk
     cases hx:xs[k]? with
     | none=>simp [hx] at hk
     | some y=>simp [hx] at hk;subst hk;exact List.mem_of_getElem? hx
    exact hn.1 hm
   cases i with
   | zero =>
     cases j with
     | zero=>rfl
     | succ j=>exact absurd (by simpa using hj) (notin (by simpa using hi) j)
   | succ i =>
     cases j with
     | zero=>exact absurd (by simpa using hi) (notin (by simpa using hj) i)
     | succ j=>rw [nodup_ne tail (i:=i) (j:=j) (d:=d) (by simpa using hi) (by simpa using hj)]

section
variable {P:Program}{ops:Array Oper}{Q:Exit→Act→World→Prop}{R:World→World→Prop}{F:Nat→Value→World→Prop}{sl:List (Option Nat)}{D:List Bool}{a0:Act}{w0:World}
theorem sl_at (hsl:ops.toList.map (·.dst)=sl){i:Nat}{o:Oper}(h:ops[i]?=some o):sl.getD i none=o.dst:=by
 rw [← hsl,List.getD_eq_getElem?_getD,List.getElem?_map]
 simp [h]
theorem posts_go (hok:regionOk ops sl D=true) (hD:D.length=a0.tmps.size) (hrr:∀w,R w w) (hrt:∀{a b c},R a b→R b c→R a c) (hF:∀i v w w',R w w'→F i v w→F i v w')
 (hs:Steps P R F sl (mixA D a0) w0 0 ops.toList) (hend:∀u w,R w0 w→(∀i,i < ops.size→F i (uval sl u i) w)→Q .normal (mixA D a0 u) w) :
 ∀(fuel:Nat) (listed:Array Bool) (u:Nat→Value) (w:World),listed.size=ops.size→listed.toList.count false≤fuel→R w0 w →
  (∀i,listed.getD i false=true→F i (uval sl u i) w)→wpAny P .any ops Q fuel listed (mixA D a0 u) w:=by
 simp only [regionOk,Bool.and_eq_true,beq_iff_eq,List.all_eq_true] at hok
 obtain ⟨⟨⟨⟨hsl,hnd⟩,hDs⟩,hgs⟩,hac⟩:=hok
 have hacyc:∀i,i < ops.size→∀o,ops[i]?=some o→∀e ∈ o.after,Region.binds .any e=true→e.on < i:=fun i hi o ho e he hb=>by
  have:=hac i (List.mem_range.2 hi)
  simp only [ho,List.all_eq_true] at this
  have:=this e (Array.mem_toList_iff.2 he)
  simpa [hb] using this
 intro fuel
 induction fuel with
 | zero =>
   intro listed u w hsz hc hR hp
   have hall:∀i,i < ops.size→listed.getD i false=true:=fun i hi=>by
    have h0:listed.toList.count false=0:=by omega
    rw [List.count_eq_zero] at h0
    have hlt:i < listed.size:=by omega
    cases hb:listed[i] with
    | true=>simp [hlt,hb]
    | false=>exact absurd (by rw [← hb];exact Array.getElem_mem_toList hlt) h0
   refine⟨?_,hend u w hR fun i hi=>hp i (hall i hi)⟩
   rw [List.eq_nil_iff_forall_not_mem]
   intro j hj
   obtain ⟨h0,o,ho,_⟩:=mem_ready.1 hj
   have hj':=(Array.getElem?_eq_some_iff.1 ho).1
   have:=hall j hj'
   have hlt:j < listed.size:=by omega
   simp [hlt] at h0 this
   rw [h0] at this
   cases this
 | succ fuel ih =>
   intro listed u w hsz hc hR hp
   have hdone:Region.ready .any ops listed=[]→∀i,i < ops.size→listed.getD i false=true:=fun hr=>by
    intro i
    induction i using Nat.strongRecOn with
    | ind i ihi =>
      intro hi
      cases hl:listed.getD i false with
      | true=>rfl
      | false =>
        exfalso
        have hlt:i < listed.size:=by omega
        have:i ∈ Region.ready .any ops listed:=mem_ready.2 ⟨by simp [hlt] at hl ⊢;exact hl,ops[i],by simp [hi],fun e he hb=>ihi e.on (hacyc i hi _ (by simp [hi]) e he hb) (by have:=hacyc i hi _ (by simp [hi]) e he hb;omega)⟩
        rw [hr] at this
        cases this
   refine⟨fun hr=>hend u w hR fun i hi=>hp i (hdone hr i hi),fun i hi=>?_⟩
   obtain ⟨hun,o,ho,hall⟩:=mem_ready.1 hi
   have hilt:=(Array.getElem?_eq_some_iff.1 ho).1
   have hstep:=hs.at (i:=i) (o:=o) (by simpa using ho) u w hR (deps_of fun e he hb=>hp e.on (hall e (by simpa using he) hb))
   rw [Nat.zero_add] at hstep
   have hslo:=sl_at hsl ho
   have hlt:i < listed.size:=by omega
   have hlf:listed[i]=false:=by simpa [hlt] using hun
   have hcnt:(listed.setIfInBounds i true).toList.count false≤fuel:=by
    have e1:(listed.setIfInBounds i true).toList=listed.toList.set i true:=by simp
    have e2:=List.count_set (l:=listed.toList) (a:=true) (b:=false) (i:=i) (by simpa using hlt)
    rw [e1,e2]
    have e3:0 < listed.toList.count false:=List.count_pos_iff.2 (by rw [← hlf];exact Array.getElem_mem_toList hlt)
    have e4:(listed.toList[i]'(by simpa using hlt)==false)=true:=by simp [hlf]
    have e5:(true==false)=false:=rfl
    simp only [e4,e5,if_true,Bool.false_eq_true,if_false] at e2 ⊢
    omega
   -- the next state
   have next:∀(v:Value) (w':World),R w w'→F i (match o.dst with | some _=>v | none=>undef) w'→wpAny P .any ops Q fuel (listed.setIfInBounds i true) ((mixA D a0 u).put o.dst v) w':=by
    intro v w' hr' hfi
    cases hd:o.dst with
    | none =>
      rw [hd] at hfi hslo
      refine ih _ u w' (by simpa using hsz) hcnt (hrt hR hr') (fun k hk=>?_)
      ·by_cases hki:k=i
       ·subst hki
        have:uval sl u k=undef:=by simp only [uval,hslo]
        rw [this];exact hfi
       ·exact hF _ _ _ _ hr' (hp k (by rw [getD_set_ne false (Ne.symm hki)] at hk;exact hk))
    | some d =>
      rw [hd] at hfi hslo
      have hDd:D.getD d false=true:=hDs d (by
       rw [List.mem_filterMap]
       refine⟨some d,?_,rfl⟩
       rw [List.getD_eq_getElem?_getD] at hslo
       cases hx:sl[i]? with
       | none=>simp [hx] at hslo
       | some y=>simp [hx] at hslo;subst hslo;exact List.mem_of_getElem? hx)
      have hput:(mixA D a0 u).put (some d) v=mixA D a0 (fun k=>if k=d then v else u k):=by
       have hm:=mixL_set D a0.tmps.toList u 0 d v (by simpa using hD) hDd
       simp only [Nat.zero_add] at hm
       simp only [mixA,Act.put,zz4,hm]
      rw [hput]
      refine ih _ _ w' (by simpa using hsz) hcnt (hrt hR hr') (fun k hk=>?_)
      ·by_cases hki:k=i
       ·subst hki
        have:uval sl (fun k=>if k=d then v else u k) k=v:=by simp only [uval,hslo,if_true]
        rw [this];exact hfi
       ·have hk':=hp k (by rw [getD_set_ne false (Ne.symm hki)] at hk;exact hk)
        have:uval sl (fun k=>if k=d then v else u k) k=uval sl u k:=by
         unfold uval
         cases hx:sl.getD k none with
         | none=>rfl
         | some d' =>
           have:d'≠d:=fun e=>hki (nodup_ne hnd (by rw [hx,e]) hslo)
           simp only [if_neg this]
        rw [this]
        exact hF _ _ _ _ hr' hk'
   -- the guard
   unfold wpOp
   simp only [ho]
   cases hg:o.guard with
   | none =>
     have hw:Region.wanted o (yielded ops (mixA D a0 u).tmps)=true:=by simp [Region.wanted,hg]
     rw [if_pos hw]
     simp only [StepOk,hg] at hstep
     exact .inl (hstep _ _ fun v w' h=>next v w' h.1 h.2)
   | some gb =>
     obtain ⟨g,b⟩:=gb
     simp only [StepOk,hg] at hstep
     have hgsome:=hgs o (by exact Array.mem_toList_iff.2 (Array.mem_of_getElem? ho))
     simp only [hg] at hgsome
     obtain ⟨gs,hgs'⟩:=Option.isSome_iff_exists.1 hgsome
     have hDg:D.getD gs false=true:=hDs gs (by
      rw [List.mem_filterMap]
      refine⟨some gs,?_,rfl⟩
      rw [List.getD_eq_getElem?_getD] at hgs'
      cases hx:sl[g]? with
      | none=>simp [hx] at hgs'
      | some y=>simp [hx] at hgs';subst hgs';exact List.mem_of_getElem? hx)
     have hgo:((ops[g]?).bind (·.dst))=some gs:=by
      cases hog:ops[g]? with
      | none =>
        rw [← hsl,List.getD_eq_getElem?_getD,List.getElem?_map] at hgs'
        simp [hog] at hgs'
      | some og=>have:=sl_at hsl hog;rw [hgs'] at this;simpa using this.symm
     have hy:yielded ops (mixA D a0 u).tmps g=match u gs with | .bool b=>some b | _=>none:=by
      unfold yielded
      rw [hgo]
      have hm:=mixL_get D a0.tmps.toList u 0 gs (by simpa using hD) hDg
      rw [Nat.zero_add] at hm
      simp only [mixA,Option.bind_some,List.getElem?_toArray,hm]
      cases u gs <;> rfl
     have huv:uval sl u g=u gs:=by simp only [uval,hgs']
     rw [huv] at hstep
     by_cases hb:u gs=.bool b
     ·have hw:Region.wanted o (yielded ops (mixA D a0 u).tmps)=true:=by simp [Region.wanted,hg,hy,hb]
      rw [if_pos hw]
      exact .inl (hstep.1 hb _ _ fun v w' h=>next v w' h.1 h.2)
     ·have hw:¬ Region.wanted o (yielded ops (mixA D a0 u).tmps)=true:=by
       simp only [Region.wanted,hg,hy]
       intro h
       apply hb
       revert h
       cases u gs <;> simp
      rw [if_neg hw]
      refine next undef w ?_ ?_
      ·exact hrr w
      ·have:=hstep.2 hb
       cases o.dst <;> exact this
theorem wp_region_posts {id:Nat}(sl:List (Option Nat)) (D:List Bool) (R:World→World→Prop) (F:Nat→Value→World→Prop) (hm:P.follows .mixedOrders=true) (hok:regionOk ops sl D=true) (hD:D.length=a0.tmps.size)
 (hrr:∀w,R w w) (hrt:∀{a b c},R a b→R b c→R a c) (hF:∀i v w w',R w w'→F i v w→F i v w')
 (hs:Steps P R F sl (mixA D a0) w0.drew 0 ops.toList) (hend:∀u w,R w0.drew w→(∀i,i < ops.size→F i (uval sl u i) w)→Q .normal (mixA D a0 u) w):(Code.region id ops true).wp P Q a0 w0:=by
 refine wp_region_any hm ?_
 have h0:mixA D a0 (fun t=>a0.tmps.getD t undef)=a0:=by
  unfold mixA
  rw [mixL_self D a0.tmps.toList _ 0 fun k hk=>by simp]
 have:=posts_go (P:=P) (ops:=ops) (Q:=Q) hok hD hrr hrt hF hs hend ops.size (Array.replicate ops.size false) (fun t=>a0.tmps.getD t undef) w0.drew (by simp) (by simp) (hrr _) (fun i hi=>by
  by_cases h:i < ops.size <;> simp [h] at hi)
 rw [h0] at this
 exact this
end
end Go.Proofs.YtcknpcbkofgdoaaGreatDoor
namespace Go.Proofs.YtcknpcbkofgdoaaGreatDoor
open Go Go.RowKit

section
variable {P:Program}{dst:Option Tmp}{ty:TypeId}{pos:String}{after:Array Edge}{g:Option (Nat × Bool)}{a:Act}{w:World}{T:Value→World→Prop}
def slot (a:Act) (n:Nat):Value:=a.tmps.toList.getD n undef
theorem slot_eval (a:Act) (n:Nat):a.eval (.tmp n)=slot a n:=by simp [slot,Act.eval]
theorem slot_get (a:Act) (n:Nat):a.tmps[n]?.getD undef=slot a n:=by simp [slot]
def Enters (P:Program) (f:FuncId):Prop:=∀(args:Array Value) (w:World),Sem.run P (callFunc f args) w=.ok (.enter f args) w
theorem runs_call {f:FuncId}{xs:Array Operand}{ts:Array TypeId}{vs:Array Value}(hf:Enters P f) (hx:xs.map a.eval=vs) (h:Calls P f vs w fun e w''=>∃v,e=.returned v∧T v w''):Runs P ⟨dst,.call { callee:=.value (.func f),args:=xs,argTypes:=ts },ty,pos,after,g⟩ a w T:=by
 refine Runs.call (f:=f) (args:=vs) (w':=w) ?_ h
 have e:execOp a.eval ⟨dst,.call { callee:=.value (.func f),args:=xs,argTypes:=ts },ty,pos,after,g⟩=(do let d ← resolve a.eval { callee:=.value (.func f),args:=xs,argTypes:=ts } ty;invoke d.target d.args):=rfl
 rw [e]
 have e2:resolve a.eval { callee:=.value (.func f),args:=xs,argTypes:=ts } ty=Deferred.ofValue (.func (.func f) #[] #[]) vs:=by rw [← hx];rfl
 rw [e2]
 have e3:(Deferred.ofValue (.func (.func f) #[] #[]) vs:Sem Deferred)=pure { target:=.fn (.func f) #[],args:=#[]++vs }:=rfl
 rw [e3]
 have:=hf vs w
 simpa [invoke,go_sem] using this
end
def Grew (w w':World):Prop:=Below w.heap.size w w'
theorem Grew.refl (w:World):Grew w w:=Below.refl _ _
theorem Grew.trans {a b c:World}(h:Grew a b) (h':Grew b c):Grew a c:=Below.trans h (Below.mono h' h.size)
theorem Grew.drew (w:World):Grew w w.drew:=(Below.refl _ _).drew
def postAt (ps:List (Value→World→Prop)) (i:Nat):Value→World→Prop:=ps.getD i (fun _ _=>True)
def Monos:List (Value→World→Prop)→Prop
 | []=>True
 | p :: ps=>(∀v w w',Grew w w'→p v w→p v w')∧Monos ps
theorem Monos.at:∀{ps:List (Value→World→Prop)},Monos ps→∀(i:Nat) (v:Value) (w w':World),Grew w w'→postAt ps i v w→postAt ps i v w'
 | [],_,_,_,_,_,_,_=>trivial
 | _ :: _,h,0,v,w,w',hg,hp=>h.1 v w w' hg hp
 | _ :: ps,h,i+1,v,w,w',hg,hp=>Monos.at (ps:=ps) h.2 i v w w' hg hp
section
variable {P:Program}{id:Nat}{ops:Array Oper}{Q:Exit→Act→World→Prop}{a0:Act}{w0:World}
theorem wp_posts (sl:List (Option Nat)) (D:List Bool) (ps:List (Value→World→Prop)) (hm:P.follows .mixedOrders=true) (hok:regionOk ops sl D=true) (hD:D.length=a0.tmps.size) (hps:Monos ps)
 (hs:Steps P Grew (postAt ps) sl (mixA D a0) w0.drew 0 ops.toList) (hend:∀u w,Grew w0.drew w→(∀i,i < ops.size→postAt ps i (uval sl u i) w)→Q .normal (mixA D a0 u) w):(Code.region id ops true).wp P Q a0 w0 :=
 wp_region_posts sl D Grew (postAt ps) hm hok hD Grew.refl Grew.trans hps.at hs hend
end
end Go.Proofs.YtcknpcbkofgdoaaGreatDoor
namespace Go.Proofs.YtcknpcbkofgdoaaGreatDoor
open Go Go.RowKit Go.ChangeShapes Go.WideShapes Go.ChangeAt
set_option linter.unusedSimpArgs false
structure RdL {α:Type}(k:Nat) (enc:α→List Value) (w:World) (p:Option Addr) (c:Nat) (xs:List α):Prop where
 cap:xs.length≤c
 max:c≤9223372036854775807
 cells:0 < xs.length→∃b o,p=some ⟨b,o,none⟩∧∀i x,xs[i]?=some x→∀j v,(enc x)[j]?=some v→w.cell? ⟨b,o+i * k+j,none⟩=some v
theorem RdL.kept {α:Type}{k:Nat}{enc:α→List Value}{w w':World}{p:Option Addr}{c:Nat}{xs:List α}(h:RdL k enc w p c xs) (hb:Grew w w'):RdL k enc w' p c xs :=
 ⟨h.cap,h.max,fun hn=>by
  obtain ⟨b,o,rfl,hc⟩:=h.cells hn
  exact⟨b,o,rfl,fun i x hx j v hv=>(Below.cell hb (p:=⟨b,_,none⟩) (World.block_lt_of_cell? _ _ (hc i x hx j v hv))).trans (hc i x hx j v hv)⟩⟩
theorem RdL.nil {α:Type}(k:Nat) (enc:α→List Value) (w:World) (p:Option Addr) (c:Nat) (hc:c≤9223372036854775807):RdL k enc w p c ([]:List α):=⟨Nat.zero_le _,hc,fun h=>absurd h (Nat.lt_irrefl 0)⟩
inductive LK where
 | int (k:IntKind)
 | bool
 | str
def OkLeaf:LK→Value→Prop
 | .int k,v=>∃n,v=.int k n∧(Lit.int k n).wf=true
 | .bool,v=>∃b,v=.bool b
 | .str,v=>∃s,v=.string s∧s.size≤maxLen
inductive Rowed:List LK→List Value→Prop where
 | nil:Rowed [] []
 | cons {k:LK}{ks:List LK}{v:Value}{vs:List Value}(h:OkLeaf k v) (t:Rowed ks vs):Rowed (k :: ks) (v :: vs)
theorem Rowed.append {a b:List LK}{x y:List Value}(h:Rowed a x) (h':Rowed b y):Rowed (a++b) (x++y):=by
 induction h with
 | nil=>exact h'
 | cons h _ ih=>exact .cons h ih
theorem Rowed.len {a:List LK}{x:List Value}(h:Rowed a x):x.length=a.length:=by
 induction h with
 | nil=>rfl
 | cons _ _ ih=>simp [ih]
section
variable {H:Type}{enc:TypeId × Value→H}{P:Program}{W:World}{base:Nat}{spare:Nat→Bool}{held:Bool}
end
end Go.Proofs.YtcknpcbkofgdoaaGreatDoor
namespace Go.Proofs.YtcknpcbkofgdoaaGreatDoor
open Go Go.RowKit Go.ChangeShapes Go.WideShapes Go.ChangeAt
def bv (c:UInt8):Value:=.int .u8 (c.toNat:Int)
structure Bin (w:World) (p:Option Addr) (c:Nat) (xs:List UInt8):Prop where
 cap:xs.length≤c
 max:c≤9223372036854775807
 bare:p=none→c=0
 cells:0 < xs.length→∃b o,p=some ⟨b,o,none⟩∧∀i,i < xs.length→w.cell? ⟨b,o+i,none⟩=some (bv (xs.getD i 0))

theorem Bin.nil (w:World):Bin w none 0 []:=⟨Nat.le_refl _,by omega,fun _=>rfl,fun h=>absurd h (Nat.lt_irrefl 0)⟩
theorem Bin.lt {w:World}{b o c:Nat}{xs:List UInt8}(h:Bin w (some ⟨b,o,none⟩) c xs) (hn:0 < xs.length):b < w.heap.size:=by
 obtain ⟨b',o',hp,hc⟩:=h.cells hn
 obtain ⟨rfl,rfl⟩:b=b'∧o=o':=by simpa using hp
 exact World.block_lt_of_cell? _ _ (hc 0 hn)
theorem Bin.cell {w:World}{b o c:Nat}{xs:List UInt8}(h:Bin w (some ⟨b,o,none⟩) c xs) (i:Nat) (hi:i < xs.length):w.cell? ⟨b,o+i,none⟩=some (.int .u8 ((xs.getD i 0).toNat:Int)):=by
 obtain ⟨b',o',hp,hc⟩:=h.cells (by omega)
 obtain ⟨rfl,rfl⟩:b=b'∧o=o':=by simpa using hp
 exact hc i hi
theorem Bin.parts {w:World}{p:Option Addr}{c:Nat}{xs:List UInt8}(h:Bin w p c xs):xs=[]∨(0 < xs.length∧∃b o,p=some ⟨b,o,none⟩):=by
 rcases Nat.eq_zero_or_pos xs.length with hn | hn
 ·exact .inl (List.eq_nil_of_length_eq_zero hn)
 ·obtain ⟨b,o,rfl,_⟩:=h.cells hn
  exact .inr ⟨hn,b,o,rfl⟩
theorem Bin.kept {w w':World}{p:Option Addr}{c:Nat}{xs:List UInt8}(h:Bin w p c xs) (hb:Below w.heap.size w w'):Bin w' p c xs :=
 ⟨h.cap,h.max,h.bare,fun hn=>by
  obtain ⟨b,o,rfl,hc⟩:=h.cells hn
  exact⟨b,o,rfl,fun i hi=>(hb.cell (p:=⟨b,o+i,none⟩) (World.block_lt_of_cell? _ _ (hc i hi))).trans (hc i hi)⟩⟩
theorem Bin.drew {w:World}{p:Option Addr}{c:Nat}{xs:List UInt8}(h:Bin w p c xs):Bin w.drew p c xs:=h.kept (Below.refl _ _).drew
theorem Bin.upto {w:World}{p:Option Addr}{c:Nat}{xs:List UInt8}(h:Bin w p c xs) (n:Nat) (hn:n≤xs.length):Bin w p c (xs.take n):=by
 refine⟨by have:=h.cap;simp;omega,h.max,h.bare,fun h0=>?_⟩
 have hl:(xs.take n).length=n:=by simp;omega
 rw [hl] at h0 ⊢
 obtain ⟨b,o,rfl,hc⟩:=h.cells (by omega)
 refine⟨b,o,rfl,fun i hi=>?_⟩
 rw [hc i (by omega)]
 simp [List.getD,hi]
theorem Bin.convert {P:Program}{w:World}{p:Option Addr}{c:Nat}{xs:List UInt8}(h:Bin w p c xs) (n:Nat) (hl:xs.length=n) (src dst e:TypeId) (hs:P.underlying src=some (.slice e)) (he:P.underlying e=some (.int .u8)) (hd:P.underlying dst=some .string) :
 (convert src dst (.slice p n c)).run P w=.ok (.string ⟨xs.toArray⟩) w:=by
 subst hl
 rcases Nat.eq_zero_or_pos xs.length with hn | hn
 ·rw [hn]
  obtain rfl:xs=[]:=List.eq_nil_of_length_eq_zero hn
  rw [run_convert_bytes_string w src dst e _ 0 c hs he hd]
  cases p <;> simp [Conv.bytesToString,loadCells]
  all_goals rfl
 ·obtain ⟨b,o,rfl,hc⟩:=h.cells hn
  refine run_convert_bytes_back w src dst e ⟨b,o,none⟩ c xs hs he hd fun j hj=>?_
  rw [Go.WideShapes.add_plain,hc j hj]
  simp [bv,List.getD,hj]
def bvs (xs:List UInt8):List Value:=xs.map bv
theorem bvs_len (xs:List UInt8):(bvs xs).length=xs.length:=by simp [bvs]
theorem bvs_append (xs ys:List UInt8):bvs (xs++ys)=bvs xs++bvs ys:=by simp [bvs]
theorem bvs_get {xs:List UInt8}{i:Nat}(h:i < xs.length):(bvs xs)[i]?=some (bv (xs.getD i 0)):=by simp [bvs,List.getD,h]
def Own (w:World) (base:Nat) (e:TypeId) (v:Value) (xs:List UInt8):Prop:=w.ownsRow base e 1 v xs.length (bvs xs)

theorem Own.shape {w:World}{base:Nat}{e:TypeId}{v:Value}{xs:List UInt8}(h:Own w base e v xs):∃p c,v=.slice p xs.length c∧Bin w p c xs∧(∀a,p=some a→base≤a.block∧a.block < w.heap.size):=by
 have h0:=h
 rcases h.2 with ⟨rfl,hn⟩ | ⟨g,cap,cur,rfl,hb,hg,hc,hm,hs,ht⟩
 ·obtain rfl:xs=[]:=List.eq_nil_of_length_eq_zero hn
  exact⟨none,0,rfl,Bin.nil w,fun a h=>by cases h⟩
 ·refine⟨some ⟨g,0,none⟩,cap,rfl,⟨hc,by simpa [maxLen] using hm,fun h=>(by cases h),fun _=>⟨g,0,rfl,fun i hi=>?_⟩⟩,fun a ha=>?_⟩
  ·rw [Nat.zero_add,World.ownsRow.cellAt h0 i (by omega),bvs_get hi]
  ·obtain rfl:=Option.some.inj ha
   exact⟨hb,(Array.getElem?_eq_some_iff.1 hg).1⟩
theorem Own.bin {w:World}{base:Nat}{e:TypeId}{p:Option Addr}{n c:Nat}{xs:List UInt8}(h:Own w base e (.slice p n c) xs):n=xs.length∧Bin w p c xs:=by
 obtain ⟨p',c',hv,hb,_⟩:=h.shape
 simp only [Value.slice.injEq] at hv
 obtain ⟨rfl,rfl,rfl⟩:=hv
 exact⟨rfl,hb⟩
theorem Own.below {w w':World}{base:Nat}{e:TypeId}{v:Value}{xs:List UInt8}(h:Own w base e v xs) (hb:Below w.heap.size w w'):Own w' base e v xs:=by
 refine⟨h.1,?_⟩
 rcases h.2 with hn | ⟨g,cap,cur,rfl,h1,hg,rest⟩
 ·exact .inl hn
 ·exact .inr ⟨g,cap,cur,rfl,h1,by rw [hb.block g (Array.getElem?_eq_some_iff.1 hg).1];exact hg,rest⟩
theorem Own.free {w:World}{base:Nat}{e:TypeId}{b o n c:Nat}{xs:List UInt8}(h:Own w base e (.slice (some ⟨b,o,none⟩) n c) xs) (j:Nat):o=0∧w.frozen? ⟨b,j,none⟩=false:=by
 rcases h.2 with ⟨h',_⟩ | ⟨g,cap,cur,hv,_⟩
 ·simp at h'
 ·simp only [Value.slice.injEq,Option.some.injEq,Addr.mk.injEq,and_true] at hv
  obtain ⟨⟨rfl,rfl⟩,rfl,rfl⟩:=hv
  have h':=h
  obtain ⟨hn,_⟩:=h'.bin
  exact⟨rfl,World.ownsRow.frozenAt (hn ▸ h) j⟩
theorem Own.alloc {w:World}{base:Nat}{e:TypeId}{v:Value}{xs:List UInt8}(h:Own w base e v xs) (o:Obj):Own (w.alloc o) base e v xs:=h.below ((Below.refl _ _).alloc (Nat.le_refl _) o)
theorem Own.at {w:World}{base:Nat}{e:TypeId}{p:Option Addr}{n c:Nat}{xs:List UInt8}(h:Own w base e (.slice p n c) xs) (hn:0 < n):∃g,p=some ⟨g,0,none⟩∧base≤g∧g < w.heap.size:=by
 rcases h.2 with ⟨hv,_⟩ | ⟨g,cap,cur,hv,hb,hg,_⟩
 ·simp only [Value.slice.injEq] at hv
  omega
 ·simp only [Value.slice.injEq] at hv
  exact⟨g,hv.1,hb,(Array.getElem?_eq_some_iff.1 hg).1⟩
theorem bvs_set (xs:List UInt8) (i:Nat) (c:UInt8):(bvs xs).set i (bv c)=bvs (xs.set i c):=by simp [bvs,List.map_set]
theorem Own.set {w:World}{base:Nat}{e:TypeId}{b n c:Nat}{xs:List UInt8}(h:Own w base e (.slice (some ⟨b,0,none⟩) n c) xs) (i:Nat) (u:UInt8) :
 Own (w.setCell ⟨b,i,none⟩ (bv u)) base e (.slice (some ⟨b,0,none⟩) n c) (xs.set i u):=by
 obtain ⟨rfl,_⟩:=h.bin
 have h2:World.ownsRow w base e 1 (.slice (some ⟨b,0,none⟩) xs.length c) xs.length (bvs xs):=h
 have:=(World.ownsRow.stored h2 i (bv u)).1
 show World.ownsRow _ _ _ _ _ _ _
 rw [List.length_set,← bvs_set]
 exact this
theorem Own.grown_below {w w':World}{N:Nat}{base:Nat}{e:TypeId}{v:Value}{xs:List UInt8}(h:Own w base e v xs) (hg:w.grownBy w' v.ownBlock) (hN:N≤base) (hs:N≤w.heap.size):Below N w w' :=
 (Below.refl N w).grown hg hs fun k hk=>by
   have:=(World.ownsRow.lt h k hk).1
   omega

section
variable {P:Program}{w:World}{ops:Array Oper}{rest:List Oper}{o:Oper}{a:Act}{Q:Exit→Act→World→Prop}

end
theorem Bin.made (w:World) (xs:List UInt8) (n:Nat) (e:TypeId) (cs:Array Value) (fr:Nat × Nat) (hc:cs=(bvs xs).toArray) (hn:xs.length=n) (hs:n≤9223372036854775807):Bin (w.alloc (.cells cs e fr)) (some ⟨w.heap.size,0,none⟩) n xs:=by
 subst hc hn
 refine⟨Nat.le_refl _,hs,fun h=>(by cases h),fun _=>⟨w.heap.size,0,rfl,fun i hi=>?_⟩⟩
 rw [World.cell?_alloc_mark,Nat.zero_add]
 simpa using bvs_get hi
theorem Own.lit (w:World) (xs:List UInt8) (n base:Nat) (e:TypeId) (cs:Array Value) (hc:cs=(bvs xs).toArray) (hn:xs.length=n) (hs:n≤9223372036854775807) (hb:base≤w.heap.size):Own (w.alloc (.cells cs e)) base e (.slice (some ⟨w.heap.size,0,none⟩) n n) xs:=by
 subst hc hn
 have:=World.ownsRow_lit (base:=base) (e:=e) (size:=1) w (bvs xs).toArray xs.length hb (by simpa [maxLen] using hs) (by simp [bvs_len])
 exact this
end Go.Proofs.YtcknpcbkofgdoaaGreatDoor
namespace Go.Proofs.YtcknpcbkofgdoaaGreatDoor
open Go Go.RowKit Go.IntWalk
structure Chg (w w':World) (S:Nat→Prop):Prop where
 os:w'.os=w.os
 tape:w'.tape=w.tape
 output:w'.output=w.output
 size:w.heap.size≤w'.heap.size
 block:∀k,k < w.heap.size→¬ S k→w'.heap[k]?=w.heap[k]?
theorem Chg.refl (w:World) (S:Nat→Prop):Chg w w S:=⟨rfl,rfl,rfl,Nat.le_refl _,fun _ _ _=>rfl⟩
theorem Chg.trans {a b c:World}{S:Nat→Prop}(h:Chg a b S) (h':Chg b c S):Chg a c S :=
 ⟨h'.os.trans h.os,h'.tape.trans h.tape,h'.output.trans h.output,Nat.le_trans h.size h'.size,fun k hk hs=>(h'.block k (by have:=h.size;omega) hs).trans (h.block k hk hs)⟩
theorem Chg.mono {a b:World}{S T:Nat→Prop}(h:Chg a b S) (hST:∀k,S k→T k):Chg a b T:=⟨h.os,h.tape,h.output,h.size,fun k hk hs=>h.block k hk fun h'=>hs (hST k h')⟩
theorem Chg.of_grew {a b:World}(h:Grew a b) (S:Nat→Prop):Chg a b S:=⟨h.os,h.tape,h.output,h.size,fun k hk _=>h.block k hk⟩
theorem Chg.set (w:World) (a:Addr) (v:Value):Chg w (w.setCell a v) (fun k=>k=a.block) :=
 ⟨rfl,rfl,rfl,by simp,fun k _ hs=>heap_setCell_other w a k v hs⟩
theorem Chg.then_set {w w':World}{S:Nat→Prop}(h:Chg w w' S) (a:Addr) (v:Value) (hs:S a.block):Chg w (w'.setCell a v) S :=
 h.trans ((Chg.set w' a v).mono fun _ hk=>hk ▸ hs)
theorem Chg.below {w w':World}{S:Nat→Prop}{N:Nat}(h:Chg w w' S) (hN:N≤w.heap.size) (hS:∀k,S k→N≤k):Below N w w' :=
 ⟨h.os,h.tape,h.output,h.size,fun k hk=>h.block k (by omega) fun hs=>by have:=hS k hs;omega⟩
theorem below_lift {w w' W:World}{N:Nat}(h:Below N W w){S:Nat→Prop}(h2:Chg w w' S) (hS:∀k,S k→N≤k) (hN:N≤W.heap.size):Below N W w' :=
 h.trans (h2.below (by have:=h.size;omega) hS)
theorem grew_lift {w w' W:World}(h:Grew W w){S:Nat→Prop}(h2:Chg w w' S) (hS:∀k,S k→W.heap.size≤k):Grew W w':=below_lift h h2 hS (Nat.le_refl _)
theorem Bin.gr {w w':World}{p:Option Addr}{c:Nat}{xs:List UInt8}(h:Bin w p c xs) (hg:Grew w w'):Bin w' p c xs:=h.kept hg
def Away (S:Nat→Prop) (p:Option Addr):Prop:=∀a,p=some a→¬ S a.block
theorem Bin.chg {w w':World}{S:Nat→Prop}{p:Option Addr}{c:Nat}{xs:List UInt8}(h:Bin w p c xs) (hc:Chg w w' S) (ha:Away S p):Bin w' p c xs :=
 ⟨h.cap,h.max,h.bare,fun hn=>by
  obtain ⟨b,o,rfl,hx⟩:=h.cells hn
  refine⟨b,o,rfl,fun i hi=>?_⟩
  have hl:b < w.heap.size:=World.block_lt_of_cell? _ _ (hx i hi)
  rw [World.cell?_of_block (w:=w) (w':=w') (a:=⟨b,o+i,none⟩) (hc.block b hl (ha ⟨b,o,none⟩ rfl))]
  exact hx i hi⟩
theorem Bin.sub {w:World}{p:Option Addr}{c:Nat}{xs:List UInt8}(h:Bin w p c xs){S:Nat→Prop}(hS:∀k,S k→w.heap.size≤k) (hn:0 < xs.length):Away S p:=fun a ha hs=>by
 obtain ⟨b,o,rfl,hx⟩:=h.cells hn
 obtain rfl:=Option.some.inj ha
 have hl:b < w.heap.size:=World.block_lt_of_cell? _ _ (hx 0 hn)
 have h2:w.heap.size≤b:=hS _ hs
 omega
theorem heap_setCell_same {w:World}{b:Nat}{cs:Array Value}{e:TypeId}{fr:Nat × Nat}(h:w.heap[b]?=some (.cells cs e fr)) (i:Nat) (v:Value) :
 (w.setCell ⟨b,i,none⟩ v).heap[b]?=some (.cells (cs.setIfInBounds i v) e fr):=by
 simp [World.setCell,Array.getElem?_modify,h]
theorem cells_of_heap {w:World}{b:Nat}{cs:Array Value}{e:TypeId}{fr:Nat × Nat}(h:w.heap[b]?=some (.cells cs e fr)) (i:Nat):w.cell? ⟨b,i,none⟩=cs[i]?:=by
 simp [World.cell?,h]
theorem free_of_heap {w:World}{b:Nat}{cs:Array Value}{e:TypeId}(h:w.heap[b]?=some (.cells cs e)) (i:Nat):w.frozen? ⟨b,i,none⟩=false:=by
 simp [World.frozen?,h]
theorem lt_of_heap {w:World}{b:Nat}{o:Obj}(h:w.heap[b]?=some o):b < w.heap.size:=(Array.getElem?_eq_some_iff.1 h).1
theorem Grew.heap {w w':World}(hg:Grew w w'){b:Nat}{o:Obj}(h:w.heap[b]?=some o):w'.heap[b]?=some o:=(Below.block hg b (lt_of_heap h)).trans h
end Go.Proofs.YtcknpcbkofgdoaaGreatDoor
namespace Go.Proofs.YtcknpcbkofgdoaaGreatDoor
open Go Go.RowKit Go.ChangeShapes Go.WideShapes Go.ChangeAt
structure Enc {α:Type}(k:Nat) (enc:α→List Value):Prop where
 len:∀x,(enc x).length=k
 one:∀x,∀u ∈ enc x,u.oneCell'=true
 pos:0 < k
def flatL {α:Type}(enc:α→List Value) (xs:List α):List Value:=xs.flatMap enc
section
variable {α:Type}{k:Nat}{enc:α→List Value}
theorem flatL_cons (x:α) (xs:List α):flatL enc (x :: xs)=enc x++flatL enc xs:=rfl
theorem flatL_append (xs ys:List α):flatL enc (xs++ys)=flatL enc xs++flatL enc ys:=by simp [flatL]
theorem flatL_len (E:Enc k enc) (xs:List α):(flatL enc xs).length=xs.length * k:=by
 induction xs with
 | nil=>simp [flatL]
 | cons x xs ih=>rw [flatL_cons,List.length_append,E.len,ih,List.length_cons,Nat.succ_mul];omega
theorem flatL_get (E:Enc k enc){xs:List α}{i j:Nat}{x:α}{v:Value}(h:xs[i]?=some x) (hv:(enc x)[j]?=some v):(flatL enc xs)[i * k+j]?=some v:=by
 have hj:j < k:=by rw [← E.len x];exact(List.getElem?_eq_some_iff.1 hv).1
 induction xs generalizing i with
 | nil=>simp at h
 | cons y xs ih =>
   rw [flatL_cons]
   cases i with
   | zero =>
     obtain rfl:y=x:=by simpa using h
     rw [Nat.zero_mul,Nat.zero_add,List.getElem?_append_left (by rw [E.len];exact hj)]
     exact hv
   | succ i =>
     rw [List.getElem?_append_right (by rw [E.len,Nat.succ_mul];omega),E.len,show (i+1) * k+j - k=i * k+j by rw [Nat.succ_mul];omega]
     exact ih (by simpa using h)
theorem flatL_mem (E:Enc k enc){xs:List α}:∀u ∈ flatL enc xs,u.oneCell'=true:=by
 intro u hu
 obtain ⟨x,_,hx⟩:=List.mem_flatMap.1 hu
 exact E.one x u hx
theorem flatL_take (E:Enc k enc) (xs:List α) (n:Nat):(flatL enc xs).take (n * k)=flatL enc (xs.take n):=by
 induction xs generalizing n with
 | nil=>simp [flatL]
 | cons x xs ih =>
   cases n with
   | zero=>simp [flatL]
   | succ n =>
     rw [List.take_succ_cons,flatL_cons,flatL_cons,show (n+1) * k=(enc x).length+n * k by rw [E.len,Nat.succ_mul];omega,List.take_length_add_append,ih]
theorem flatL_at (E:Enc k enc) (xs:List α) (j:Nat) (u:Value) (h:(flatL enc xs)[j]?=some u):∃x,xs[j / k]?=some x∧(enc x)[j % k]?=some u:=by
 have hl:j < xs.length * k:=by rw [← flatL_len E];exact(List.getElem?_eq_some_iff.1 h).1
 have hd:j / k < xs.length:=Nat.div_lt_of_lt_mul (by rw [Nat.mul_comm];exact hl)
 have hm:j % k < k:=Nat.mod_lt _ E.pos
 have hx:xs[j / k]?=some xs[j / k]:=List.getElem?_eq_getElem hd
 have hv:(enc xs[j / k])[j % k]?=some ((enc xs[j / k])[j % k]'(by rw [E.len];exact hm)):=List.getElem?_eq_getElem _
 have:=flatL_get E hx hv
 rw [show j / k * k+j % k=j by rw [Nat.mul_comm];exact Nat.div_add_mod j k,h] at this
 exact⟨_,hx,by rw [hv,← Option.some.inj this]⟩
end
structure Rw {α:Type}(k:Nat) (enc:α→List Value) (w:World) (p:Option Addr) (c:Nat) (xs:List α):Prop where
 rd:RdL k enc w p c xs
 bare:p=none→c=0
section
variable {α:Type}{k:Nat}{enc:α→List Value}{w w':World}{p:Option Addr}{c:Nat}{xs:List α}
theorem Rw.nil (k:Nat) (enc:α→List Value) (w:World):Rw k enc w none 0 ([]:List α):=⟨RdL.nil _ _ _ _ _ (by omega),fun _=>rfl⟩
theorem Rw.cap (h:Rw k enc w p c xs):xs.length≤c:=h.rd.cap
theorem Rw.max (h:Rw k enc w p c xs):c≤9223372036854775807:=h.rd.max
theorem Rw.cell {b o:Nat}(h:Rw k enc w (some ⟨b,o,none⟩) c xs){i:Nat}{x:α}(hi:xs[i]?=some x){j:Nat}{v:Value}(hv:(enc x)[j]?=some v):w.cell? ⟨b,o+i * k+j,none⟩=some v:=by
 obtain ⟨b',o',hp,hc⟩:=h.rd.cells (by have:=(List.getElem?_eq_some_iff.1 hi).1;omega)
 obtain ⟨rfl,rfl⟩:b=b'∧o=o':=by simpa using hp
 exact hc i x hi j v hv
theorem Rw.parts (h:Rw k enc w p c xs):xs=[]∨(0 < xs.length∧∃b o,p=some ⟨b,o,none⟩):=by
 rcases Nat.eq_zero_or_pos xs.length with hn | hn
 ·exact .inl (List.eq_nil_of_length_eq_zero hn)
 ·obtain ⟨b,o,rfl,_⟩:=h.rd.cells hn
  exact .inr ⟨hn,b,o,rfl⟩
theorem Rw.keep (h:Rw k enc w p c xs) (hb:0 < xs.length→∀b o,p=some ⟨b,o,none⟩→b < w.heap.size→w'.heap[b]?=w.heap[b]?):Rw k enc w' p c xs :=
 ⟨⟨h.cap,h.max,fun hn=>by
  obtain ⟨b,o,rfl,hc⟩:=h.rd.cells hn
  exact⟨b,o,rfl,fun i x hx j v hv=>by
   have h1:=hc i x hx j v hv
   exact(World.cell?_of_block (w:=w) (w':=w') (a:=⟨b,o+i * k+j,none⟩) (hb hn b o rfl (World.block_lt_of_cell? _ _ h1))).trans h1⟩⟩,h.bare⟩
theorem Rw.kept (h:Rw k enc w p c xs) (hb:Grew w w'):Rw k enc w' p c xs:=h.keep fun _ b _ _ hl=>hb.block b hl
theorem Rw.chg {S:Nat→Prop}(h:Rw k enc w p c xs) (hc:Chg w w' S) (ha:∀a,p=some a→¬ S a.block):Rw k enc w' p c xs:=h.keep fun _ b o e hl=>hc.block b hl (ha ⟨b,o,none⟩ e)
theorem Rw.lt (E:Enc k enc){b o:Nat}(h:Rw k enc w (some ⟨b,o,none⟩) c xs) (hn:0 < xs.length):b < w.heap.size:=by
 have hv:(enc xs[0])[0]?=some ((enc xs[0])[0]'(by rw [E.len];exact E.pos)):=List.getElem?_eq_getElem _
 exact World.block_lt_of_cell? _ _ (h.cell (List.getElem?_eq_getElem hn) hv)
theorem Rw.upto (h:Rw k enc w p c xs) (n:Nat) (hn:n≤xs.length):Rw k enc w p c (xs.take n) :=
 ⟨⟨by have:=h.cap;simp;omega,h.max,fun h0=>by
  have h1:0 < n:=by simp at h0;omega
  obtain ⟨b,o,rfl,hc⟩:=h.rd.cells (by omega)
  refine⟨b,o,rfl,fun i x hx=>hc i x ?_⟩
  have hi:i < n:=by have:=(List.getElem?_eq_some_iff.1 hx).1;simp at this;omega
  rwa [List.getElem?_take_of_lt hi] at hx⟩,h.bare⟩
theorem Rw.made (E:Enc k enc) (w:World) (xs:List α) (n:Nat) (e:TypeId) (cs:Array Value) (fr:Nat × Nat) (hc:cs=(flatL enc xs).toArray) (hn:xs.length=n) (hs:n≤9223372036854775807):Rw k enc (w.alloc (.cells cs e fr)) (some ⟨w.heap.size,0,none⟩) n xs:=by
 subst hc hn
 refine⟨⟨Nat.le_refl _,hs,fun _=>⟨w.heap.size,0,rfl,fun i x hi j v hv=>?_⟩⟩,fun h=>(by cases h)⟩
 rw [World.cell?_alloc_mark,Nat.zero_add]
 simpa using flatL_get E hi hv
end
def OwR {α:Type}(w:World) (base:Nat) (e:TypeId) (k:Nat) (enc:α→List Value) (v:Value) (xs:List α):Prop:=w.ownsRow base e k v xs.length (flatL enc xs)
section
variable {α:Type}{k:Nat}{enc:α→List Value}{w w':World}{base:Nat}{e:TypeId}{xs:List α}
theorem OwR.nil (k:Nat) (enc:α→List Value) (w:World) (base:Nat) (e:TypeId):OwR w base e k enc (.slice none 0 0) []:=World.ownsRow_nil w base e k
theorem OwR.parts (E:Enc k enc){v:Value}(h:OwR w base e k enc v xs):∃p c,v=.slice p xs.length c∧Rw k enc w p c xs∧((p=none∧c=0∧xs=[])∨∃g cur,p=some ⟨g,0,none⟩∧base≤g∧w.heap[g]?=some (.cells cur e (0,0))∧cur.size=c * k∧cur.toList.take (xs.length * k)=flatL enc xs):=by
 have h0:=h
 rcases h.2 with ⟨rfl,hn⟩ | ⟨g,cap,cur,rfl,hb,hg,hc,hm,hs,ht⟩
 ·obtain rfl:xs=[]:=List.eq_nil_of_length_eq_zero hn
  exact⟨none,0,rfl,Rw.nil _ _ w,.inl ⟨rfl,rfl,rfl⟩⟩
 ·refine⟨some ⟨g,0,none⟩,cap,rfl,⟨⟨hc,by simpa [maxLen] using hm,fun _=>⟨g,0,rfl,fun i x hi j v hv=>?_⟩⟩,fun h=>(by cases h)⟩,.inr ⟨g,cur,rfl,hb,hg,hs,ht⟩⟩
  have h1:=flatL_get E hi hv
  have h2:=(List.getElem?_eq_some_iff.1 h1).1
  rw [flatL_len E] at h2
  rw [Nat.zero_add,World.ownsRow.cellAt h0 _ h2]
  exact h1
theorem OwR.rd (E:Enc k enc){p:Option Addr}{n c:Nat}(h:OwR w base e k enc (.slice p n c) xs):n=xs.length∧Rw k enc w p c xs:=by
 obtain ⟨p',c',hv,hb,_⟩:=h.parts E
 simp only [Value.slice.injEq] at hv
 obtain ⟨rfl,rfl,rfl⟩:=hv
 exact⟨rfl,hb⟩
theorem OwR.place (E:Enc k enc){p:Option Addr}{n c:Nat}(h:OwR w base e k enc (.slice p n c) xs):∀a,p=some a→base≤a.block∧a.block < w.heap.size:=by
 intro a ha
 obtain ⟨p',c',hv,_,hb⟩:=h.parts E
 simp only [Value.slice.injEq] at hv
 obtain ⟨rfl,rfl,rfl⟩:=hv
 rcases hb with ⟨rfl,_⟩ | ⟨g,cur,rfl,h1,h2,_⟩
 ·cases ha
 ·obtain rfl:=Option.some.inj ha
  exact⟨h1,(Array.getElem?_eq_some_iff.1 h2).1⟩
theorem OwR.keep {p:Option Addr}{n c:Nat}(h:OwR w base e k enc (.slice p n c) xs) (hb:∀a,p=some a→a.block < w.heap.size→w'.heap[a.block]?=w.heap[a.block]?):OwR w' base e k enc (.slice p n c) xs:=by
 refine⟨h.1,?_⟩
 rcases h.2 with hn | ⟨g,cap,cur,hv,h1,hg,rest⟩
 ·exact .inl hn
 ·have hp:p=some ⟨g,0,none⟩:=by simp only [Value.slice.injEq] at hv;exact hv.1
  exact .inr ⟨g,cap,cur,hv,h1,by rw [hb _ hp (Array.getElem?_eq_some_iff.1 hg).1];exact hg,rest⟩
theorem OwR.kept {p:Option Addr}{n c:Nat}(h:OwR w base e k enc (.slice p n c) xs) (hb:Grew w w'):OwR w' base e k enc (.slice p n c) xs:=h.keep fun _ _ hl=>hb.block _ hl
theorem OwR.chg {S:Nat→Prop}{p:Option Addr}{n c:Nat}(h:OwR w base e k enc (.slice p n c) xs) (hc:Chg w w' S) (ha:∀a,p=some a→¬ S a.block):OwR w' base e k enc (.slice p n c) xs:=h.keep fun a e hl=>hc.block _ hl (ha a e)
theorem OwR.down {base':Nat}{v:Value}(h:OwR w base e k enc v xs) (hb:base'≤base):OwR w base' e k enc v xs:=by
 refine⟨h.1,?_⟩
 rcases h.2 with hn | ⟨g,cap,cur,hv,h1,r⟩
 ·exact .inl hn
 ·exact .inr ⟨g,cap,cur,hv,Nat.le_trans hb h1,r⟩
theorem OwR.free (E:Enc k enc){b o n c:Nat}(h:OwR w base e k enc (.slice (some ⟨b,o,none⟩) n c) xs) (j:Nat):o=0∧w.frozen? ⟨b,j,none⟩=false:=by
 have h0:=h
 obtain ⟨hn,_⟩:=h.rd E
 rcases h.2 with ⟨h',_⟩ | ⟨g,cap,cur,hv,_⟩
 ·simp at h'
 ·simp only [Value.slice.injEq,Option.some.injEq,Addr.mk.injEq,and_true] at hv
  obtain ⟨⟨rfl,rfl⟩,rfl,rfl⟩:=hv
  exact⟨rfl,World.ownsRow.frozenAt (show World.ownsRow w base e k (.slice (some ⟨b,0,none⟩) xs.length c) xs.length (flatL enc xs) from hn ▸ h0) j⟩
theorem OwR.at {p:Option Addr}{n c:Nat}(h:OwR w base e k enc (.slice p n c) xs) (hn:0 < n):∃g,p=some ⟨g,0,none⟩∧base≤g∧g < w.heap.size:=by
 rcases h.2 with ⟨hv,_⟩ | ⟨g,cap,cur,hv,hb,hg,_⟩
 ·simp only [Value.slice.injEq] at hv
  omega
 ·simp only [Value.slice.injEq] at hv
  exact⟨g,hv.1,hb,(Array.getElem?_eq_some_iff.1 hg).1⟩
theorem OwR.upto (E:Enc k enc){p:Option Addr}{n c:Nat}(h:OwR w base e k enc (.slice p n c) xs) (m:Nat) (hm:m≤xs.length):OwR w base e k enc (.slice p m c) (xs.take m):=by
 have hl:(xs.take m).length=m:=by simp;omega
 refine⟨by rw [hl,flatL_len E,hl],?_⟩
 rw [hl]
 rcases h.2 with ⟨hv,h0⟩ | ⟨g,cap,cur,hv,h1,hg,h2,h3,h4,h5⟩
 ·simp only [Value.slice.injEq] at hv
  exact .inl ⟨by simp only [Value.slice.injEq];exact⟨hv.1,by omega,hv.2.2⟩,by omega⟩
 ·simp only [Value.slice.injEq] at hv
  refine .inr ⟨g,cap,cur,by simp only [Value.slice.injEq];exact⟨hv.1,trivial,hv.2.2⟩,h1,hg,by omega,h3,h4,?_⟩
  rw [← flatL_take E,← h5,List.take_take]
  congr 1
  exact(Nat.min_eq_left (Nat.mul_le_mul_right _ hm)).symm
theorem OwR.grown_below {N:Nat}{v:Value}(h:OwR w base e k enc v xs) (hg:w.grownBy w' v.ownBlock) (hN:N≤base) (hs:N≤w.heap.size):Below N w w' :=
 (Below.refl N w).grown hg hs fun j hj=>by
   have:=(World.ownsRow.lt h j hj).1
   omega
theorem OwR.lit (E:Enc k enc) (w:World) (xs:List α) (n base:Nat) (e:TypeId) (cs:Array Value) (hc:cs=(flatL enc xs).toArray) (hn:xs.length=n) (hs:n≤9223372036854775807) (hb:base≤w.heap.size):OwR (w.alloc (.cells cs e)) base e k enc (.slice (some ⟨w.heap.size,0,none⟩) n n) xs:=by
 subst hc hn
 have:=World.ownsRow_lit (base:=base) (e:=e) (size:=k) w (flatL enc xs).toArray xs.length hb (by simpa [maxLen] using hs) (by simp [flatL_len E])
 exact this
end
theorem Chg.of_grownBy {w w':World}{row:Option Nat}(h:w.grownBy w' row):Chg w w' (fun k=>row=some k):=⟨h.os,h.tape,h.output,h.size,fun k hk hs=>h.block k hk (fun e=>hs e.symm)⟩
theorem ownBlock_sl (p:Option Addr) (n c:Nat):Value.ownBlock (.slice p n c)=p.map (·.block):=by cases p <;> rfl

section
variable {α:Type}{k:Nat}{enc:α→List Value}{P:Program}{w:World}{ops:Array Oper}{rest:List Oper}{o:Oper}{a:Act}{Q:Exit→Act→World→Prop}
theorem run_append_row (E:Enc k enc) (t ty:TypeId) (base:Nat) (e:TypeId) (z:Value) (by':Nat) (ht:P.underlying t=some (.slice e)) (hi:(P.info? e).map (fun i=>(i.zero,i.size,i.bytes))=some (some z,k,by')) (hzs:z.cells.size=k)
 (v:Value) (xs:List α) (hown:OwR w base e k enc v xs) (p:Option Addr) (n c:Nat) (ys:List α) (hl:ys.length=n) (hin:Rw k enc w p c ys)
 (hbytes:(xs.length+ys.length) * by'≤140737488355328) (h63:xs.length+ys.length≤9223372036854775807) (hbase:base≤w.heap.size) :
 ∃v' w',(Builtin.append_ #[t,t] ty #[v,.slice p n c]).run P w=.ok v' w'∧OwR w' base e k enc v' (xs++ys)∧Below base w w'∧w.grownBy w' v.ownBlock∧(v'.ownBlock=v.ownBlock∨v'.ownBlock=some w.heap.size):=by
 obtain ⟨i,hi,hz0,hz1,hz2⟩:=info_parts hi
 subst hl
 cases p with
 | none =>
   have hc0:=hin.bare rfl
   obtain rfl:ys=[]:=List.eq_nil_of_length_eq_zero (by have:=hin.cap;omega)
   rw [hc0]
   refine⟨v,w,run_append_owned_none (P:=P) (w:=w) base t ty e i k ht hi v xs.length (flatL enc xs) hown,by rw [List.append_nil];exact hown,Below.refl _ _,⟨rfl,rfl,rfl,Nat.le_refl _,fun _ _ _=>rfl⟩,.inl rfl⟩
 | some ad =>
   obtain ⟨v',w',hrun,h2,h3,_,h5⟩:=run_append_own_at (P:=P) w base t ty e i z k by' ht hi hz0 hz1 hz2 hzs (by exact E.pos) v xs.length (flatL enc xs) hown ad ys.length c (flatL enc ys) (flatL_len E ys) (fun j u hj=>by
    obtain ⟨x,hx,hu⟩:=flatL_at E ys j u hj
    obtain ⟨b,o,hp,hc⟩:=hin.rd.cells (Nat.lt_of_le_of_lt (Nat.zero_le _) (List.getElem?_eq_some_iff.1 hx).1)
    obtain rfl:=Option.some.inj hp
    have h1:=hc _ x hx _ u hu
    rw [Go.WideShapes.add_plain]
    rwa [Nat.add_assoc,Nat.mul_comm,Nat.div_add_mod] at h1) (flatL_mem E) (by simp only [maxLen];omega) hbytes hbase
   refine⟨v',w',hrun,?_,hown.grown_below h3 (Nat.le_refl _) hbase,h3,h5⟩
   show World.ownsRow _ _ _ _ _ _ _
   rw [List.length_append,flatL_append]
   exact h2
end
end Go.Proofs.YtcknpcbkofgdoaaGreatDoor
namespace Go.Proofs.YtcknpcbkofgdoaaGreatDoor
open Go
def reach (ops:Array Oper):Nat→Nat→Nat→Bool
 | 0,_,_=>false
 | fuel+1,i,j=>match ops[i]? with
   | none=>false
   | some o=>o.after.toList.any fun e=>Region.binds .any e&&(e.on==j||reach ops fuel e.on j)
def tailOk (ops:Array Oper) (n:Nat):Bool:=(List.range ops.size).all fun i=>decide (i < n)||(List.range n).all fun j=>reach ops ops.size i j
def listedN (n m:Nat):Array Bool:=(List.replicate n true++List.replicate (m - n) false).toArray
theorem reach_listed {ops:Array Oper}{listed:Array Bool}(hcl:∀i,listed.getD i false=true→∀o,ops[i]?=some o→∀e ∈ o.after,Region.binds .any e=true→listed.getD e.on false=true) :
 ∀(fuel i j:Nat),(∀o,ops[i]?=some o→∀e ∈ o.after,Region.binds .any e=true→listed.getD e.on false=true)→reach ops fuel i j=true→listed.getD j false=true
 | 0,_,_,_,h=>by simp [reach] at h
 | fuel+1,i,j,hi,h=>by
   unfold reach at h
   cases ho:ops[i]? with
   | none=>rw [ho] at h;cases h
   | some o =>
     rw [ho] at h
     simp only [List.any_eq_true,Bool.and_eq_true,Bool.or_eq_true,beq_iff_eq] at h
     obtain ⟨e,he,hb,h⟩:=h
     have hl:=hi o ho e (Array.mem_toList_iff.1 he) hb
     rcases h with rfl | h
     ·exact hl
     ·exact reach_listed hcl fuel e.on j (hcl e.on hl) h

section
variable {P:Program}{ops:Array Oper}{Q:Exit→Act→World→Prop}{R:World→World→Prop}{F:Nat→Value→World→Prop}{sl:List (Option Nat)}{D:List Bool}{a0:Act}{w0:World}
def regionOkN (ops:Array Oper) (n:Nat) (sl:List (Option Nat)) (D:List Bool):Bool :=
 ((ops.toList.take n).map (·.dst)==sl)&&nodupB (sl.filterMap id)&&(sl.filterMap id).all (fun d=>D.getD d false) &&
 (ops.toList.take n).all (fun o=>match o.guard with | none=>true | some (g,_)=>(sl.getD g none).isSome) &&
 (List.range ops.size).all (fun i=>match ops[i]? with | none=>true | some o=>o.after.toList.all fun e=>!Region.binds .any e||decide (e.on < i))
theorem sl_atN {n:Nat}(hsl:(ops.toList.take n).map (·.dst)=sl){i:Nat}{o:Oper}(hi:i < n) (h:ops[i]?=some o):sl.getD i none=o.dst:=by
 rw [← hsl,List.getD_eq_getElem?_getD,List.getElem?_map,List.getElem?_take_of_lt hi]
 simp [h]
theorem posts_tail (n:Nat) (hn:n≤ops.size) (htl:tailOk ops n=true) (hok:regionOkN ops n sl D=true) (hD:D.length=a0.tmps.size) (hrr:∀w,R w w) (hrt:∀{a b c},R a b→R b c→R a c) (hF:∀i v w w',R w w'→F i v w→F i v w')
 (hs:Steps P R F sl (mixA D a0) w0 0 (ops.toList.take n)) (hend:∀u w,R w0 w→(∀i,i < n→F i (uval sl u i) w)→wpAny P .any ops Q (ops.size - n) (listedN n ops.size) (mixA D a0 u) w) :
 ∀(fuel:Nat) (listed:Array Bool) (u:Nat→Value) (w:World),listed.size=ops.size→listed.toList.count false=fuel→(∀i,n≤i→i < ops.size→listed.getD i false=false)→(∀i,listed.getD i false=true→∀o,ops[i]?=some o→∀e ∈ o.after,Region.binds .any e=true→listed.getD e.on false=true)→R w0 w →
  (∀i,listed.getD i false=true→F i (uval sl u i) w)→wpAny P .any ops Q fuel listed (mixA D a0 u) w:=by
 simp only [regionOkN,Bool.and_eq_true,beq_iff_eq,List.all_eq_true] at hok
 obtain ⟨⟨⟨⟨hsl,hnd⟩,hDs⟩,hgs⟩,hac⟩:=hok
 have hacyc:∀i,i < ops.size→∀o,ops[i]?=some o→∀e ∈ o.after,Region.binds .any e=true→e.on < i:=fun i hi o ho e he hb=>by
  have:=hac i (List.mem_range.2 hi)
  simp only [ho,List.all_eq_true] at this
  have:=this e (Array.mem_toList_iff.2 he)
  simpa [hb] using this
 have full:∀(listed:Array Bool) (fuel:Nat) (u:Nat→Value) (w:World),listed.size=ops.size→listed.toList.count false=fuel→(∀i,n≤i→i < ops.size→listed.getD i false=false)→R w0 w→(∀i,listed.getD i false=true→F i (uval sl u i) w) →
  (∀i,i < n→listed.getD i false=true)→wpAny P .any ops Q fuel listed (mixA D a0 u) w:=by
  intro listed fuel u w hsz hc htail hR hp hall
  have e:listed=listedN n ops.size:=by
   apply Array.ext
   ·simp [listedN,hsz];omega
   ·intro i h1 h2
    have hi:i < ops.size:=by omega
    simp only [listedN,zz1]
    rcases Nat.lt_or_ge i n with hlt | hge
    ·have:=hall i hlt
     simp [h1] at this
     rw [this,List.getElem_append_left (by simpa using hlt)]
     simp
    ·have:=htail i hge hi
     simp [h1] at this
     rw [this,List.getElem_append_right (by simpa using hge)]
     simp
  have e2:fuel=ops.size - n:=by
   rw [← hc,e]
   simp [listedN,List.count_replicate]
  subst e2
  rw [e]
  exact hend u w hR fun i hi=>hp i (hall i hi)
 intro fuel
 induction fuel with
 | zero =>
   intro listed u w hsz hc htail hcl hR hp
   have hall:∀i,i < ops.size→listed.getD i false=true:=fun i hi=>by
    rw [List.count_eq_zero] at hc
    have hlt:i < listed.size:=by omega
    cases hb:listed[i] with
    | true=>simp [hlt,hb]
    | false=>exact absurd (by rw [← hb];exact Array.getElem_mem_toList hlt) hc
   exact full listed 0 u w hsz hc htail hR hp fun i hi=>hall i (by omega)
 | succ fuel ih =>
   intro listed u w hsz hc htail hcl hR hp
   by_cases hfull:∀i,i < n→listed.getD i false=true
   ·exact full listed _ u w hsz hc htail hR hp hfull
   have hne:Region.ready .any ops listed≠[]:=fun hr=>hfull fun i=>by
    induction i using Nat.strongRecOn with
    | ind i ihi =>
      intro hi
      cases hl:listed.getD i false with
      | true=>rfl
      | false =>
        exfalso
        have hlt:i < listed.size:=by omega
        have hi':i < ops.size:=by omega
        have:i ∈ Region.ready .any ops listed:=mem_ready.2 ⟨by simp [hlt] at hl ⊢;exact hl,ops[i],by simp [hi'],fun e he hb=>ihi e.on (hacyc i hi' _ (by simp [hi']) e he hb) (by have:=hacyc i hi' _ (by simp [hi']) e he hb;omega)⟩
        rw [hr] at this
        cases this
   refine⟨fun hr=>absurd hr hne,fun i hi=>?_⟩
   obtain ⟨hun,o,ho,hall⟩:=mem_ready.1 hi
   have hilt:=(Array.getElem?_eq_some_iff.1 ho).1
   have hin:i < n:=by
    rcases Nat.lt_or_ge i n with h | h
    ·exact h
    ·exfalso
     apply hfull
     intro j hj
     have hre:reach ops ops.size i j=true:=by
      simp only [tailOk,List.all_eq_true,List.mem_range] at htl
      have:=htl i hilt
      simp only [Bool.or_eq_true,decide_eq_true_eq,List.all_eq_true,List.mem_range] at this
      rcases this with h' | h'
      ·omega
      ·exact h' j hj
     exact reach_listed hcl ops.size i j (fun o' ho' e he hb=>by obtain rfl:o=o':=Option.some.inj (ho.symm.trans ho');exact hall e he hb) hre
   have hstep:=hs.at (i:=i) (o:=o) (by rw [List.getElem?_take_of_lt hin];simpa using ho) u w hR (deps_of fun e he hb=>hp e.on (hall e (by simpa using he) hb))
   rw [Nat.zero_add] at hstep
   have hslo:=sl_atN hsl hin ho
   have hlt:i < listed.size:=by omega
   have hlf:listed[i]=false:=by simpa [hlt] using hun
   have hcnt:(listed.setIfInBounds i true).toList.count false=fuel:=by
    have e1:(listed.setIfInBounds i true).toList=listed.toList.set i true:=by simp
    have e2:=List.count_set (l:=listed.toList) (a:=true) (b:=false) (i:=i) (by simpa using hlt)
    rw [e1,e2]
    have e3:0 < listed.toList.count false:=List.count_pos_iff.2 (by rw [← hlf];exact Array.getElem_mem_toList hlt)
    have e4:(listed.toList[i]'(by simpa using hlt)==false)=true:=by simp [hlf]
    have e5:(true==false)=false:=rfl
    simp only [e4,e5,if_true,Bool.false_eq_true,if_false] at e2 ⊢
    omega
   have htail':∀k,n≤k→k < ops.size→(listed.setIfInBounds i true).getD k false=false:=fun k h1 h2=>by rw [getD_set_ne false (by omega)];exact htail k h1 h2
   have hcl':∀k,(listed.setIfInBounds i true).getD k false=true→∀o,ops[k]?=some o→∀e ∈ o.after,Region.binds .any e=true→(listed.setIfInBounds i true).getD e.on false=true:=fun k hk o' ho' e he hb=>by
    by_cases hki:k=i
    ·subst hki
     obtain rfl:o=o':=Option.some.inj (ho.symm.trans ho')
     exact getD_set_true (hall e he hb)
    ·rw [getD_set_ne false (Ne.symm hki)] at hk
     exact getD_set_true (hcl k hk o' ho' e he hb)
   -- the next state
   have next:∀(v:Value) (w':World),R w w'→F i (match o.dst with | some _=>v | none=>undef) w'→wpAny P .any ops Q fuel (listed.setIfInBounds i true) ((mixA D a0 u).put o.dst v) w':=by
    intro v w' hr' hfi
    cases hd:o.dst with
    | none =>
      rw [hd] at hfi hslo
      refine ih _ u w' (by simpa using hsz) hcnt htail' hcl' (hrt hR hr') (fun k hk=>?_)
      ·by_cases hki:k=i
       ·subst hki
        have:uval sl u k=undef:=by simp only [uval,hslo]
        rw [this];exact hfi
       ·exact hF _ _ _ _ hr' (hp k (by rw [getD_set_ne false (Ne.symm hki)] at hk;exact hk))
    | some d =>
      rw [hd] at hfi hslo
      have hDd:D.getD d false=true:=hDs d (by
       rw [List.mem_filterMap]
       refine⟨some d,?_,rfl⟩
       rw [List.getD_eq_getElem?_getD] at hslo
       cases hx:sl[i]? with
       | none=>simp [hx] at hslo
       | some y=>simp [hx] at hslo;subst hslo;exact List.mem_of_getElem? hx)
      have hput:(mixA D a0 u).put (some d) v=mixA D a0 (fun k=>if k=d then v else u k):=by
       have hm:=mixL_set D a0.tmps.toList u 0 d v (by simpa using hD) hDd
       simp only [Nat.zero_add] at hm
       simp only [mixA,Act.put,zz4,hm]
      rw [hput]
      refine ih _ _ w' (by simpa using hsz) hcnt htail' hcl' (hrt hR hr') (fun k hk=>?_)
      ·by_cases hki:k=i
       ·subst hki
        have:uval sl (fun k=>if k=d then v else u k) k=v:=by simp only [uval,hslo,if_true]
        rw [this];exact hfi
       ·have hk':=hp k (by rw [getD_set_ne false (Ne.symm hki)] at hk;exact hk)
        have:uval sl (fun k=>if k=d then v else u k) k=uval sl u k:=by
         unfold uval
         cases hx:sl.getD k none with
         | none=>rfl
         | some d' =>
           have:d'≠d:=fun e=>hki (nodup_ne hnd (by rw [hx,e]) hslo)
           simp only [if_neg this]
        rw [this]
        exact hF _ _ _ _ hr' hk'
   -- the guard
   unfold wpOp
   simp only [ho]
   cases hg:o.guard with
   | none =>
     have hw:Region.wanted o (yielded ops (mixA D a0 u).tmps)=true:=by simp [Region.wanted,hg]
     rw [if_pos hw]
     simp only [StepOk,hg] at hstep
     exact .inl (hstep _ _ fun v w' h=>next v w' h.1 h.2)
   | some gb =>
     obtain ⟨g,b⟩:=gb
     simp only [StepOk,hg] at hstep
     have hgsome:=hgs o (List.mem_of_getElem? (i:=i) (by rw [List.getElem?_take_of_lt hin];simpa using ho))
     simp only [hg] at hgsome
     obtain ⟨gs,hgs'⟩:=Option.isSome_iff_exists.1 hgsome
     have hDg:D.getD gs false=true:=hDs gs (by
      rw [List.mem_filterMap]
      refine⟨some gs,?_,rfl⟩
      rw [List.getD_eq_getElem?_getD] at hgs'
      cases hx:sl[g]? with
      | none=>simp [hx] at hgs'
      | some y=>simp [hx] at hgs';subst hgs';exact List.mem_of_getElem? hx)
     have hgo:((ops[g]?).bind (·.dst))=some gs:=by
      cases hog:ops[g]? with
      | none =>
        rw [← hsl,List.getD_eq_getElem?_getD,List.getElem?_map] at hgs'
        have:(ops.toList.take n)[g]?=none:=by
         rw [List.getElem?_take]
         split
         ·simpa using hog
         ·rfl
        simp [this] at hgs'
      | some og =>
        have hgn:g < n:=by
         rcases Nat.lt_or_ge g n with h | h
         ·exact h
         ·exfalso
          rw [← hsl,List.getD_eq_getElem?_getD,List.getElem?_map,List.getElem?_take,if_neg (by omega)] at hgs'
          simp at hgs'
        have:=sl_atN hsl hgn hog;rw [hgs'] at this;simpa using this.symm
     have hy:yielded ops (mixA D a0 u).tmps g=match u gs with | .bool b=>some b | _=>none:=by
      unfold yielded
      rw [hgo]
      have hm:=mixL_get D a0.tmps.toList u 0 gs (by simpa using hD) hDg
      rw [Nat.zero_add] at hm
      simp only [mixA,Option.bind_some,List.getElem?_toArray,hm]
      cases u gs <;> rfl
     have huv:uval sl u g=u gs:=by simp only [uval,hgs']
     rw [huv] at hstep
     by_cases hb:u gs=.bool b
     ·have hw:Region.wanted o (yielded ops (mixA D a0 u).tmps)=true:=by simp [Region.wanted,hg,hy,hb]
      rw [if_pos hw]
      exact .inl (hstep.1 hb _ _ fun v w' h=>next v w' h.1 h.2)
     ·have hw:¬ Region.wanted o (yielded ops (mixA D a0 u).tmps)=true:=by
       simp only [Region.wanted,hg,hy]
       intro h
       apply hb
       revert h
       cases u gs <;> simp
      rw [if_neg hw]
      refine next undef w ?_ ?_
      ·exact hrr w
      ·have:=hstep.2 hb
       cases o.dst <;> exact this
theorem wp_region_tail {id:Nat}(n:Nat) (sl:List (Option Nat)) (D:List Bool) (R:World→World→Prop) (F:Nat→Value→World→Prop) (hm:P.follows .mixedOrders=true) (hok:regionOkN ops n sl D=true) (htl:(decide (n≤ops.size)&&tailOk ops n)=true) (hD:D.length=a0.tmps.size)
 (hrr:∀w,R w w) (hrt:∀{a b c},R a b→R b c→R a c) (hF:∀i v w w',R w w'→F i v w→F i v w')
 (hs:Steps P R F sl (mixA D a0) w0.drew 0 (ops.toList.take n)) (hend:∀u w,R w0.drew w→(∀i,i < n→F i (uval sl u i) w)→wpAny P .any ops Q (ops.size - n) (listedN n ops.size) (mixA D a0 u) w):(Code.region id ops true).wp P Q a0 w0:=by
 refine wp_region_any hm ?_
 rw [Bool.and_eq_true,decide_eq_true_eq] at htl
 have h0:mixA D a0 (fun t=>a0.tmps.getD t undef)=a0:=by
  unfold mixA
  rw [mixL_self D a0.tmps.toList _ 0 fun k hk=>by simp]
 have hrep:∀i,(Array.replicate ops.size false).getD i false=false:=fun i=>by by_cases h:i < ops.size <;> simp [h]
 have:=posts_tail (P:=P) (ops:=ops) (Q:=Q) n htl.1 htl.2 hok hD hrr hrt hF hs hend ops.size (Array.replicate ops.size false) (fun t=>a0.tmps.getD t undef) w0.drew (by simp) (by simp) (fun i _ _=>hrep i) (fun i hi=>by rw [hrep] at hi;cases hi) (hrr _) (fun i hi=>by rw [hrep] at hi;cases hi)
 rw [h0] at this
 exact this
theorem wpAny_one {i fuel:Nat}(d:Option Tmp){o:Oper}{listed:Array Bool}{a:Act}{w:World}(hr:Region.ready .any ops listed=[i]) (ho:ops[i]?=some o) (hg:o.guard=none) (hd:o.dst=d)
 (h:Runs P o a w fun v w'=>wpAny P .any ops Q fuel (listed.setIfInBounds i true) (a.put d v) w'):wpAny P .any ops Q (fuel+1) listed a w:=by
 refine wpAny_all hr (by simp) fun j hj=>?_
 obtain rfl:j=i:=by simpa using hj
 subst hd
 unfold wpOp
 simp only [ho]
 rw [if_pos (by simp [Region.wanted,hg])]
 exact .inl (h _ _ fun _ _ h=>h)
end
end Go.Proofs.YtcknpcbkofgdoaaGreatDoor
namespace Go.Proofs.YtcknpcbkofgdoaaGreatDoor
open Go Go.RowKit Go.IntWalk
def Blk (S:Nat) (vs:List Value) (e:TypeId) (w:World):Prop:=w.heap[S]?=some (.cells vs.toArray e)
section
variable {S:Nat}{vs:List Value}{e:TypeId}{w w':World}
theorem Blk.lt (h:Blk S vs e w):S < w.heap.size:=lt_of_heap h
theorem Blk.grew (h:Blk S vs e w) (hg:Grew w w'):Blk S vs e w':=hg.heap h
theorem Blk.chg {T:Nat→Prop}(h:Blk S vs e w) (hc:Chg w w' T) (hs:¬ T S):Blk S vs e w':=(hc.block S (lt_of_heap h) hs).trans h
theorem Blk.cell (h:Blk S vs e w) (i:Nat):w.cell? ⟨S,i,none⟩=vs[i]?:=by rw [cells_of_heap h];simp
theorem Blk.free (h:Blk S vs e w) (i:Nat):w.frozen? ⟨S,i,none⟩=false:=free_of_heap h i
theorem Blk.set (h:Blk S vs e w) (i:Nat) (v:Value):Blk S (vs.set i v) e (w.setCell ⟨S,i,none⟩ v):=by
 have:=heap_setCell_same h i v
 simpa [Blk] using this
theorem Blk.ne {S':Nat}{vs':List Value}{e':TypeId}(h:Blk S vs e w) (h':Blk S' vs' e' w) (he:e≠e'):S≠S':=fun hs=>by
 subst hs
 have h1:w.heap[S]?=_:=h
 have h2:w.heap[S]?=_:=h'
 rw [h1] at h2
 simp only [Option.some.injEq,Obj.cells.injEq] at h2
 exact he h2.2.1
theorem Blk.new (w:World) (vs:List Value) (e:TypeId):Blk w.heap.size vs e (w.alloc (.cells vs.toArray e)):=heap_alloc_new w _
end
def Atv (q:Addr) (v:Value) (w:World):Prop:=w.cell? q=some v
theorem Atv.grew {q:Addr}{v:Value}{w w':World}(h:Atv q v w) (hg:Grew w w'):w'.cell? q=some v:=(Below.cell hg (p:=q) (World.block_lt_of_cell? _ _ h)).trans h
theorem Blk.atv {S:Nat}{vs:List Value}{e:TypeId}{w:World}(h:Blk S vs e w) (i:Nat){v:Value}(hi:vs[i]?=some v):Atv ⟨S,i,none⟩ v w:=(h.cell i).trans hi
section
variable {P:Program}{id:Nat}{ops:Array Oper}{Q:Exit→Act→World→Prop}{a0:Act}{w0:World}
theorem wp_grew_tail (n:Nat) (sl:List (Option Nat)) (D:List Bool) (ps:List (Value→World→Prop)) (hm:P.follows .mixedOrders=true) (hok:regionOkN ops n sl D=true) (htl:(decide (n≤ops.size)&&tailOk ops n)=true) (hD:D.length=a0.tmps.size) (hps:Monos ps)
 (hs:Steps P Grew (postAt ps) sl (mixA D a0) w0.drew 0 (ops.toList.take n)) (hend:∀u w,Grew w0.drew w→(∀i,i < n→postAt ps i (uval sl u i) w)→wpAny P .any ops Q (ops.size - n) (listedN n ops.size) (mixA D a0 u) w):(Code.region id ops true).wp P Q a0 w0 :=
 wp_region_tail n sl D Grew (postAt ps) hm hok htl hD Grew.refl Grew.trans hps.at hs hend
end
end Go.Proofs.YtcknpcbkofgdoaaGreatDoor
namespace Go.Proofs.YtcknpcbkofgdoaaGreatDoor
open Go

def StepsW (P:Program) (R Rn:World→World→Prop) (i0:Nat) (er:Nat→Bool) (F:Nat→Value→World→Prop) (sl:List (Option Nat)) (A:(Nat→Value)→Act) (w0:World):Nat→List Oper→Prop
 | _,[]=>True
 | i,o :: os=>(∀u w,R w0 w→(er i=true→Rn w0 w)→deps F sl u w o.after.toList→StepOk P (bif Nat.beq i i0 then R else Rn) F sl i o u (A u) w)∧StepsW P R Rn i0 er F sl A w0 (i+1) os
theorem StepsW.at {P:Program}{R Rn:World→World→Prop}{i0:Nat}{er:Nat→Bool}{F:Nat→Value→World→Prop}{sl:List (Option Nat)}{A:(Nat→Value)→Act}{w0:World}:∀{n:Nat}{os:List Oper},StepsW P R Rn i0 er F sl A w0 n os →
 ∀{i:Nat}{o:Oper},os[i]?=some o→∀u w,R w0 w→(er (n+i)=true→Rn w0 w)→deps F sl u w o.after.toList→StepOk P (bif Nat.beq (n+i) i0 then R else Rn) F sl (n+i) o u (A u) w
 | _,[],_,_,_,h=>by simp at h
 | n,o :: os,h,0,_,e=>by
   obtain rfl:o=_:=by simpa using e
   exact h.1
 | n,o :: os,h,i+1,o',e=>by
   have:=StepsW.at h.2 (i:=i) (by simpa using e)
   rwa [show n+1+i=n+(i+1) by omega] at this

section
variable {P:Program}{ops:Array Oper}{Q:Exit→Act→World→Prop}{R Rn:World→World→Prop}{F:Nat→Value→World→Prop}{sl:List (Option Nat)}{D:List Bool}{a0:Act}{w0:World}
end
end Go.Proofs.YtcknpcbkofgdoaaGreatDoor
namespace Go.Proofs.YtcknpcbkofgdoaaGreatDoor
open Go
def PureAt (P:Program) (F:Nat→Value→World→Prop) (sl:List (Option Nat)) (A:(Nat→Value)→Act) (w0:World) (f:Nat):List Oper→Prop
 | []=>True
 | o :: _=>∀u w,Grew w0 w→deps F sl u w o.after.toList→∃v,(∀w',(execOp (A u).eval o).run P w'=.ok (.value v) w')∧F f (match o.dst with | some _=>v | none=>undef) w
def Pures (P:Program) (F:Nat→Value→World→Prop) (sl:List (Option Nat)) (A:(Nat→Value)→Act) (w0:World) (ops:List Oper):List Nat→Prop
 | []=>True
 | f :: fs=>PureAt P F sl A w0 f (ops.drop f)∧Pures P F sl A w0 ops fs
theorem Pures.at {P:Program}{F:Nat→Value→World→Prop}{sl:List (Option Nat)}{A:(Nat→Value)→Act}{w0:World}{ops:List Oper}(L:List Nat) (h:Pures P F sl A w0 ops L){f:Nat}(hf:f ∈ L):PureAt P F sl A w0 f (ops.drop f):=by
 induction L with
 | nil=>cases hf
 | cons g L ih =>
   rcases List.mem_cons.1 hf with rfl | hf
   ·exact h.1
   ·exact ih h.2 hf
section
variable {P:Program}{id:Nat}{ops:Array Oper}{Q:Exit→Act→World→Prop}{a0:Act}{w0:World}
end
end Go.Proofs.YtcknpcbkofgdoaaGreatDoor
namespace Go.Proofs.YtcknpcbkofgdoaaGreatDoor
open Go

section
variable {P:Program}{ops:Array Oper}{Q:Exit→Act→World→Prop}{R:World→World→Prop}{F:Nat→Value→World→Prop}{sl:List (Option Nat)}{D:List Bool}{a0:Act}{w0:World}
theorem count_set {l:Array Bool}{i:Nat}(hi:i < l.size) (h:l.getD i false=false):(l.setIfInBounds i true).toList.count false+1=l.toList.count false:=by
 have e1:(l.setIfInBounds i true).toList=l.toList.set i true:=by simp
 have e2:=List.count_set (l:=l.toList) (a:=true) (b:=false) (i:=i) (by simpa using hi)
 have hlf:l[i]=false:=by simpa [hi] using h
 rw [e1,e2]
 have e3:0 < l.toList.count false:=List.count_pos_iff.2 (by rw [← hlf];exact Array.getElem_mem_toList hi)
 have e4:(l.toList[i]'(by simpa using hi)==false)=true:=by simp [hlf]
 have e5:(true==false)=false:=rfl
 simp only [e4,e5,if_true,Bool.false_eq_true,if_false] at e2 ⊢
 omega
end
end Go.Proofs.YtcknpcbkofgdoaaGreatDoor
namespace Go.Proofs.YtcknpcbkofgdoaaGreatDoor
open Go.RowKit Go.IntWalk
def Still (w w':World):Prop:=w'=w
theorem Grew.alloc {a w:World}(h:Grew a w) (o:Obj):Grew a (w.alloc o):=Below.alloc h h.size o
theorem Grew.drw {a w:World}(h:Grew a w):Grew a w.drew:=Below.drew h
theorem Grew.sc {a w:World}(h:Grew a w){S:Nat}(hS:a.heap.size≤S) (k:Nat) (v:Value):Grew a (w.setCell ⟨S,k,none⟩ v):=Below.setCell h (p:=⟨S,k,none⟩) hS _
class Keeps (R:World→World→Prop):Prop where
 grew:∀{w w'},R w w'→Grew w w'
instance:Keeps Grew:=⟨fun h=>h⟩
instance:Keeps Still:=⟨fun h=>h ▸ Grew.refl _⟩
theorem Atv.kept {R:World→World→Prop} [Keeps R] {q:Addr}{v:Value}{w w':World}(h:Atv q v w) (hg:R w w'):w'.cell? q=some v:=h.grew (Keeps.grew hg)

section
variable {P:Program}{id:Nat}{ops:Array Oper}{Q:Exit→Act→World→Prop}{a0:Act}{w0:World}
theorem wp_still (sl:List (Option Nat)) (D:List Bool) (ps:List (Value→World→Prop)) (hm:P.follows .mixedOrders=true) (hok:regionOk ops sl D=true) (hD:D.length=a0.tmps.size)
 (hs:Steps P Still (postAt ps) sl (mixA D a0) w0.drew 0 ops.toList) (hend:∀u,(∀i,i < ops.size→postAt ps i (uval sl u i) w0.drew)→Q .normal (mixA D a0 u) w0.drew):(Code.region id ops true).wp P Q a0 w0 :=
 wp_region_posts sl D Still (postAt ps) hm hok hD (fun _=>rfl) (fun h h'=>h'.trans h) (fun _ _ _ _ h p=>by rw [show _=_ from h];exact p) hs (fun u w h hp=>by
  obtain rfl:w=w0.drew:=h
  exact hend u hp)
end
section
variable {P:Program}{dst:Option Tmp}{ty:TypeId}{pos:String}{after:Array Edge}{g:Option (Nat × Bool)}{a:Act}{w:World}{T:Value→World→Prop}
theorem ev {x:Nat}{v:Value}(h:slot a x=v):a.eval (.tmp x)=v:=(slot_eval a x).trans h
theorem runs_mv {o:Operand}{v:Value}(hx:a.eval o=v) (h:T v w):Runs P ⟨dst,.move o,ty,pos,after,g⟩ a w T:=Runs.value (w':=w) rfl (by rw [hx];exact h)
theorem runs_mva {o:Operand}{v:Value}(hx:a.eval o=v) (h:T v w):Runs P ⟨dst,.assign o,ty,pos,after,g⟩ a w T:=Runs.value (w':=w) rfl (by rw [hx];exact h)
theorem runs_nt {t:TypeId}{o:Operand}{b:Bool}(hx:a.eval o=.bool b) (h:T (.bool !b) w):Runs P ⟨dst,.unOp .not t o,ty,pos,after,g⟩ a w T:=by
 refine Runs.value (v:=.bool !b) (w':=w) ?_ h
 simp only [execOp,hx]
 rfl
theorem runs_an {x y:Operand}{b c:Bool}(hx:a.eval x=.bool b) (hy:b=true→a.eval y=.bool c) (h:T (.bool (b&&c)) w):Runs P ⟨dst,.pick x y (.const (.bool false)),ty,pos,after,g⟩ a w T:=by
 refine Runs.value (v:=.bool (b&&c)) (w':=w) ?_ h
 simp only [execOp,hx]
 cases b with
 | false=>rfl
 | true=>rw [hy rfl];rfl
theorem runs_or2 {x y:Operand}{b c:Bool}(hx:a.eval x=.bool b) (hy:b=false→a.eval y=.bool c) (h:T (.bool (b||c)) w):Runs P ⟨dst,.pick x (.const (.bool true)) y,ty,pos,after,g⟩ a w T:=by
 refine Runs.value (v:=.bool (b||c)) (w':=w) ?_ h
 simp only [execOp,hx]
 cases b with
 | true=>rfl
 | false=>rw [hy rfl];rfl
theorem runs_c1 {f:FuncId}{x:Operand}{ts:Array TypeId}{v:Value}(hf:Enters P f) (hx:a.eval x=v) (h:Calls P f #[v] w fun e w''=>∃v,e=.returned v∧T v w''):Runs P ⟨dst,.call { callee:=.value (.func f),args:=#[x],argTypes:=ts },ty,pos,after,g⟩ a w T :=
 runs_call hf (by simp [hx]) h
theorem runs_c2 {f:FuncId}{x y:Operand}{ts:Array TypeId}{v u:Value}(hf:Enters P f) (hx:a.eval x=v) (hy:a.eval y=u) (h:Calls P f #[v,u] w fun e w''=>∃v,e=.returned v∧T v w''):Runs P ⟨dst,.call { callee:=.value (.func f),args:=#[x,y],argTypes:=ts },ty,pos,after,g⟩ a w T :=
 runs_call hf (by simp [hx,hy]) h
theorem callp {f:FuncId}{vs:Array Value}{x:Value}{R:World→Prop}{F:Value→Prop}(hp:∀v,v=x→F v) (h:Calls P f vs w fun e w'=>e=.returned x∧R w'):Calls P f vs w fun e w'=>∃v,e=.returned v∧(R w'∧F v) :=
 h.mono fun _ _ ⟨h1,h2⟩=>⟨x,h1,h2,hp x rfl⟩
end
section
variable {P:Program}{id:Nat}{ops:Array Oper}{Q:Exit→Act→World→Prop}{a0:Act}{w0:World}
end
section
variable {P:Program}{id:Nat}{ops:Array Oper}{Q:Exit→Act→World→Prop}{a0:Act}{w0:World}
end
def MonosR (R:World→World→Prop):List (Value→World→Prop)→Prop
 | []=>True
 | p :: ps=>(∀v w w',R w w'→p v w→p v w')∧MonosR R ps
theorem MonosR.at {R:World→World→Prop}:∀{ps:List (Value→World→Prop)},MonosR R ps→∀(i:Nat) (v:Value) (w w':World),R w w'→postAt ps i v w→postAt ps i v w'
 | [],_,_,_,_,_,_,_=>trivial
 | _ :: _,h,0,v,w,w',hg,hp=>h.1 v w w' hg hp
 | _ :: ps,h,i+1,v,w,w',hg,hp=>MonosR.at (ps:=ps) h.2 i v w w' hg hp
def Sta (R:World→World→Prop) (w0:World) (q:Addr) (v:Value):Prop:=∀w,R w0 w→w.cell? q=some v
theorem Sta.kept {R:World→World→Prop}{w0 w:World}{q:Addr}{v:Value}(h:Sta R w0 q v) (hR:R w0 w):w.cell? q=some v:=h w hR
structure Turns (S:Nat) (old new:List Value) (e:TypeId) (w w':World):Prop where
 chg:Chg w w' (fun k=>k=S)
 some:(Blk S old e w∨Blk S new e w)→(Blk S old e w'∨Blk S new e w')
 stay:Blk S new e w→Blk S new e w'
theorem Turns.refl {S:Nat}{old new:List Value}{e:TypeId}(w:World):Turns S old new e w w:=⟨Chg.refl _ _,fun h=>h,fun h=>h⟩
theorem Turns.trans {S:Nat}{old new:List Value}{e:TypeId}{a b c:World}(h:Turns S old new e a b) (h':Turns S old new e b c):Turns S old new e a c :=
 ⟨h.chg.trans h'.chg,fun x=>h'.some (h.some x),fun x=>h'.stay (h.stay x)⟩
theorem Turns.of_grew {S:Nat}{old new:List Value}{e:TypeId}{a b:World}(h:Grew a b):Turns S old new e a b :=
 ⟨Chg.of_grew h _,fun x=>x.imp (fun y=>y.grew h) (fun y=>y.grew h),fun y=>y.grew h⟩
theorem Turns.blk {S:Nat}{old new:List Value}{e e':TypeId}{a b:World}(h:Turns S old new e a b){T:Nat}{vs:List Value}(hT:Blk T vs e' a) (hne:T≠S):Blk T vs e' b:=hT.chg h.chg hne
theorem Grew.sz {a w:World}(h:Grew a w):a.heap.size≤w.heap.size:=Below.size h
end Go.Proofs.YtcknpcbkofgdoaaGreatDoor
namespace Go.Proofs.YtcknpcbkofgdoaaGreatDoor
open Go Go.RowKit Go.ChangeShapes Go.WideShapes Go.ChangeAt
theorem wpList_append_rowO {α:Type}{k:Nat}{enc:α→List Value}{P:Program}{w:World}{ops:Array Oper}{rest:List Oper}{o:Oper}{a:Act}{Q:Exit→Act→World→Prop}(E:Enc k enc) (hgd:o.guard=none) (s x:Operand) (t:TypeId)
 (ho:o.op=.call { callee:=.builtin .append,args:=#[s,x],argTypes:=#[t,t] })
 (base:Nat) (e:TypeId) (z:Value) (by':Nat) (ht:P.underlying t=some (.slice e)) (hi:(P.info? e).map (fun i=>(i.zero,i.size,i.bytes))=some (some z,k,by')) (hzs:z.cells.size=k)
 (v:Value) (xs:List α) (hs:a.eval s=v) (hown:OwR w base e k enc v xs)
 (p:Option Addr) (n c:Nat) (ys:List α) (hx:a.eval x=.slice p n c) (hl:ys.length=n) (hin:Rw k enc w p c ys)
 (hbytes:(xs.length+ys.length) * by'≤140737488355328) (h63:xs.length+ys.length≤9223372036854775807) (hbase:base≤w.heap.size)
 (h:∀p' c' zs w',Hid (zs=xs++ys)→OwR w' base e k enc (.slice p' zs.length c') zs→Below base w w'→Chg w w' (fun j=>v.ownBlock=some j)→(Value.ownBlock (.slice p' zs.length c')=v.ownBlock∨Value.ownBlock (.slice p' zs.length c')=some w.heap.size)→wpList P ops Q rest (a.put o.dst (.slice p' zs.length c')) w'):wpList P ops Q (o :: rest) a w:=by
 obtain ⟨v',w',hrun,h2,h3,h4,h5⟩:=run_append_row (P:=P) E t o.type base e z by' ht hi hzs v xs hown p n c ys hl hin hbytes h63 hbase
 obtain ⟨p',c',rfl,_,_⟩:=h2.parts E
 refine wpList_plain hgd fun K hK=>?_
 unfold Oper.wp
 simp [execOp,ho,resolve,invoke,builtin,hs,hx,hrun,Result.andThen]
 have:=h p' c' _ w' rfl h2 h3 (Chg.of_grownBy h4) h5
 rw [List.length_append] at this
 exact hK _ _ this
end Go.Proofs.YtcknpcbkofgdoaaGreatDoor
namespace Go.Proofs.YtcknpcbkofgdoaaGreatDoor
open Go Go.RowKit Go.ChangeShapes Go.WideShapes Go.ChangeAt
theorem runs_append_rowO {α:Type}{k:Nat}{enc:α→List Value}{P:Program}{w:World}{a:Act}(E:Enc k enc){s x:Operand}{t ty:TypeId}{dst:Option Tmp}{pos:String}{after:Array Edge}{g:Option (Nat × Bool)}{T:Value→World→Prop}
 (base:Nat) (e:TypeId) (z:Value) (by':Nat) (ht:P.underlying t=some (.slice e)) (hi:(P.info? e).map (fun i=>(i.zero,i.size,i.bytes))=some (some z,k,by')) (hzs:z.cells.size=k)
 (v:Value) (xs:List α) (hs:a.eval s=v) (hown:OwR w base e k enc v xs)
 (p:Option Addr) (n c:Nat) (ys:List α) (hx:a.eval x=.slice p n c) (hl:ys.length=n) (hin:Rw k enc w p c ys)
 (hbytes:(xs.length+ys.length) * by'≤140737488355328) (h63:xs.length+ys.length≤9223372036854775807) (hbase:base≤w.heap.size)
 (h:∀p' c' w',OwR w' base e k enc (.slice p' (xs.length+ys.length) c') (xs++ys)→Below base w w'→Chg w w' (fun j=>v.ownBlock=some j)→(Value.ownBlock (.slice p' (xs.length+ys.length) c')=v.ownBlock∨Value.ownBlock (.slice p' (xs.length+ys.length) c')=some w.heap.size)→T (.slice p' (xs.length+ys.length) c') w') :
 Runs P ⟨dst,.call { callee:=.builtin .append,args:=#[s,x],argTypes:=#[t,t] },ty,pos,after,g⟩ a w T:=by
 obtain ⟨v',w',hrun,h2,h3,h4,h5⟩:=run_append_row (P:=P) E t ty base e z by' ht hi hzs v xs hown p n c ys hl hin hbytes h63 hbase
 obtain ⟨p',c',rfl,_,_⟩:=h2.parts E
 rw [List.length_append] at h2 hrun h5
 refine Runs.value (v:=.slice p' (xs.length+ys.length) c') (w':=w') ?_ (h p' c' w' h2 h3 (Chg.of_grownBy h4) h5)
 simp [execOp,resolve,invoke,builtin,hs,hx,hrun,Result.andThen]
end Go.Proofs.YtcknpcbkofgdoaaGreatDoor
namespace Go.Proofs.YtcknpcbkofgdoaaGreatDoor
open Go Go.RowKit
abbrev Blks:=Nat→Prop
def Abides {β:Type}(C:Blks) (J:Blks→β→World→Prop):Prop:=∀P P' s W W',J P s W→Chg W W' (fun k=>P k∧C k)→(∀k,k < W.heap.size→P' k→P k)→J P' s W'
structure Kept (P:Blks) (W W':World):Prop where
 size:W.heap.size≤W'.heap.size
 same:∀k,k < W.heap.size→P k→W'.heap[k]?=W.heap[k]?
theorem Kept.refl (P:Blks) (W:World):Kept P W W:=⟨Nat.le_refl _,fun _ _ _=>rfl⟩
theorem Kept.trans {P:Blks}{A B C:World}(h:Kept P A B) (k:Kept P B C):Kept P A C :=
 ⟨Nat.le_trans h.size k.size,fun i hi hp=>(k.same i (Nat.lt_of_lt_of_le hi h.size) hp).trans (h.same i hi hp)⟩
theorem Kept.sub {P P':Blks}{A B:World}(h:Kept P A B) (hs:∀k,P' k→P k):Kept P' A B:=⟨h.size,fun k hk hp=>h.same k hk (hs k hp)⟩
theorem Kept.heap {P:Blks}{A B:World}(h:Kept P A B){k:Nat}(hp:P k){o:Obj}(ho:A.heap[k]?=some o):B.heap[k]?=some o:=(h.same k (lt_of_heap ho) hp).trans ho
theorem Kept.of_grew {P:Blks}{A B:World}(h:Grew A B):Kept P A B:=⟨Below.size h,fun k hk _=>Below.block h k hk⟩
theorem Kept.of_chg {P S:Blks}{A B:World}(h:Chg A B S) (hd:∀k,P k→¬ S k):Kept P A B:=⟨h.size,fun k hk hp=>h.block k hk (hd k hp)⟩
theorem chg_put (W:World) (r:Nat) (o:Obj):Chg W (W.putObj r o) (fun k=>k=r):=⟨rfl,rfl,rfl,by simp,fun _ _ hk=>World.putObj_heap_other hk⟩
theorem Abides.put {β:Type}{C:Blks}{J:Blks→β→World→Prop}(h:Abides C J){P:Blks}{s:β}{W:World}(hs:J P s W){r:Nat}(hr:P r) (hN:C r) (o:Obj):J P s (W.putObj r o) :=
 h P P s W _ hs ((chg_put W r o).mono fun _ e=>e ▸ ⟨hr,hN⟩) (fun _ _ h=>h)
theorem Abides.grew {β:Type}{C:Blks}{J:Blks→β→World→Prop}(h:Abides C J){P P':Blks}{s:β}{W W':World}(hs:J P s W) (hg:Grew W W') (hp:∀k,k < W.heap.size→P' k→P k):J P' s W' :=
 h P P' s W W' hs (Chg.of_grew hg _) hp
theorem Abides.and {β:Type}{C:Blks}{J K:Blks→β→World→Prop}(h:Abides C J) (h':Abides C K):Abides C (fun P s W=>J P s W∧K P s W) :=
 fun P P' s W W' hs hc hp=>⟨h P P' s W W' hs.1 hc hp,h' P P' s W W' hs.2 hc hp⟩
def Yields (P:Program) (l:Nat) (args:Array Value) (W:World) (R:Ending→World→Prop):Prop :=
 ∃fn tmps assign body,(Instr.yield l args).run P W=.ok (.round l fn tmps assign body) W∧∀m,RoundIn Fence.wide m P l fn tmps assign body W R
theorem Yields.mono {P:Program}{l:Nat}{args:Array Value}{W:World}{R R':Ending→World→Prop}(h:Yields P l args W R) (hr:∀e w,R e w→R' e w):Yields P l args W R':=by
 obtain ⟨fn,tmps,assign,body,hy,hR⟩:=h
 exact⟨fn,tmps,assign,body,hy,fun m=>(hR m).mono hr⟩
def eachPost {α:Type}(P:Blks) (I:Blks→List α→World→Prop) (Ix:Code→Blks→List α→World→Prop) (xs:List α) (W:World):Exit→Act→World→Prop
 | .normal,_,W'=>Kept P W W'∧I P xs W'
 | .ret,_,W'=>Kept P W W'∧Ix .ret P xs W'
 | .exit id,_,W'=>Kept P W W'∧Ix (.exit id) P xs W'
 | .goto t,_,W'=>Kept P W W'∧Ix (.goto t) P xs W'
 | .panic _,_,_=>False
 | .outgrown,_,_=>False
def Gives {α:Type}(P:Program) (gf:Nat) (lb:Array Value) (encs:α→Array Value) (Fr:Blks→List α→α→World→Prop) (P₀:Blks) (S Sp:List α→Prop) (w:World):Prop :=
 ∀(n l:Nat) (J Jx:Blks→List α→World→Prop) (W:World),Grew w W→w.heap.size+2≤W.heap.size→Abides (fun _=>False) J→Abides (fun _=>False) Jx →
  (∀P1 pre x W1,J P1 pre W1→Fr P1 pre x W1→(∀k,P1 k→k < W1.heap.size)→Yields P l (encs x) W1 fun e W'=>(e=.returned (.bool true)∧J P1 (pre++[x]) W'∧Kept P1 W1 W')∨(e=.returned (.bool false)∧Jx P1 (pre++[x]) W'∧Kept P1 W1 W')) →
  J P₀ [] W→CallsIn Fence.wide n P gf (#[.func (.yield l) #[] #[]]++lb) W fun e W'=>(∃v,e=.returned v)∧((∃xs P1,S xs∧J P1 xs W')∨(∃pre P1,Sp pre∧Jx P1 pre W'))
theorem wpIn_each {α:Type}{P:Program}{n:Nat}{g:Operand}{ps:Array Tmp}{assign body:Code}{Q:Exit→Act→World→Prop}{a:Act}{w:World}{gf:Nat}{lb:Array Value}
 (hg:a.eval g=.func (.func gf) #[] lb) (eg:∀args w,(callFunc gf args).run P w=.ok (.enter gf args) w){encs:α→Array Value}(hps:∀x,(encs x).size=ps.size)
 {Fr:Blks→List α→α→World→Prop}(hFr:∀P1 P2 pre x A B,Fr P1 pre x A→Kept P1 A B→(∀k,P1 k→P2 k)→Fr P2 pre x B)
 {P₀:Blks}{S Sp:List α→Prop}(hseq:Gives P gf lb encs Fr P₀ S Sp w) (hP₀:∀k,P₀ k→k < w.heap.size)
 (I:Blks→List α→World→Prop) (Ix:Code→Blks→List α→World→Prop) (hI:Abides (fun k=>k=w.heap.size∨k=w.heap.size+1) I) (hIx:∀c,Abides (fun k=>k=w.heap.size∨k=w.heap.size+1) (Ix c)) (h0:I P₀ [] w) (As:Nat→α→Act→World→Prop)
 (hassign:∀(l m:Nat) (x:α) (W:World) (K:Act→World→Prop),(∀a1 W1,Grew W W1→As W.heap.size x a1 W1→K a1 W1) →
   assign.wpIn (Fence.wide.inRound l) m P (Exit.then K (fun _ _ _=>False)) { tmps:=(ps.zip (encs x)).foldl (fun t (p,v)=>t.setIfInBounds p v) a.tmps,defers:=[] } W)
 (hput:∀(z:Nat) (x:α) (a1:Act) (W1:World) (r:Nat) (o:Obj),r < z→As z x a1 W1→As z x a1 (W1.putObj r o))
 (hbody:∀(l m z:Nat) (P1:Blks) (pre:List α) (x:α) (a1:Act) (W:World),I P1 pre W→Fr P1 pre x W→(∀k,P1 k→k < z)→z≤W.heap.size→As z x a1 W→body.wpIn (Fence.wide.inRound l) m P (eachPost P1 I Ix (pre++[x]) W) a1 W)
 (hdone:∀(D:Nat) (P1:Blks) (xs:List α) (W:World),D=w.heap.size→P1 D→S xs→I P1 xs W→W.heap[D]?=some (.deferred (some []))→Q .normal { a with defers:={ target:=.collected D,args:=#[] } :: a.defers } W)
 (hstop:∀(D:Nat) (c:Code) (P1:Blks) (pre:List α) (W:World),D=w.heap.size→P1 D→Sp pre→Ix c P1 pre W→W.heap[D]?=some (.deferred (some []))→c.wpIn Fence.wide n P Q { a with defers:={ target:=.collected D,args:=#[] } :: a.defers } W) :
 (Code.rangeFunc g ps assign body).wpIn Fence.wide n P Q a w:=by
 refine wpIn_rangeFunc fun fn _=>?_
 obtain ⟨D,hD⟩:∃D,D=w.heap.size:=⟨_,rfl⟩
 obtain ⟨L,hL⟩:∃L,L=D+1:=⟨_,rfl⟩
 obtain ⟨rc,hrc⟩:∃rc:LoopState→Option Code→Loop,rc=fun st pe=>{ state:=st,pending:=pe,fn,tmps:=a.tmps,params:=ps,assign,body,defers:=D }:=⟨_,rfl⟩
 obtain ⟨V,hV⟩:∃V,V=(w.alloc (.deferred (some []))).alloc (.loop (rc .ready none)):=⟨_,rfl⟩
 have hVD:V.heap[D]?=some (.deferred (some [])):=by
  rw [hV,hD]
  exact(Below.heap_alloc _ _ _ (by simp)).trans (World.alloc_heap_new w _)
 have hVL:V.heap[L]?=some (.loop (rc .ready none)):=by
  have:=World.alloc_heap_new (w.alloc (.deferred (some []))) (.loop (rc .ready none))
  rw [World.size_alloc] at this
  rw [hV,hL,hD]
  exact this
 have hgV:Grew w V:=by
  rw [hV]
  exact((Below.refl _ w).alloc (Nat.le_refl _) _).alloc (by simp) _
 have hLD:L≠D:=by omega
 refine⟨L,[{ target:=.collected D,args:=#[] }],V,{ target:=.fn (.func gf) lb,args:=#[.func (.yield L) #[] #[]] },V,gf,#[.func (.yield L) #[] #[]]++lb,V,?_,?_,fun f' _=>trivial,?_,fun h=>by simp [Fence.wide] at h,?_⟩
 ·rw [hV,hrc,hL,hD]
  exact run_enterLoop_outer _ _ _ _ _
 ·simp only [resolve,hg]
  simp [go_sem]
 ·simp [invoke,go_sem,eg]
 obtain ⟨X,hX⟩:∃X:Blks→Blks,X=fun P1 k=>P1 k∨k=D∨k=L:=⟨_,rfl⟩
 have xD:∀P1,X P1 D:=fun P1=>by rw [hX];exact .inr (.inl rfl)
 have xL:∀P1,X P1 L:=fun P1=>by rw [hX];exact .inr (.inr rfl)
 have xi:∀P1 k,P1 k→X P1 k:=fun P1 k h=>by rw [hX];exact .inl h
 have nL0:L=w.heap.size∨L=w.heap.size+1:=by omega
 have nD0:D=w.heap.size∨D=w.heap.size+1:=by omega
 have key:∀{β:Type}{K:Blks→β→World→Prop}(hK:Abides (fun k=>k=w.heap.size∨k=w.heap.size+1) K) (st:LoopState) (pe:Option Code) (P1 P2:Blks) (s:β) (A B:World),
  (K (X P1) s A∧A.heap[L]?=some (.loop (rc st pe))∧A.heap[D]?=some (.deferred (some []))∧¬ P1 L∧¬ P1 D)→Chg A B (fun k=>P1 k∧False)→(∀k,k < A.heap.size→P2 k→P1 k) →
  (K (X P2) s B∧B.heap[L]?=some (.loop (rc st pe))∧B.heap[D]?=some (.deferred (some []))∧¬ P2 L∧¬ P2 D):=by
  rintro β K hK st pe P1 P2 s A B ⟨h1,h2,h3,h4,h5⟩ hc hp
  refine⟨hK (X P1) (X P2) s A B h1 (hc.mono fun k h=>h.2.elim) (fun k hk hx=>?_),(hc.block L (lt_of_heap h2) (fun h=>h4 h.1)).trans h2,(hc.block D (lt_of_heap h3) (fun h=>h5 h.1)).trans h3,fun h=>h4 (hp L (lt_of_heap h2) h),fun h=>h5 (hp D (lt_of_heap h3) h)⟩
  rw [hX] at hx ⊢
  exact hx.imp_left (hp k hk)
 refine(hseq (n - 1) L (fun P1 pre W=>I (X P1) pre W∧W.heap[L]?=some (.loop (rc .ready none))∧W.heap[D]?=some (.deferred (some []))∧¬ P1 L∧¬ P1 D)
  (fun P1 pre W=>∃c,Ix c (X P1) pre W∧W.heap[L]?=some (.loop (rc .done (some c)))∧W.heap[D]?=some (.deferred (some []))∧¬ P1 L∧¬ P1 D) V hgV (by rw [hV];simp)
  (fun P1 P2 s A B h hc hp=>key hI _ _ P1 P2 s A B h hc hp) (fun P1 P2 s A B h hc hp=>by
    obtain ⟨c,h⟩:=h
    exact⟨c,key (hIx c) _ _ P1 P2 s A B h hc hp⟩) ?_ ⟨hI.grew h0 hgV (fun k hk hx=>?_),hVL,hVD,fun h=>?_,fun h=>?_⟩).mono ?_
 ·rintro P1 pre x W ⟨hi,hl,hd,nL,nD⟩ hfr hbd
  have hy:=run_yield (P:=P) (args:=encs x) hl (by rw [hrc];exact hps x)
  rw [hrc] at hy
  refine⟨fn,_,assign,body,hy,fun m=>roundIn_of_wpIn trivial (hassign L m x W _ ?_)⟩
  intro a1 V1 hg1 has
  have hkW:Kept P1 W V1:=Kept.of_grew hg1
  have hz1:W.heap.size≤V1.heap.size:=Below.size hg1
  have hLW:=lt_of_heap hl
  have hDW:=lt_of_heap hd
  have hbW:=hbd
  replace hi:=hI.grew hi hg1 (P':=X P1) (fun _ _ h=>h)
  replace hl:=(Below.block hg1 L (lt_of_heap hl)).trans hl
  replace hd:=(Below.block hg1 D (lt_of_heap hd)).trans hd
  clear hy hbd
  refine⟨_,run_beginRound hl (by rw [hrc]),?_⟩
  have hl2:(V1.putObj L (.loop { rc .ready none with state:=.busy })).heap[L]?=some (.loop { rc .ready none with state:=.busy }):=World.putObj_heap_same (lt_of_heap hl)
  have hd2:(V1.putObj L (.loop { rc .ready none with state:=.busy })).heap[D]?=some (.deferred (some [])):=(World.putObj_heap_other (Ne.symm hLD)).trans hd
  refine wpIn_mono (hbody L m W.heap.size (X P1) pre x a1 _ (hI.put hi (xL P1) nL0 _) (hFr P1 (X P1) pre x W _ hfr (hkW.trans (Kept.of_chg (chg_put V1 L _) (fun k hk e=>nL (e ▸ hk)))) (xi P1)) (fun k hk=>by
   rw [hX] at hk
   rcases hk with h | h | h
   ·exact hbW k h
   ·omega
   ·omega) (by rw [World.putObj_size];exact hz1) (hput _ _ _ _ _ _ hLW has)) ?_
  have fin:∀(jump:Option Code) (A:World),Kept (X P1) (V1.putObj L (.loop { rc .ready none with state:=.busy })) A →
   (Instr.endRound L jump).run P A=.ok (.bool jump.isNone) (A.putObj L (.loop (rc (if jump.isNone then .ready else .done) jump))) ∧
   (A.putObj L (.loop (rc (if jump.isNone then .ready else .done) jump))).heap[L]?=some (.loop (rc (if jump.isNone then .ready else .done) jump)) ∧
   (A.putObj L (.loop (rc (if jump.isNone then .ready else .done) jump))).heap[D]?=some (.deferred (some []))∧Kept P1 W (A.putObj L (.loop (rc (if jump.isNone then .ready else .done) jump))):=fun jump A hk=>by
   have hl3:=hk.heap (xL P1) hl2
   have hr:=run_endRound (P:=P) jump hl3
   rw [hrc] at hr ⊢
   refine⟨hr,World.putObj_heap_same (lt_of_heap hl3),(World.putObj_heap_other (Ne.symm hLD)).trans (hk.heap (xD P1) hd2),?_⟩
   refine hkW.trans ⟨by simpa using hk.size,fun k hk0 hp=>?_⟩
   have hkL:k≠L:=fun e=>nL (e ▸ hp)
   rw [World.putObj_heap_other hkL,hk.same k (by simpa using hk0) (xi P1 k hp),World.putObj_heap_other hkL]
  rintro e a3 A hp
  cases e with
  | normal =>
    obtain ⟨hk,hi3⟩:=hp
    obtain ⟨h1,h2,h3,h4⟩:=fin none A hk
    exact⟨_,_,h1,.inl ⟨rfl,⟨hI.put hi3 (xL P1) nL0 _,h2,h3,nL,nD⟩,h4⟩⟩
  | ret =>
    obtain ⟨hk,hi3⟩:=hp
    obtain ⟨h1,h2,h3,h4⟩:=fin (some .ret) A hk
    exact⟨_,_,h1,.inr ⟨rfl,⟨.ret,(hIx _).put hi3 (xL P1) nL0 _,h2,h3,nL,nD⟩,h4⟩⟩
  | exit id =>
    obtain ⟨hk,hi3⟩:=hp
    obtain ⟨h1,h2,h3,h4⟩:=fin (some (.exit id)) A hk
    exact⟨_,_,h1,.inr ⟨rfl,⟨.exit id,(hIx _).put hi3 (xL P1) nL0 _,h2,h3,nL,nD⟩,h4⟩⟩
  | goto t =>
    obtain ⟨hk,hi3⟩:=hp
    obtain ⟨h1,h2,h3,h4⟩:=fin (some (.goto t)) A hk
    exact⟨_,_,h1,.inr ⟨rfl,⟨.goto t,(hIx _).put hi3 (xL P1) nL0 _,h2,h3,nL,nD⟩,h4⟩⟩
  | panic ch=>exact hp.elim
  | outgrown=>exact hp.elim
 ·rw [hX] at hx
  rcases hx with h | h | h
  ·exact h
  ·omega
  ·omega
 ·have:=hP₀ L h
  omega
 ·have:=hP₀ D h
  omega
 ·rintro e A ⟨⟨v,rfl⟩,(⟨xs,P1,hS,hi,hl,hd,nL,nD⟩ | ⟨pre,P1,hSp,c,hi,hl,hd,nL,nD⟩)⟩
  ·have hr:=run_endLoop (P:=P) hl (by rw [hrc];simp)
   rw [hrc] at hr
   exact⟨none,_,hr,hdone D (X P1) xs _ (by omega) (xD P1) hS (hI.put hi (xL P1) nL0 _) ((World.putObj_heap_other (Ne.symm hLD)).trans hd)⟩
  ·have hr:=run_endLoop (P:=P) hl (by rw [hrc];simp)
   rw [hrc] at hr
   exact⟨some c,_,hr,hstop D c (X P1) pre _ (by omega) (xD P1) hSp ((hIx c).put hi (xL P1) nL0 _) ((World.putObj_heap_other (Ne.symm hLD)).trans hd)⟩
def marks (Ds:List Nat):List Deferred:=Ds.map fun D=>{ target:=.collected D,args:=#[] }
theorem leaves_marks {P:Program}{n:Nat}{fn:Func}{tmps:Array Value}{R:Ending→World→Prop}:∀(Ds:List Nat) (w:World),Ds.Nodup→(∀D ∈ Ds,w.heap[D]?=some (.deferred (some []))) →
 (∀w',Chg w w' (fun k=>k ∈ Ds)→∃v,(results fn tmps).run P w'=.ok v w'∧R (.returned v) w')→LeavesInM Fence.wide n P fn tmps R (marks Ds) .returning w:=by
 intro Ds
 induction Ds with
 | nil=>intro w _ _ h;exact h w (Chg.refl _ _)
 | cons D Ds ih =>
   intro w hn hd h
   refine⟨by simp,.inl ⟨D,w.putObj D (.deferred none),rfl,run_takeDeferred (hd D (by simp)),ih _ (List.nodup_cons.1 hn).2 (fun D' h'=>?_) (fun w' hc=>h w' ?_)⟩⟩
   ·have hne:D'≠D:=fun e=>(List.nodup_cons.1 hn).1 (e ▸ h')
    exact(World.putObj_heap_other hne).trans (hd D' (by simp [h']))
   ·exact((chg_put w D _).mono fun k hk=>by simp [hk]).trans (hc.mono fun k hk=>by simp [hk])
end Go.Proofs.YtcknpcbkofgdoaaGreatDoor
namespace Go.Proofs.YtcknpcbkofgdoaaGreatDoor
open Go Go.RowKit
set_option linter.unusedSimpArgs false
set_option linter.unusedVariables false
def Asked (P:Program) (y:Value) (args:Array Value) (W:World) (R:Ending→World→Prop):Prop :=
 (∃l,y=.func (.yield l) #[] #[]∧Yields P l args W R) ∨
 (∃f lb,y=.func (.func f) #[] lb∧(∀args w,(callFunc f args).run P w=.ok (.enter f args) w)∧Calls P f (args++lb) W R)
theorem Asked.mono {P:Program}{y:Value}{args:Array Value}{W:World}{R R':Ending→World→Prop}(h:Asked P y args W R) (hr:∀e w,R e w→R' e w):Asked P y args W R':=by
 rcases h with ⟨l,rfl,h⟩ | ⟨f,lb,rfl,h1,h2⟩
 ·exact .inl ⟨l,rfl,h.mono hr⟩
 ·exact .inr ⟨f,lb,rfl,h1,h2.mono hr⟩
theorem wpListIn_asked {n:Nat}{P:Program}(w:World){ops:Array Oper}{rest:List Oper}{o:Oper}{a:Act}{Q:Exit→Act→World→Prop}(hw:Region.wanted o (yielded ops a.tmps)=true)
 (g:Operand) (xs:Array Operand) (ats:Array TypeId) (hop:o.op=.call { callee:=.value g,args:=xs,argTypes:=ats }) (y:Value) (hy:a.eval g=y) (args:Array Value) (hx:xs.map a.eval=args)
 (R:Ending→World→Prop) (h:Asked P y args w R) (hR:∀e w',R e w'→∃v,e=.returned v∧wpListIn Fence.wide n P ops Q rest (a.put o.dst v) w') :
 wpListIn Fence.wide n P ops Q (o :: rest) a w:=by
 refine wpListIn_step fun K hK=>?_
 simp only [hw,if_true]
 unfold Oper.wpIn
 refine⟨fun _ _=>trivial,?_⟩
 rw [Oper.semAt_plain _ _ _ (by rw [hop];intro c hc;cases hc)]
 rcases h with ⟨l,rfl,fn,tmps,asg,body,h1,h2⟩ | ⟨f,lb,rfl,h1,h2⟩
 ·have he:(execOp a.eval o).run P w=.ok (.round l fn tmps asg body) w:=by
   simp [execOp,hop,resolve,hy,hx,Deferred.ofValue,invoke,h1,Sem.run_bind,Result.andThen]
  rw [he,Oper.uponIn_round]
  exact⟨fun hd=>absurd hd (by decide),(h2 _).mono fun e w' hr=>by
   obtain ⟨v,rfl,hk⟩:=hR e w' hr
   exact hK _ _ hk⟩
 ·have he:(execOp a.eval o).run P w=.ok (.enter f (args++lb)) w:=by
   simp [execOp,hop,resolve,hy,hx,Deferred.ofValue,invoke,h1,Sem.run_bind,Result.andThen]
  rw [he,Oper.uponIn_enter]
  exact⟨fun hd=>absurd hd (by decide),(callsIn_wide.2 h2).mono fun e w' hr=>by
   obtain ⟨v,rfl,hk⟩:=hR e w' hr
   exact hK _ _ hk⟩
end Go.Proofs.YtcknpcbkofgdoaaGreatDoor
namespace Go.Proofs.YtcknpcbkofgdoaaGreatDoor
open Go Go.RowKit
set_option linter.unusedVariables false
inductive Xp where
 | mk (k:Int) (s:ByteArray) (v o:Int) (ar:List Xp) (q:Int)
inductive Sm where
 | mk (k:Int) (s:ByteArray) (n:Int) (ar:List Xp) (b e:List Sm) (q:Int)
namespace Xp
def k:Xp→Int | ⟨k,_,_,_,_,_⟩=>k
def s:Xp→ByteArray | ⟨_,s,_,_,_,_⟩=>s
def v:Xp→Int | ⟨_,_,v,_,_,_⟩=>v
def o:Xp→Int | ⟨_,_,_,o,_,_⟩=>o
def ar:Xp→List Xp | ⟨_,_,_,_,ar,_⟩=>ar
def q:Xp→Int | ⟨_,_,_,_,_,q⟩=>q
theorem eta:∀x:Xp,x=⟨x.k,x.s,x.v,x.o,x.ar,x.q⟩ | ⟨_,_,_,_,_,_⟩=>rfl
end Xp
namespace Sm
def k:Sm→Int | ⟨k,_,_,_,_,_,_⟩=>k
def s:Sm→ByteArray | ⟨_,s,_,_,_,_,_⟩=>s
def n:Sm→Int | ⟨_,_,n,_,_,_,_⟩=>n
def ar:Sm→List Xp | ⟨_,_,_,ar,_,_,_⟩=>ar
def b:Sm→List Sm | ⟨_,_,_,_,b,_,_⟩=>b
def e:Sm→List Sm | ⟨_,_,_,_,_,e,_⟩=>e
def q:Sm→Int | ⟨_,_,_,_,_,_,q⟩=>q
theorem eta:∀x:Sm,x=⟨x.k,x.s,x.n,x.ar,x.b,x.e,x.q⟩ | ⟨_,_,_,_,_,_,_⟩=>rfl
end Sm
mutual
theorem Xp.ind {P:Xp→Prop}(h:∀k s v o ar q,(∀a ∈ ar,P a)→P ⟨k,s,v,o,ar,q⟩):∀x,P x
 | ⟨k,s,v,o,ar,q⟩=>h k s v o ar q (Xp.inds h ar)
theorem Xp.inds {P:Xp→Prop}(h:∀k s v o ar q,(∀a ∈ ar,P a)→P ⟨k,s,v,o,ar,q⟩):∀xs:List Xp,∀a ∈ xs,P a
 | []=>fun _ h=>nomatch h
 | x :: xs=>List.forall_mem_cons.2 ⟨Xp.ind h x,Xp.inds h xs⟩
end
mutual
theorem Sm.ind {P:Sm→Prop}(h:∀k s n ar b e q,(∀t ∈ b,P t)→(∀t ∈ e,P t)→P ⟨k,s,n,ar,b,e,q⟩):∀x,P x
 | ⟨k,s,n,ar,b,e,q⟩=>h k s n ar b e q (Sm.inds h b) (Sm.inds h e)
theorem Sm.inds {P:Sm→Prop}(h:∀k s n ar b e q,(∀t ∈ b,P t)→(∀t ∈ e,P t)→P ⟨k,s,n,ar,b,e,q⟩):∀xs:List Sm,∀a ∈ xs,P a
 | []=>fun _ h=>nomatch h
 | x :: xs=>List.forall_mem_cons.2 ⟨Sm.ind h x,Sm.inds h xs⟩
end
mutual
def nX:Xp→Nat
 | ⟨_,_,_,_,ar,_⟩=>nXs ar+1
def nXs:List Xp→Nat
 | []=>0
 | x :: xs=>nX x+nXs xs
end
mutual
def nS:Sm→Nat
 | ⟨_,_,_,_,b,e,_⟩=>nSs b+nSs e+1
def nSs:List Sm→Nat
 | []=>0
 | x :: xs=>nS x+nSs xs
end
mutual
def mS:Sm→Nat
 | ⟨_,_,_,ar,b,e,_⟩=>nXs ar+mSs b+mSs e
def mSs:List Sm→Nat
 | []=>0
 | x :: xs=>mS x+mSs xs
end
theorem nX_pos:∀x,0 < nX x | ⟨_,_,_,_,_,_⟩=>Nat.succ_pos _
theorem nS_pos:∀x,0 < nS x | ⟨_,_,_,_,_,_,_⟩=>Nat.succ_pos _
theorem nX_as (x:Xp):nX x=nXs x.ar+1:=by rw [x.eta];rfl
theorem nS_be (x:Sm):nS x=nSs x.b+nSs x.e+1:=by rw [x.eta];rfl
theorem nXs_mem {x:Xp}:∀{l:List Xp},x ∈ l→nX x≤nXs l
 | y :: l,h=>by
   rw [nXs]
   rcases List.mem_cons.1 h with rfl | h
   ·omega
   ·have:=nXs_mem h;omega
theorem nSs_mem {x:Sm}:∀{l:List Sm},x ∈ l→nS x≤nSs l
 | y :: l,h=>by
   rw [nSs]
   rcases List.mem_cons.1 h with rfl | h
   ·omega
   ·have:=nSs_mem h;omega
theorem mSs_mem {x:Sm}:∀{l:List Sm},x ∈ l→mS x≤mSs l
 | y :: l,h=>by
   rw [mSs]
   rcases List.mem_cons.1 h with rfl | h
   ·omega
   ·have:=mSs_mem h;omega
theorem nXs_append:∀a b:List Xp,nXs (a++b)=nXs a+nXs b
 | [],b=>by simp [nXs]
 | x :: a,b=>by rw [List.cons_append,nXs,nXs,nXs_append a b];omega
theorem nSs_append:∀a b:List Sm,nSs (a++b)=nSs a+nSs b
 | [],b=>by simp [nSs]
 | x :: a,b=>by rw [List.cons_append,nSs,nSs,nSs_append a b];omega
theorem mSs_append:∀a b:List Sm,mSs (a++b)=mSs a+mSs b
 | [],b=>by simp [mSs]
 | x :: a,b=>by rw [List.cons_append,mSs,mSs,mSs_append a b];omega
theorem nXs_len:∀l:List Xp,l.length≤nXs l
 | []=>Nat.le_refl _
 | x :: l=>by rw [nXs,List.length_cons];have:=nXs_len l;have:=nX_pos x;omega
theorem nSs_len:∀l:List Sm,l.length≤nSs l
 | []=>Nat.le_refl _
 | x :: l=>by rw [nSs,List.length_cons];have:=nSs_len l;have:=nS_pos x;omega
theorem nXs_take (l:List Xp) (n:Nat):nXs (l.take n)≤nXs l:=by
 have h:=nXs_append (l.take n) (l.drop n)
 rw [List.take_append_drop] at h
 omega
theorem nSs_take (l:List Sm) (n:Nat):nSs (l.take n)≤nSs l:=by
 have h:=nSs_append (l.take n) (l.drop n)
 rw [List.take_append_drop] at h
 omega
structure Cn where
 s:ByteArray
 v:Int
 q:Int
structure Gl where
 s:ByteArray
 l:Int
 i:Int
 q:Int
structure Ta where
 s:ByteArray
 p:Int
 d:Int
 c:ByteArray
 m:ByteArray
 w:Int
 b:List Sm
 q:Int
structure Pg where
 cs:List Cn
 gs:List Gl
 ss:List ByteArray
 os:List ByteArray
 hs:List Cn
 ts:List Ta
structure Xd where
 k:Int
 s:ByteArray
 v:Int
 o:Int
 p:Option Addr
 n:Nat
 c:Nat
 q:Int
structure Sd where
 k:Int
 s:ByteArray
 n:Int
 ap:Option Addr
 an:Nat
 ac:Nat
 bp:Option Addr
 bn:Nat
 bc:Nat
 ep:Option Addr
 en:Nat
 ec:Nat
 q:Int
structure Td where
 s:ByteArray
 p:Int
 d:Int
 c:ByteArray
 m:ByteArray
 w:Int
 bp:Option Addr
 bn:Nat
 bc:Nat
 q:Int
abbrev xdc (d:Xd):List Value:=[.int .i64 d.k,.string d.s,.int .i16 d.v,.int .i64 d.o,.slice d.p d.n d.c,.int .i64 d.q]
abbrev sdc (d:Sd):List Value:=[.int .i64 d.k,.string d.s,.int .i64 d.n,.slice d.ap d.an d.ac,.slice d.bp d.bn d.bc,.slice d.ep d.en d.ec,.int .i64 d.q]
abbrev tdc (d:Td):List Value:=[.string d.s,.int .i64 d.p,.int .i64 d.d,.string d.c,.string d.m,.int .i64 d.w,.slice d.bp d.bn d.bc,.int .i64 d.q]
abbrev cnc (d:Cn):List Value:=[.string d.s,.int .i16 d.v,.int .i64 d.q]
abbrev glc (d:Gl):List Value:=[.string d.s,.int .i64 d.l,.int .i16 d.i,.int .i64 d.q]
abbrev chc (d:Cn):List Value:=[.string d.s,.int .i64 d.v,.int .i64 d.q]
abbrev strc (s:ByteArray):List Value:=[.string s]
theorem encXd:Enc 6 xdc:=⟨fun _=>rfl,fun x u hu=>by simp at hu;rcases hu with rfl | rfl | rfl | rfl | rfl | rfl <;> rfl,by decide⟩
theorem encSd:Enc 7 sdc:=⟨fun _=>rfl,fun x u hu=>by simp at hu;rcases hu with rfl | rfl | rfl | rfl | rfl | rfl | rfl <;> rfl,by decide⟩
theorem encTd:Enc 8 tdc:=⟨fun _=>rfl,fun x u hu=>by simp at hu;rcases hu with rfl | rfl | rfl | rfl | rfl | rfl | rfl | rfl <;> rfl,by decide⟩
theorem encCn:Enc 3 cnc:=⟨fun _=>rfl,fun x u hu=>by simp at hu;rcases hu with rfl | rfl | rfl <;> rfl,by decide⟩
theorem encGl:Enc 4 glc:=⟨fun _=>rfl,fun x u hu=>by simp at hu;rcases hu with rfl | rfl | rfl | rfl <;> rfl,by decide⟩
theorem encCh:Enc 3 chc:=⟨fun _=>rfl,fun x u hu=>by simp at hu;rcases hu with rfl | rfl | rfl <;> rfl,by decide⟩
theorem encStr:Enc 1 strc:=⟨fun _=>rfl,fun x u hu=>by simp at hu;subst hu;rfl,by decide⟩
abbrev Xp.nd (x:Xp) (p:Option Addr) (c:Nat):Xd:=⟨x.k,x.s,x.v,x.o,p,x.ar.length,c,x.q⟩
abbrev Sm.nd (x:Sm) (ap:Option Addr) (ac:Nat) (bp:Option Addr) (bc:Nat) (ep:Option Addr) (ec:Nat):Sd:=⟨x.k,x.s,x.n,ap,x.ar.length,ac,bp,x.b.length,bc,ep,x.e.length,ec,x.q⟩
abbrev Ta.nd (x:Ta) (bp:Option Addr) (bc:Nat):Td:=⟨x.s,x.p,x.d,x.c,x.m,x.w,bp,x.b.length,bc,x.q⟩
abbrev InB (B:Nat→Prop) (p:Option Addr) (n:Nat):Prop:=0 < n→∀a,p=some a→B a.block
mutual
def XAt (B:Nat→Prop) (w:World):Xp→Xd→Prop
 | ⟨k,s,v,o,ar,q⟩,d=>∃p c,d=⟨k,s,v,o,p,ar.length,c,q⟩∧(s.size≤1048576∧v≤32767)∧InB B p ar.length∧∃L,Rw 6 xdc w p c L∧XsAt B w ar L
def XsAt (B:Nat→Prop) (w:World):List Xp→List Xd→Prop
 | [],L=>L=[]
 | x :: xs,L=>∃d L',L=d :: L'∧XAt B w x d∧XsAt B w xs L'
end
def XL (B:Nat→Prop) (w:World) (p:Option Addr) (c:Nat) (xs:List Xp):Prop:=InB B p xs.length∧∃L,Rw 6 xdc w p c L∧XsAt B w xs L
mutual
def SAt (B:Nat→Prop) (w:World):Sm→Sd→Prop
 | ⟨k,s,n,ar,b,e,q⟩,d=>∃ap ac bp bc ep ec,d=⟨k,s,n,ap,ar.length,ac,bp,b.length,bc,ep,e.length,ec,q⟩∧s.size≤1048576∧XL B w ap ac ar∧(InB B bp b.length∧∃L,Rw 7 sdc w bp bc L∧SsAt B w b L)∧(InB B ep e.length∧∃L,Rw 7 sdc w ep ec L∧SsAt B w e L)
def SsAt (B:Nat→Prop) (w:World):List Sm→List Sd→Prop
 | [],L=>L=[]
 | x :: xs,L=>∃d L',L=d :: L'∧SAt B w x d∧SsAt B w xs L'
end
def SL (B:Nat→Prop) (w:World) (p:Option Addr) (c:Nat) (xs:List Sm):Prop:=InB B p xs.length∧∃L,Rw 7 sdc w p c L∧SsAt B w xs L
def TAt (B:Nat→Prop) (w:World) (t:Ta) (d:Td):Prop:=∃bp bc,d=t.nd bp bc∧(t.s.size≤1048576∧t.c.size≤1048576∧t.m.size≤1048576)∧SL B w bp bc t.b
def TsAt (B:Nat→Prop) (w:World):List Ta→List Td→Prop
 | [],L=>L=[]
 | x :: xs,L=>∃d L',L=d :: L'∧TAt B w x d∧TsAt B w xs L'
def TL (B:Nat→Prop) (w:World) (p:Option Addr) (c:Nat) (xs:List Ta):Prop:=InB B p xs.length∧∃L,Rw 8 tdc w p c L∧TsAt B w xs L
theorem XAt_iff {B:Nat→Prop}{w:World}{x:Xp}{d:Xd}:XAt B w x d↔∃p c,d=x.nd p c∧(x.s.size≤1048576∧x.v≤32767)∧XL B w p c x.ar:=by
 cases x with
 | mk k s v o ar q=>rw [XAt];rfl
theorem SAt_iff {B:Nat→Prop}{w:World}{x:Sm}{d:Sd}:SAt B w x d↔∃ap ac bp bc ep ec,d=x.nd ap ac bp bc ep ec∧x.s.size≤1048576∧XL B w ap ac x.ar∧SL B w bp bc x.b∧SL B w ep ec x.e:=by
 cases x with
 | mk k s n ar b e q=>rw [SAt];rfl
theorem XsAt_len {B:Nat→Prop}{w:World}:∀{xs:List Xp}{L:List Xd},XsAt B w xs L→L.length=xs.length
 | [],_,h=>by rw [XsAt] at h;subst h;rfl
 | x :: xs,_,h=>by
   rw [XsAt] at h
   obtain ⟨d,L',rfl,_,h2⟩:=h
   rw [List.length_cons,List.length_cons,XsAt_len h2]
theorem SsAt_len {B:Nat→Prop}{w:World}:∀{xs:List Sm}{L:List Sd},SsAt B w xs L→L.length=xs.length
 | [],_,h=>by rw [SsAt] at h;subst h;rfl
 | x :: xs,_,h=>by
   rw [SsAt] at h
   obtain ⟨d,L',rfl,_,h2⟩:=h
   rw [List.length_cons,List.length_cons,SsAt_len h2]
theorem TsAt_len {B:Nat→Prop}{w:World}:∀{xs:List Ta}{L:List Td},TsAt B w xs L→L.length=xs.length
 | [],_,h=>by rw [TsAt] at h;subst h;rfl
 | x :: xs,_,h=>by
   rw [TsAt] at h
   obtain ⟨d,L',rfl,_,h2⟩:=h
   rw [List.length_cons,List.length_cons,TsAt_len h2]
theorem XsAt_get {B:Nat→Prop}{w:World}:∀{xs:List Xp}{L:List Xd},XsAt B w xs L→∀(i:Nat) (hi:i < xs.length),∃d,L[i]?=some d∧XAt B w xs[i] d
 | x :: xs,_,h,i,hi=>by
   rw [XsAt] at h
   obtain ⟨d,L',rfl,h1,h2⟩:=h
   cases i with
   | zero=>exact⟨d,rfl,h1⟩
   | succ i =>
     obtain ⟨d',h3,h4⟩:=XsAt_get h2 i (by simpa using hi)
     exact⟨d',by simpa using h3,by simpa using h4⟩
theorem SsAt_get {B:Nat→Prop}{w:World}:∀{xs:List Sm}{L:List Sd},SsAt B w xs L→∀(i:Nat) (hi:i < xs.length),∃d,L[i]?=some d∧SAt B w xs[i] d
 | x :: xs,_,h,i,hi=>by
   rw [SsAt] at h
   obtain ⟨d,L',rfl,h1,h2⟩:=h
   cases i with
   | zero=>exact⟨d,rfl,h1⟩
   | succ i =>
     obtain ⟨d',h3,h4⟩:=SsAt_get h2 i (by simpa using hi)
     exact⟨d',by simpa using h3,by simpa using h4⟩
theorem TsAt_get {B:Nat→Prop}{w:World}:∀{xs:List Ta}{L:List Td},TsAt B w xs L→∀(i:Nat) (hi:i < xs.length),∃d,L[i]?=some d∧TAt B w xs[i] d
 | x :: xs,_,h,i,hi=>by
   rw [TsAt] at h
   obtain ⟨d,L',rfl,h1,h2⟩:=h
   cases i with
   | zero=>exact⟨d,rfl,h1⟩
   | succ i =>
     obtain ⟨d',h3,h4⟩:=TsAt_get h2 i (by simpa using hi)
     exact⟨d',by simpa using h3,by simpa using h4⟩
theorem XsAt_append {B:Nat→Prop}{w:World}{ys:List Xp}{M:List Xd}(hy:XsAt B w ys M):∀{xs:List Xp}{L:List Xd},XsAt B w xs L→XsAt B w (xs++ys) (L++M)
 | [],_,h=>by
   rw [XsAt] at h
   subst h
   exact hy
 | y :: xs,_,h=>by
   rw [XsAt] at h
   obtain ⟨e,L',rfl,h1,h2⟩:=h
   rw [List.cons_append,List.cons_append,XsAt]
   exact⟨e,L'++M,rfl,h1,XsAt_append hy h2⟩
theorem SsAt_append {B:Nat→Prop}{w:World}{ys:List Sm}{M:List Sd}(hy:SsAt B w ys M):∀{xs:List Sm}{L:List Sd},SsAt B w xs L→SsAt B w (xs++ys) (L++M)
 | [],_,h=>by
   rw [SsAt] at h
   subst h
   exact hy
 | y :: xs,_,h=>by
   rw [SsAt] at h
   obtain ⟨e,L',rfl,h1,h2⟩:=h
   rw [List.cons_append,List.cons_append,SsAt]
   exact⟨e,L'++M,rfl,h1,SsAt_append hy h2⟩
theorem XL_keep {B B':Nat→Prop}{w w':World}(hB:∀b,B b→B' b) (hb:∀b,B b→b < w.heap.size→w'.heap[b]?=w.heap[b]?):∀(n:Nat) (p:Option Addr) (c:Nat) (xs:List Xp),nXs xs < n→XL B w p c xs→XL B' w' p c xs:=by
 intro n
 induction n with
 | zero=>intro _ _ _ h;exact absurd h (Nat.not_lt_zero _)
 | succ n ih =>
   intro p c xs hn ⟨h0,L,h1,h2⟩
   refine⟨fun hn_ a ha=>hB _ (h0 hn_ a ha),L,h1.keep fun hn_ b o e hl=>hb b (h0 (by rw [← XsAt_len h2];exact hn_) ⟨b,o,none⟩ e) hl,?_⟩
   clear h0 h1
   induction xs generalizing L with
   | nil=>rw [XsAt] at h2 ⊢;exact h2
   | cons x xs ihx =>
     rw [XsAt] at h2 ⊢
     rw [nXs] at hn
     obtain ⟨d,L',rfl,h3,h4⟩:=h2
     refine⟨d,L',rfl,?_,ihx (by have:=nX_pos x;omega) L' h4⟩
     rw [XAt_iff] at h3 ⊢
     obtain ⟨p',c',rfl,hz,h5⟩:=h3
     exact⟨p',c',rfl,hz,ih p' c' x.ar (by rw [nX_as] at hn;omega) h5⟩
theorem SL_keep {B B':Nat→Prop}{w w':World}(hB:∀b,B b→B' b) (hb:∀b,B b→b < w.heap.size→w'.heap[b]?=w.heap[b]?):∀(n:Nat) (p:Option Addr) (c:Nat) (xs:List Sm),nSs xs < n→SL B w p c xs→SL B' w' p c xs:=by
 intro n
 induction n with
 | zero=>intro _ _ _ h;exact absurd h (Nat.not_lt_zero _)
 | succ n ih =>
   intro p c xs hn ⟨h0,L,h1,h2⟩
   refine⟨fun hn_ a ha=>hB _ (h0 hn_ a ha),L,h1.keep fun hn_ b o e hl=>hb b (h0 (by rw [← SsAt_len h2];exact hn_) ⟨b,o,none⟩ e) hl,?_⟩
   clear h0 h1
   induction xs generalizing L with
   | nil=>rw [SsAt] at h2 ⊢;exact h2
   | cons x xs ihx =>
     rw [SsAt] at h2 ⊢
     rw [nSs] at hn
     obtain ⟨d,L',rfl,h3,h4⟩:=h2
     refine⟨d,L',rfl,?_,ihx (by have:=nS_pos x;omega) L' h4⟩
     rw [SAt_iff] at h3 ⊢
     obtain ⟨ap,ac,bp,bc,ep,ec,rfl,hz,h5,h6,h7⟩:=h3
     rw [nS_be] at hn
     exact⟨ap,ac,bp,bc,ep,ec,rfl,hz,XL_keep hB hb _ _ _ _ (Nat.lt_succ_self _) h5,ih bp bc x.b (by omega) h6,ih ep ec x.e (by omega) h7⟩
section
variable {B B':Nat→Prop}{w w':World}{p:Option Addr}{c:Nat}
theorem XL.keep {xs:List Xp}(h:XL B w p c xs) (hB:∀b,B b→B' b) (hb:∀b,B b→b < w.heap.size→w'.heap[b]?=w.heap[b]?):XL B' w' p c xs:=XL_keep hB hb _ _ _ _ (Nat.lt_succ_self _) h
theorem SL.keep {xs:List Sm}(h:SL B w p c xs) (hB:∀b,B b→B' b) (hb:∀b,B b→b < w.heap.size→w'.heap[b]?=w.heap[b]?):SL B' w' p c xs:=SL_keep hB hb _ _ _ _ (Nat.lt_succ_self _) h
theorem TL.keep {xs:List Ta}(h:TL B w p c xs) (hB:∀b,B b→B' b) (hb:∀b,B b→b < w.heap.size→w'.heap[b]?=w.heap[b]?):TL B' w' p c xs:=by
 obtain ⟨h0,L,h1,h2⟩:=h
 refine⟨fun hn_ a ha=>hB _ (h0 hn_ a ha),L,h1.keep fun hn_ b o e hl=>hb b (h0 (by rw [← TsAt_len h2];exact hn_) ⟨b,o,none⟩ e) hl,?_⟩
 clear h0 h1
 induction xs generalizing L with
 | nil=>rw [TsAt] at h2 ⊢;exact h2
 | cons x xs ihx =>
   rw [TsAt] at h2 ⊢
   obtain ⟨d,L',rfl,⟨bp,bc,h3,hz,h4⟩,h5⟩:=h2
   exact⟨d,L',rfl,⟨bp,bc,h3,hz,h4.keep hB hb⟩,ihx L' h5⟩
theorem XL.kept {xs:List Xp}(h:XL B w p c xs) (hg:Grew w w'):XL B w' p c xs:=h.keep (fun _ h=>h) fun b _ hl=>hg.block b hl
theorem SL.kept {xs:List Sm}(h:SL B w p c xs) (hg:Grew w w'):SL B w' p c xs:=h.keep (fun _ h=>h) fun b _ hl=>hg.block b hl
theorem TL.kept {xs:List Ta}(h:TL B w p c xs) (hg:Grew w w'):TL B w' p c xs:=h.keep (fun _ h=>h) fun b _ hl=>hg.block b hl
theorem XL.mono {xs:List Xp}(h:XL B w p c xs) (hB:∀b,B b→B' b):XL B' w p c xs:=h.keep hB fun _ _ _=>rfl
theorem SL.mono {xs:List Sm}(h:SL B w p c xs) (hB:∀b,B b→B' b):SL B' w p c xs:=h.keep hB fun _ _ _=>rfl
theorem TL.mono {xs:List Ta}(h:TL B w p c xs) (hB:∀b,B b→B' b):TL B' w p c xs:=h.keep hB fun _ _ _=>rfl
theorem XL.chg {S:Nat→Prop}{xs:List Xp}(h:XL B w p c xs) (hc:Chg w w' S) (ha:∀b,B b→¬ S b):XL B w' p c xs:=h.keep (fun _ h=>h) fun b hb hl=>hc.block b hl (ha b hb)
theorem SL.chg {S:Nat→Prop}{xs:List Sm}(h:SL B w p c xs) (hc:Chg w w' S) (ha:∀b,B b→¬ S b):SL B w' p c xs:=h.keep (fun _ h=>h) fun b hb hl=>hc.block b hl (ha b hb)
theorem TL.chg {S:Nat→Prop}{xs:List Ta}(h:TL B w p c xs) (hc:Chg w w' S) (ha:∀b,B b→¬ S b):TL B w' p c xs:=h.keep (fun _ h=>h) fun b hb hl=>hc.block b hl (ha b hb)
theorem XL.cap {xs:List Xp}(h:XL B w p c xs):xs.length≤c∧c≤9223372036854775807∧(p=none→c=0):=by
 obtain ⟨_,L,h1,h2⟩:=h
 have:=h1.cap
 rw [XsAt_len h2] at this
 exact⟨this,h1.max,h1.bare⟩
theorem SL.cap {xs:List Sm}(h:SL B w p c xs):xs.length≤c∧c≤9223372036854775807∧(p=none→c=0):=by
 obtain ⟨_,L,h1,h2⟩:=h
 have:=h1.cap
 rw [SsAt_len h2] at this
 exact⟨this,h1.max,h1.bare⟩
theorem TL.cap {xs:List Ta}(h:TL B w p c xs):xs.length≤c∧c≤9223372036854775807∧(p=none→c=0):=by
 obtain ⟨_,L,h1,h2⟩:=h
 have:=h1.cap
 rw [TsAt_len h2] at this
 exact⟨this,h1.max,h1.bare⟩
theorem XL.nil:XL B w none 0 []:=⟨fun _ _ h=>(by cases h),[],Rw.nil _ _ w,by rw [XsAt]⟩
theorem SL.nil:SL B w none 0 []:=⟨fun _ _ h=>(by cases h),[],Rw.nil _ _ w,by rw [SsAt]⟩
theorem TL.nil:TL B w none 0 []:=⟨fun _ _ h=>(by cases h),[],Rw.nil _ _ w,by rw [TsAt]⟩
theorem XL.get {xs:List Xp}(h:XL B w p c xs) (i:Nat) (hi:i < xs.length):∃b o p' c',p=some ⟨b,o,none⟩∧(B b∧xs[i].s.size≤1048576∧xs[i].v≤32767)∧XL B w p' c' xs[i].ar∧∀j v,(xdc (xs[i].nd p' c'))[j]?=some v→w.cell? ⟨b,o+i * 6+j,none⟩=some v:=by
 obtain ⟨h0,L,h1,h2⟩:=h
 obtain ⟨d,h3,h4⟩:=XsAt_get h2 i hi
 rw [XAt_iff] at h4
 obtain ⟨p',c',rfl,hz,h5⟩:=h4
 obtain ⟨b,o,rfl,hc⟩:=h1.rd.cells (by rw [XsAt_len h2];omega)
 exact⟨b,o,p',c',rfl,⟨h0 (Nat.lt_of_le_of_lt (Nat.zero_le _) hi) _ rfl,hz⟩,h5,hc i _ h3⟩
theorem SL.get {xs:List Sm}(h:SL B w p c xs) (i:Nat) (hi:i < xs.length):∃b o ap ac bp bc ep ec,p=some ⟨b,o,none⟩∧(B b∧xs[i].s.size≤1048576)∧XL B w ap ac xs[i].ar∧SL B w bp bc xs[i].b∧SL B w ep ec xs[i].e∧∀j v,(sdc (xs[i].nd ap ac bp bc ep ec))[j]?=some v→w.cell? ⟨b,o+i * 7+j,none⟩=some v:=by
 obtain ⟨h0,L,h1,h2⟩:=h
 obtain ⟨d,h3,h4⟩:=SsAt_get h2 i hi
 rw [SAt_iff] at h4
 obtain ⟨ap,ac,bp,bc,ep,ec,rfl,hz,h5,h6,h7⟩:=h4
 obtain ⟨b,o,rfl,hc⟩:=h1.rd.cells (by rw [SsAt_len h2];omega)
 exact⟨b,o,ap,ac,bp,bc,ep,ec,rfl,⟨h0 (Nat.lt_of_le_of_lt (Nat.zero_le _) hi) _ rfl,hz⟩,h5,h6,h7,hc i _ h3⟩
theorem TL.get {xs:List Ta}(h:TL B w p c xs) (i:Nat) (hi:i < xs.length):∃b o bp bc,p=some ⟨b,o,none⟩∧(B b∧xs[i].s.size≤1048576∧xs[i].c.size≤1048576∧xs[i].m.size≤1048576)∧SL B w bp bc xs[i].b∧∀j v,(tdc (xs[i].nd bp bc))[j]?=some v→w.cell? ⟨b,o+i * 8+j,none⟩=some v:=by
 obtain ⟨h0,L,h1,h2⟩:=h
 obtain ⟨d,h3,bp,bc,rfl,hz,h5⟩:=TsAt_get h2 i hi
 obtain ⟨b,o,rfl,hc⟩:=h1.rd.cells (by rw [TsAt_len h2];omega)
 exact⟨b,o,bp,bc,rfl,⟨h0 (Nat.lt_of_le_of_lt (Nat.zero_le _) hi) _ rfl,hz⟩,h5,hc i _ h3⟩
end
theorem XsAt.keep {B B':Nat→Prop}{w w':World}(hB:∀b,B b→B' b) (hb:∀b,B b→b < w.heap.size→w'.heap[b]?=w.heap[b]?):∀{xs:List Xp}{L:List Xd},XsAt B w xs L→XsAt B' w' xs L
 | [],_,h=>by rw [XsAt] at h ⊢;exact h
 | x :: xs,_,h=>by
   rw [XsAt] at h ⊢
   obtain ⟨d,L',rfl,h1,h2⟩:=h
   refine⟨d,L',rfl,?_,XsAt.keep hB hb h2⟩
   rw [XAt_iff] at h1 ⊢
   obtain ⟨p,c,rfl,hz,h3⟩:=h1
   exact⟨p,c,rfl,hz,h3.keep hB hb⟩
theorem SsAt.keep {B B':Nat→Prop}{w w':World}(hB:∀b,B b→B' b) (hb:∀b,B b→b < w.heap.size→w'.heap[b]?=w.heap[b]?):∀{xs:List Sm}{L:List Sd},SsAt B w xs L→SsAt B' w' xs L
 | [],_,h=>by rw [SsAt] at h ⊢;exact h
 | x :: xs,_,h=>by
   rw [SsAt] at h ⊢
   obtain ⟨d,L',rfl,h1,h2⟩:=h
   refine⟨d,L',rfl,?_,SsAt.keep hB hb h2⟩
   rw [SAt_iff] at h1 ⊢
   obtain ⟨ap,ac,bp,bc,ep,ec,rfl,hz,h3,h4,h5⟩:=h1
   exact⟨ap,ac,bp,bc,ep,ec,rfl,hz,h3.keep hB hb,h4.keep hB hb,h5.keep hB hb⟩
theorem XsAt.kept {B:Nat→Prop}{w w':World}{xs:List Xp}{L:List Xd}(h:XsAt B w xs L) (hg:Grew w w'):XsAt B w' xs L:=h.keep (fun _ h=>h) fun b _ hl=>hg.block b hl
theorem SsAt.kept {B:Nat→Prop}{w w':World}{xs:List Sm}{L:List Sd}(h:SsAt B w xs L) (hg:Grew w w'):SsAt B w' xs L:=h.keep (fun _ h=>h) fun b _ hl=>hg.block b hl
theorem XsAt.below {B:Nat→Prop}{N:Nat}{w w':World}{xs:List Xp}{L:List Xd}(h:XsAt B w xs L) (hB:∀b,B b→b < N) (hg:Below N w w'):XsAt B w' xs L:=h.keep (fun _ h=>h) fun b hb _=>hg.block b (hB b hb)
theorem SsAt.below {B:Nat→Prop}{N:Nat}{w w':World}{xs:List Sm}{L:List Sd}(h:SsAt B w xs L) (hB:∀b,B b→b < N) (hg:Below N w w'):SsAt B w' xs L:=h.keep (fun _ h=>h) fun b hb _=>hg.block b (hB b hb)
theorem XL.below {B:Nat→Prop}{N:Nat}{w w':World}{p:Option Addr}{c:Nat}{xs:List Xp}(h:XL B w p c xs) (hB:∀b,B b→b < N) (hg:Below N w w'):XL B w' p c xs:=h.keep (fun _ h=>h) fun b hb _=>hg.block b (hB b hb)
theorem SL.below {B:Nat→Prop}{N:Nat}{w w':World}{p:Option Addr}{c:Nat}{xs:List Sm}(h:SL B w p c xs) (hB:∀b,B b→b < N) (hg:Below N w w'):SL B w' p c xs:=h.keep (fun _ h=>h) fun b hb _=>hg.block b (hB b hb)
theorem TL.below {B:Nat→Prop}{N:Nat}{w w':World}{p:Option Addr}{c:Nat}{xs:List Ta}(h:TL B w p c xs) (hB:∀b,B b→b < N) (hg:Below N w w'):TL B w' p c xs:=h.keep (fun _ h=>h) fun b hb _=>hg.block b (hB b hb)
end Go.Proofs.YtcknpcbkofgdoaaGreatDoor
namespace Go.Proofs.YtcknpcbkofgdoaaGreatDoor
open Go Go.RowKit
set_option linter.unusedVariables false
structure Hangs {α β:Type}(k:Nat) (enc:α→List Value) (At:(Nat→Prop)→World→List β→List α→Prop):Prop where
 enc:Enc k enc
 len:∀{B w xs L},At B w xs L→L.length=xs.length
 nil:∀{B w},At B w [] []
 app:∀{B w xs L ys M},At B w ys M→At B w xs L→At B w (xs++ys) (L++M)
 keep:∀{B B':Nat→Prop}{w w':World}{xs L},(∀b,B b→B' b)→(∀b,B b→b < w.heap.size→w'.heap[b]?=w.heap[b]?)→At B w xs L→At B' w' xs L
theorem hangsX:Hangs 6 xdc XsAt:=⟨encXd,XsAt_len,fun {B w}=>(by rw [XsAt]:XsAt B w [] []),fun h1 h2=>XsAt_append h1 h2,fun h1 h2 h3=>XsAt.keep h1 h2 h3⟩
theorem hangsS:Hangs 7 sdc SsAt:=⟨encSd,SsAt_len,fun {B w}=>(by rw [SsAt]:SsAt B w [] []),fun h1 h2=>SsAt_append h1 h2,fun h1 h2 h3=>SsAt.keep h1 h2 h3⟩
theorem TsAt.keep {B B':Nat→Prop}{w w':World}(hB:∀b,B b→B' b) (hb:∀b,B b→b < w.heap.size→w'.heap[b]?=w.heap[b]?):∀{xs:List Ta}{L:List Td},TsAt B w xs L→TsAt B' w' xs L
 | [],_,h=>by rw [TsAt] at h ⊢;exact h
 | x :: xs,_,h=>by
   rw [TsAt] at h ⊢
   obtain ⟨d,L',rfl,⟨bp,bc,h3,hz,h4⟩,h2⟩:=h
   exact⟨d,L',rfl,⟨bp,bc,h3,hz,h4.keep hB hb⟩,TsAt.keep hB hb h2⟩
def FlatAt {α:Type}(_:Nat→Prop) (_:World) (xs L:List α):Prop:=L=xs
theorem hangsF {α:Type}{k:Nat}{enc:α→List Value}(E:Enc k enc):Hangs k enc (FlatAt (α:=α)):=⟨E,fun h=>by rw [FlatAt] at h;rw [h],rfl,fun h1 h2=>by rw [FlatAt] at *;rw [h1,h2],fun _ _ h=>h⟩
section
variable {α β:Type}{k:Nat}{enc:α→List Value}{At:(Nat→Prop)→World→List β→List α→Prop}
def OwN (At:(Nat→Prop)→World→List β→List α→Prop) (k:Nat) (enc:α→List Value) (N:Nat) (B:Nat→Prop) (w:World) (e:TypeId) (p:Option Addr) (n c:Nat) (l:List β):Prop:=n=l.length∧∃L,OwR w N e k enc (.slice p n c) L∧At B w l L
def InN (At:(Nat→Prop)→World→List β→List α→Prop) (k:Nat) (enc:α→List Value) (B:Nat→Prop) (w:World) (p:Option Addr) (n c:Nat) (l:List β):Prop:=n=l.length∧∃L,Rw k enc w p c L∧At B w l L
def Off (p:Option Addr) (b:Nat):Prop:=∀a,p=some a→a.block≠b
variable {N:Nat}{B B':Nat→Prop}{w w':World}{e:TypeId}{p:Option Addr}{n c:Nat}{l:List β}
theorem OwN.nil (T:Hangs k enc At):OwN At k enc N B w e none 0 0 []:=⟨rfl,[],OwR.nil _ _ _ _ _,T.nil⟩
theorem OwN.inN (T:Hangs k enc At) (h:OwN At k enc N B w e p n c l):InN At k enc B w p n c l:=by
 obtain ⟨h1,L,h2,h3⟩:=h
 exact⟨h1,L,(h2.rd T.enc).2,h3⟩
theorem InN.cap (T:Hangs k enc At) (h:InN At k enc B w p n c l):n≤c∧c≤9223372036854775807∧(p=none→c=0):=by
 obtain ⟨h1,L,h2,h3⟩:=h
 have:=h2.cap
 rw [T.len h3,← h1] at this
 exact⟨this,h2.max,h2.bare⟩
theorem OwN.place (T:Hangs k enc At) (h:OwN At k enc N B w e p n c l):∀a,p=some a→N≤a.block∧a.block < w.heap.size:=by
 obtain ⟨_,L,h2,_⟩:=h
 exact h2.place T.enc
theorem OwN.off (T:Hangs k enc At) (h:OwN At k enc N B w e p n c l){b:Nat}(hb:b < N):Off p b:=fun a ha=>by have:=(h.place T a ha).1;omega
theorem OwN.offTop (T:Hangs k enc At) (h:OwN At k enc N B w e p n c l){b:Nat}(hb:w.heap.size≤b):Off p b:=fun a ha=>by have:=(h.place T a ha).2;omega
theorem OwN.kept (T:Hangs k enc At) (h:OwN At k enc N B w e p n c l) (hg:Grew w w'):OwN At k enc N B w' e p n c l:=by
 obtain ⟨h1,L,h2,h3⟩:=h
 exact⟨h1,L,h2.kept hg,T.keep (fun _ h=>h) (fun b _ hl=>hg.block b hl) h3⟩
theorem OwN.chg {S:Nat→Prop}(T:Hangs k enc At) (h:OwN At k enc N B w e p n c l) (hc:Chg w w' S) (hp:∀a,p=some a→¬ S a.block) (hB:∀b,B b→¬ S b):OwN At k enc N B w' e p n c l:=by
 obtain ⟨h1,L,h2,h3⟩:=h
 exact⟨h1,L,h2.chg hc hp,T.keep (fun _ h=>h) (fun b hb hl=>hc.block b hl (hB b hb)) h3⟩
theorem OwN.mono (T:Hangs k enc At) (h:OwN At k enc N B w e p n c l) (hB:∀b,B b→B' b):OwN At k enc N B' w e p n c l:=by
 obtain ⟨h1,L,h2,h3⟩:=h
 exact⟨h1,L,h2,T.keep hB (fun _ _ _=>rfl) h3⟩
theorem OwN.down {N':Nat}(h:OwN At k enc N B w e p n c l) (hN:N'≤N):OwN At k enc N' B w e p n c l:=by
 obtain ⟨h1,L,h2,h3⟩:=h
 exact⟨h1,L,h2.down hN,h3⟩
theorem InN.kept (T:Hangs k enc At) (h:InN At k enc B w p n c l) (hg:Grew w w'):InN At k enc B w' p n c l:=by
 obtain ⟨h1,L,h2,h3⟩:=h
 exact⟨h1,L,h2.kept hg,T.keep (fun _ h=>h) (fun b _ hl=>hg.block b hl) h3⟩
theorem InN.chg {S:Nat→Prop}(T:Hangs k enc At) (h:InN At k enc B w p n c l) (hc:Chg w w' S) (hp:∀a,p=some a→¬ S a.block) (hB:∀b,B b→¬ S b):InN At k enc B w' p n c l:=by
 obtain ⟨h1,L,h2,h3⟩:=h
 exact⟨h1,L,h2.chg hc hp,T.keep (fun _ h=>h) (fun b hb hl=>hc.block b hl (hB b hb)) h3⟩
theorem InN.mono (T:Hangs k enc At) (h:InN At k enc B w p n c l) (hB:∀b,B b→B' b):InN At k enc B' w p n c l:=by
 obtain ⟨h1,L,h2,h3⟩:=h
 exact⟨h1,L,h2,T.keep hB (fun _ _ _=>rfl) h3⟩
theorem InN.made (T:Hangs k enc At) (w:World) (S:Nat) (x:β) (d:α) (e:TypeId) (cs:Array Value) (fr:Nat × Nat) (hat:At B w [x] [d]) (hS:w.heap.size=S) (hc:cs=(flatL enc [d]).toArray):InN At k enc B (w.alloc (.cells cs e fr)) (some ⟨S,0,none⟩) 1 1 [x]:=by
 subst hS
 exact⟨rfl,[d],Rw.made T.enc w [d] 1 e cs fr hc rfl (by decide),T.keep (fun _ h=>h) (fun b _ hl=>((Grew.refl w).alloc _).block b hl) hat⟩
theorem OwN.made (T:Hangs k enc At) (w:World) (S:Nat) (x:β) (d:α) (e:TypeId) (cs:Array Value) (hat:At B w [x] [d]) (hS:w.heap.size=S) (hN:N≤w.heap.size) (hc:cs=(flatL enc [d]).toArray):OwN At k enc N B (w.alloc (.cells cs e)) e (some ⟨S,0,none⟩) 1 1 [x]:=by
 subst hS
 exact⟨rfl,[d],OwR.lit T.enc w [d] 1 N e cs hc rfl (by decide) hN,T.keep (fun _ h=>h) (fun b _ hl=>((Grew.refl w).alloc _).block b hl) hat⟩
theorem OwN.len (h:OwN At k enc N B w e p n c l):n=l.length:=h.1
theorem InN.getX {xs:List Xp}(h:InN XsAt 6 xdc B w p n c xs) (i:Nat) (hi:i < xs.length):∃b o p' c',p=some ⟨b,o,none⟩∧(True∧xs[i].s.size≤1048576∧xs[i].v≤32767)∧XL B w p' c' xs[i].ar∧∀j v,(xdc (xs[i].nd p' c'))[j]?=some v→w.cell? ⟨b,o+i * 6+j,none⟩=some v:=by
 obtain ⟨h0,L,h1,h2⟩:=h
 obtain ⟨d,h3,h4⟩:=XsAt_get h2 i hi
 rw [XAt_iff] at h4
 obtain ⟨p',c',rfl,hz,h5⟩:=h4
 obtain ⟨b,o,rfl,hc⟩:=h1.rd.cells (by rw [XsAt_len h2];omega)
 exact⟨b,o,p',c',rfl,⟨trivial,hz⟩,h5,hc i _ h3⟩
theorem InN.getS {xs:List Sm}(h:InN SsAt 7 sdc B w p n c xs) (i:Nat) (hi:i < xs.length):∃b o ap ac bp bc ep ec,p=some ⟨b,o,none⟩∧(True∧xs[i].s.size≤1048576)∧XL B w ap ac xs[i].ar∧SL B w bp bc xs[i].b∧SL B w ep ec xs[i].e∧∀j v,(sdc (xs[i].nd ap ac bp bc ep ec))[j]?=some v→w.cell? ⟨b,o+i * 7+j,none⟩=some v:=by
 obtain ⟨h0,L,h1,h2⟩:=h
 obtain ⟨d,h3,h4⟩:=SsAt_get h2 i hi
 rw [SAt_iff] at h4
 obtain ⟨ap,ac,bp,bc,ep,ec,rfl,hz,h5,h6,h7⟩:=h4
 obtain ⟨b,o,rfl,hc⟩:=h1.rd.cells (by rw [SsAt_len h2];omega)
 exact⟨b,o,ap,ac,bp,bc,ep,ec,rfl,⟨trivial,hz⟩,h5,h6,h7,hc i _ h3⟩
theorem InN.getF {α:Type}{enc:α→List Value}{xs:List α}(h:InN FlatAt k enc B w p n c xs) (i:Nat) (hi:i < xs.length):∃b o,p=some ⟨b,o,none⟩∧∀j v,(enc xs[i])[j]?=some v→w.cell? ⟨b,o+i * k+j,none⟩=some v:=by
 obtain ⟨h0,L,h1,rfl⟩:=h
 obtain ⟨b,o,rfl,hc⟩:=h1.rd.cells (by omega)
 exact⟨b,o,rfl,hc i _ (List.getElem?_eq_getElem hi)⟩
structure Apd (N:Nat) (p p':Option Addr) (w w':World):Prop where
 below:Below N w w'
 chg:Chg w w' (fun j=>∃a,p=some a∧a.block=j)
 own:∀a,p'=some a→(∃a1,p=some a1∧a1.block=a.block)∨a.block=w.heap.size
theorem Apd.blk {p':Option Addr}{S:Nat}{vs:List Value}{t:TypeId}(h:Apd N p p' w w') (hb:Blk S vs t w) (ho:Off p S):Blk S vs t w':=hb.chg h.chg (fun⟨a,h1,h2⟩=>ho a h1 h2)
theorem Apd.off {p':Option Addr}{S:Nat}(h:Apd N p p' w w') (hS:S < w.heap.size) (ho:Off p S):Off p' S:=fun a ha=>by
 rcases h.own a ha with ⟨a1,h1,h2⟩ | h1
 ·rw [← h2];exact ho a1 h1
 ·omega
theorem wpList_append_own {P:Program}{ops:Array Oper}{rest:List Oper}{o:Oper}{a:Act}{Q:Exit→Act→World→Prop}(T:Hangs k enc At) (hgd:o.guard=none) (s x:Operand) (t:TypeId)
 (ho:o.op=.call { callee:=.builtin .append,args:=#[s,x],argTypes:=#[t,t] })
 (N:Nat) (e:TypeId) (z:Value) (by':Nat) (ht:P.underlying t=some (.slice e)) (hi:(P.info? e).map (fun i=>(i.zero,i.size,i.bytes))=some (some z,k,by')) (hzs:z.cells.size=k)
 (p:Option Addr) (n c:Nat) (xs:List β) (hs:a.eval s=.slice p n c) (hown:OwN At k enc N B w e p n c xs)
 (q:Option Addr) (m d:Nat) (ys:List β) (hx:a.eval x=.slice q m d) (hin:InN At k enc B w q m d ys)
 (hB:∀b,B b→Off p b) (hbytes:(n+m) * by'≤140737488355328) (h63:n+m≤9223372036854775807) (hbase:N≤w.heap.size)
 (h:∀p' c' w',OwN At k enc N B w' e p' (n+m) c' (xs++ys)→Apd N p p' w w'→wpList P ops Q rest (a.put o.dst (.slice p' (n+m) c')) w'):wpList P ops Q (o :: rest) a w:=by
 obtain ⟨h1,L,h2,h3⟩:=hown
 obtain ⟨h4,M,h5,h6⟩:=hin
 have l1:=(h2.rd T.enc).1
 have l2:=T.len h6
 refine wpList_append_rowO T.enc hgd s x t ho N e z by' ht hi hzs _ L hs h2 q m d M hx (by omega) h5 (by rw [← l1,l2,← h4];exact hbytes) (by omega) hbase ?_
 intro p' c' zs w' hz ho' hb hc how
 obtain rfl:=hz.out
 have hlen:(L++M).length=n+m:=by rw [List.length_append];omega
 rw [hlen] at ho' how ⊢
 have hch:Chg w w' (fun j=>∃a,p=some a∧a.block=j):=⟨hc.os,hc.tape,hc.output,hc.size,fun b hl hn=>hc.block b hl (fun hs=>hn (by
  rw [ownBlock_sl] at hs
  cases p with
  | none=>cases hs
  | some a=>exact⟨a,rfl,by simpa using hs⟩))⟩
 have hkp:∀b,B b→b < w.heap.size→w'.heap[b]?=w.heap[b]?:=fun b hb hl=>hch.block b hl (fun⟨a,h1,h2⟩=>hB b hb a h1 h2)
 refine h p' c' w' ⟨by rw [List.length_append];omega,L++M,ho',T.app (T.keep (fun _ h=>h) hkp h6) (T.keep (fun _ h=>h) hkp h3)⟩ ⟨hb,hch,fun a ha=>?_⟩
 subst ha
 rw [ownBlock_sl,ownBlock_sl] at how
 rcases how with h7 | h7
 ·cases p with
  | none=>cases h7
  | some a1=>exact .inl ⟨a1,rfl,by simpa using h7.symm⟩
 ·exact .inr (by simpa using h7)
end
end Go.Proofs.YtcknpcbkofgdoaaGreatDoor
