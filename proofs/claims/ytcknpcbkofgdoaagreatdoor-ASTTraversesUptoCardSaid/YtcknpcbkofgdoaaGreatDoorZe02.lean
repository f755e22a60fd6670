/-
  THE REFERENCE OF LAYER 16: ExprOK.
  THE REFERENCE OF LAYER 16: StmtsOK.
  THE REFERENCE OF LAYER 16: TaskOK.
  CANONICAL TEXTS: tasks (layer 16).
  WHAT IS WELL-FORMED: programs (layer 16).
  CANONICAL TEXTS: programs (layer 16).
  THE REFERENCE OF LAYER 16: WellFormed.
  THE REFERENCE OF LAYER 16: text.
  THE REFERENCE OF LAYER 16: simple.
  THE REFERENCE OF LAYER 16: line.
  THE REFERENCE OF LAYER 16: Format.
  THE REFERENCE OF LAYER 16: EqualExpr.
  TREES OF EXPRESSIONS THAT THE CALL HAS MADE: each row in a block of its own, in the order in which they were made; such trees may be written into (any program of this project). Nothing of one program stands here.
  STATEMENTS WITHOUT POSITIONS (layer 16).
  TREES OF STATEMENTS THAT THE CALL HAS MADE: each row in a block of its own, in the order in which they were made (any program of this project). Nothing of one program stands here.
  EQUALITY OF STATEMENTS (layer 16).
  THE REFERENCE OF LAYER 16: EqualStmts.
  THE REFERENCE OF LAYER 16: names.
  THE REFERENCE OF LAYER 16: StripStmts.
  TOKENS OF CANONICAL TEXTS (layers 16, 17): what the lexer makes of the text of a well-formed tree. Nothing of the program stands here.
  A READER OF TOKENS (layers 16, 17): the grammar of the language as a function over tokens of whatever kind; it gives back the tree whose tokens it reads. Nothing of the program stands here.
  A READER OF TOKENS: programs (layers 16, 17). Nothing of the program stands here.
  THE REFERENCE OF LAYER 16: Strip, what it says.
  LAYER 16 (ast), THE PROGRAM: slices.Clone.
-/
import Derived.Test.YtcknpcbkofgdoaaGreatDoorZeShort
import Derived.Test.YtcknpcbkofgdoaaGreatDoorZe01
import Derived.Test.YtcknpcbkofgdoaaGreatDoorZe00
import Derived.Deep.LoopGhost
import Derived.Deep.Cut
import Derived.Deep.RegionHeld
import Derived.Deep.Upon
import Derived.Shelf.Abstract
import Derived.Lib.SliceRun
namespace Go.Proofs.YtcknpcbkofgdoaaGreatDoor
open Go Go.RowKit Go.IntWalk
set_option linter.unusedSimpArgs false
set_option linter.unusedVariables false
set_option maxRecDepth 8000
section
variable {dst:Option Tmp}{ty:TypeId}{pos:String}{after:Array Edge}{g:Option (Nat × Bool)}{a:Act}{w:World}{T:Value→World→Prop}
theorem rn_fld_35_4 {x:Operand}{S o:Nat}(hx:a.eval x=.pointer (some ⟨S,o,none⟩)) (h:T (.pointer (some ⟨S,o+4,none⟩)) w):Runs Tryz.prog ⟨dst,.fieldAddr 35 x 4,ty,pos,after,g⟩ a w T:=by
 refine Runs.value (v:=.pointer (some ⟨S,o+4,none⟩)) (w':=w) ?_ h
 simp only [execOp,hx]
 go_simp
theorem rn_ld_33 {x:Operand}{q:Addr}{v:Value}(hx:a.eval x=.pointer (some q)) (hc:w.cell? q=some v) (h:T v w):Runs Tryz.prog ⟨dst,.load 33 x,ty,pos,after,g⟩ a w T:=by
 refine Runs.value (v:=v) (w':=w) ?_ h
 simp only [execOp,hx]
 go_simp
theorem rn_fld_35_0 {x:Operand}{S o:Nat}(hx:a.eval x=.pointer (some ⟨S,o,none⟩)) (h:T (.pointer (some ⟨S,o,none⟩)) w):Runs Tryz.prog ⟨dst,.fieldAddr 35 x 0,ty,pos,after,g⟩ a w T:=by
 refine Runs.value (v:=.pointer (some ⟨S,o,none⟩)) (w':=w) ?_ h
 simp only [execOp,hx]
 go_simp
theorem rn_ld_3 {x:Operand}{q:Addr}{v:Value}(hx:a.eval x=.pointer (some q)) (hc:w.cell? q=some v) (h:T v w):Runs Tryz.prog ⟨dst,.load 3 x,ty,pos,after,g⟩ a w T:=by
 refine Runs.value (v:=v) (w':=w) ?_ h
 simp only [execOp,hx]
 go_simp
theorem rn_neq_3 {o1 o2:Operand}{b c:Int}(hx:a.eval o1=.int .i64 b) (hy:a.eval o2=.int .i64 c) (h:T (.bool (b != c)) w):Runs Tryz.prog ⟨dst,.binOp .neq 3 o1 o2 3,ty,pos,after,g⟩ a w T:=by
 refine Runs.value (v:=.bool (b != c)) (w':=w) ?_ h
 simp only [execOp,hx,hy]
 go_simp
theorem rn_fld_35_1 {x:Operand}{S o:Nat}(hx:a.eval x=.pointer (some ⟨S,o,none⟩)) (h:T (.pointer (some ⟨S,o+1,none⟩)) w):Runs Tryz.prog ⟨dst,.fieldAddr 35 x 1,ty,pos,after,g⟩ a w T:=by
 refine Runs.value (v:=.pointer (some ⟨S,o+1,none⟩)) (w':=w) ?_ h
 simp only [execOp,hx]
 go_simp
theorem rn_ld_9 {x:Operand}{q:Addr}{v:Value}(hx:a.eval x=.pointer (some q)) (hc:w.cell? q=some v) (h:T v w):Runs Tryz.prog ⟨dst,.load 9 x,ty,pos,after,g⟩ a w T:=by
 refine Runs.value (v:=v) (w':=w) ?_ h
 simp only [execOp,hx]
 go_simp
theorem rn_nes_9 {o1 o2:Operand}{b c:ByteArray}(hx:a.eval o1=.string b) (hy:a.eval o2=.string c) (h:T (.bool (!decide (b=c))) w):Runs Tryz.prog ⟨dst,.binOp .neq 9 o1 o2 9,ty,pos,after,g⟩ a w T:=by
 have hs:(b.toList==c.toList)=decide (b=c):=by
  rw [ByteArray.toList_eq,ByteArray.toList_eq,Bool.eq_iff_iff,beq_iff_eq,decide_eq_true_iff]
  exact⟨fun h=>by cases b;cases c;simp at h;rw [h],fun h=>by rw [h]⟩
 refine Runs.value (v:=.bool (!decide (b=c))) (w':=w) ?_ h
 rw [← hs]
 simp only [execOp,hx,hy]
 go_simp
theorem rn_fld_35_2 {x:Operand}{S o:Nat}(hx:a.eval x=.pointer (some ⟨S,o,none⟩)) (h:T (.pointer (some ⟨S,o+2,none⟩)) w):Runs Tryz.prog ⟨dst,.fieldAddr 35 x 2,ty,pos,after,g⟩ a w T:=by
 refine Runs.value (v:=.pointer (some ⟨S,o+2,none⟩)) (w':=w) ?_ h
 simp only [execOp,hx]
 go_simp
theorem rn_ld_32 {x:Operand}{q:Addr}{v:Value}(hx:a.eval x=.pointer (some q)) (hc:w.cell? q=some v) (h:T v w):Runs Tryz.prog ⟨dst,.load 32 x,ty,pos,after,g⟩ a w T:=by
 refine Runs.value (v:=v) (w':=w) ?_ h
 simp only [execOp,hx]
 go_simp
theorem rn_neq_32 {o1 o2:Operand}{b c:Int}(hx:a.eval o1=.int .i16 b) (hy:a.eval o2=.int .i16 c) (h:T (.bool (b != c)) w):Runs Tryz.prog ⟨dst,.binOp .neq 32 o1 o2 32,ty,pos,after,g⟩ a w T:=by
 refine Runs.value (v:=.bool (b != c)) (w':=w) ?_ h
 simp only [execOp,hx,hy]
 go_simp
theorem rn_fld_35_3 {x:Operand}{S o:Nat}(hx:a.eval x=.pointer (some ⟨S,o,none⟩)) (h:T (.pointer (some ⟨S,o+3,none⟩)) w):Runs Tryz.prog ⟨dst,.fieldAddr 35 x 3,ty,pos,after,g⟩ a w T:=by
 refine Runs.value (v:=.pointer (some ⟨S,o+3,none⟩)) (w':=w) ?_ h
 simp only [execOp,hx]
 go_simp
end
section
variable {dst:Option Tmp}{ty:TypeId}{pos:String}{after:Array Edge}{g:Option (Nat × Bool)}{a:Act}{w:World}{T:Value→World→Prop}
theorem rn_fld_49_3 {x:Operand}{S o:Nat}(hx:a.eval x=.pointer (some ⟨S,o,none⟩)) (h:T (.pointer (some ⟨S,o+3,none⟩)) w):Runs Tryz.prog ⟨dst,.fieldAddr 49 x 3,ty,pos,after,g⟩ a w T:=by
 refine Runs.value (v:=.pointer (some ⟨S,o+3,none⟩)) (w':=w) ?_ h
 simp only [execOp,hx]
 go_simp
theorem rn_ld_4 {x:Operand}{q:Addr}{v:Value}(hx:a.eval x=.pointer (some q)) (hc:w.cell? q=some v) (h:T v w):Runs Tryz.prog ⟨dst,.load 4 x,ty,pos,after,g⟩ a w T:=by
 refine Runs.value (v:=v) (w':=w) ?_ h
 simp only [execOp,hx]
 go_simp
theorem rn_fld_49_1 {x:Operand}{S o:Nat}(hx:a.eval x=.pointer (some ⟨S,o,none⟩)) (h:T (.pointer (some ⟨S,o+1,none⟩)) w):Runs Tryz.prog ⟨dst,.fieldAddr 49 x 1,ty,pos,after,g⟩ a w T:=by
 refine Runs.value (v:=.pointer (some ⟨S,o+1,none⟩)) (w':=w) ?_ h
 simp only [execOp,hx]
 go_simp
theorem rn_fld_49_2 {x:Operand}{S o:Nat}(hx:a.eval x=.pointer (some ⟨S,o,none⟩)) (h:T (.pointer (some ⟨S,o+2,none⟩)) w):Runs Tryz.prog ⟨dst,.fieldAddr 49 x 2,ty,pos,after,g⟩ a w T:=by
 refine Runs.value (v:=.pointer (some ⟨S,o+2,none⟩)) (w':=w) ?_ h
 simp only [execOp,hx]
 go_simp
end
section
variable {dst:Option Tmp}{ty:TypeId}{pos:String}{after:Array Edge}{g:Option (Nat × Bool)}{a:Act}{w:World}{T:Value→World→Prop}
theorem rn_fld_42_0 {x:Operand}{S o:Nat}(hx:a.eval x=.pointer (some ⟨S,o,none⟩)) (h:T (.pointer (some ⟨S,o,none⟩)) w):Runs Tryz.prog ⟨dst,.fieldAddr 42 x 0,ty,pos,after,g⟩ a w T:=by
 refine Runs.value (v:=.pointer (some ⟨S,o,none⟩)) (w':=w) ?_ h
 simp only [execOp,hx]
 go_simp
theorem rn_fld_42_2 {x:Operand}{S o:Nat}(hx:a.eval x=.pointer (some ⟨S,o,none⟩)) (h:T (.pointer (some ⟨S,o+2,none⟩)) w):Runs Tryz.prog ⟨dst,.fieldAddr 42 x 2,ty,pos,after,g⟩ a w T:=by
 refine Runs.value (v:=.pointer (some ⟨S,o+2,none⟩)) (w':=w) ?_ h
 simp only [execOp,hx]
 go_simp
theorem rn_fld_42_1 {x:Operand}{S o:Nat}(hx:a.eval x=.pointer (some ⟨S,o,none⟩)) (h:T (.pointer (some ⟨S,o+1,none⟩)) w):Runs Tryz.prog ⟨dst,.fieldAddr 42 x 1,ty,pos,after,g⟩ a w T:=by
 refine Runs.value (v:=.pointer (some ⟨S,o+1,none⟩)) (w':=w) ?_ h
 simp only [execOp,hx]
 go_simp
theorem rn_fld_42_3 {x:Operand}{S o:Nat}(hx:a.eval x=.pointer (some ⟨S,o,none⟩)) (h:T (.pointer (some ⟨S,o+3,none⟩)) w):Runs Tryz.prog ⟨dst,.fieldAddr 42 x 3,ty,pos,after,g⟩ a w T:=by
 refine Runs.value (v:=.pointer (some ⟨S,o+3,none⟩)) (w':=w) ?_ h
 simp only [execOp,hx]
 go_simp
theorem rn_eqs_9 {o1 o2:Operand}{b c:ByteArray}(hx:a.eval o1=.string b) (hy:a.eval o2=.string c) (h:T (.bool (decide (b=c))) w):Runs Tryz.prog ⟨dst,.binOp .eql 9 o1 o2 9,ty,pos,after,g⟩ a w T:=by
 have hs:(b.toList==c.toList)=decide (b=c):=by
  rw [ByteArray.toList_eq,ByteArray.toList_eq,Bool.eq_iff_iff,beq_iff_eq,decide_eq_true_iff]
  exact⟨fun h=>by cases b;cases c;simp at h;rw [h],fun h=>by rw [h]⟩
 refine Runs.value (v:=.bool (decide (b=c))) (w':=w) ?_ h
 rw [← hs]
 simp only [execOp,hx,hy]
 go_simp
theorem rn_fld_42_4 {x:Operand}{S o:Nat}(hx:a.eval x=.pointer (some ⟨S,o,none⟩)) (h:T (.pointer (some ⟨S,o+4,none⟩)) w):Runs Tryz.prog ⟨dst,.fieldAddr 42 x 4,ty,pos,after,g⟩ a w T:=by
 refine Runs.value (v:=.pointer (some ⟨S,o+4,none⟩)) (w':=w) ?_ h
 simp only [execOp,hx]
 go_simp
theorem rn_fld_42_5 {x:Operand}{S o:Nat}(hx:a.eval x=.pointer (some ⟨S,o,none⟩)) (h:T (.pointer (some ⟨S,o+5,none⟩)) w):Runs Tryz.prog ⟨dst,.fieldAddr 42 x 5,ty,pos,after,g⟩ a w T:=by
 refine Runs.value (v:=.pointer (some ⟨S,o+5,none⟩)) (w':=w) ?_ h
 simp only [execOp,hx]
 go_simp
theorem rn_eql_3 {o1 o2:Operand}{b c:Int}(hx:a.eval o1=.int .i64 b) (hy:a.eval o2=.int .i64 c) (h:T (.bool (b==c)) w):Runs Tryz.prog ⟨dst,.binOp .eql 3 o1 o2 3,ty,pos,after,g⟩ a w T:=by
 refine Runs.value (v:=.bool (b==c)) (w':=w) ?_ h
 simp only [execOp,hx,hy]
 go_simp
end
def hdT (s:ByteArray) (d:Int) (y:List Sm):Bool:=!(((!(idn s))||(!(num1 d 0)))||(!(okSs y)))
def tlT (i:Int) (h m:ByteArray) (n:Int):Bool:=if i=0 then (((idn h)&&(idn m))&&(num1 n 0)) else ((((num1 i 1)&&(decide ((h)=((⟨([]).toArray⟩:ByteArray)))))&&(decide ((m)=((⟨([]).toArray⟩:ByteArray)))))&&((n)==(0)))
def okT (t:Ta):Bool:=hdT t.s t.d t.b&&tlT t.p t.c t.m t.w
abbrev tv (s:ByteArray) (i d:Int) (h m:ByteArray) (n:Int) (bp:Option Addr) (bn bc:Nat) (q:Int):Value:=.agg #[.string s,.int .i64 i,.int .i64 d,.string h,.string m,.int .i64 n,.slice bp bn bc,.int .i64 q]
def optT (w:List UInt8) (n:Int):List UInt8:=if n=0 then [] else (([32]++w)++[32])++numZ n
def tskO (s:ByteArray):List UInt8:=[116,97,115,107,32]++s.data.toList
def tskE (O:List UInt8) (i:Int):List UInt8:=(O++[32,101,118,101,114,121,32])++numZ i
def tskC (O:List UInt8) (h m:ByteArray) (n:Int):List UInt8:=((((((O)++([32,111,110,32]))++(h.data.toList))++([40]))++(m.data.toList))++([41]))++(optT [119,105,116,104,105,110] n)
def tskH (t:Ta):List UInt8:=if t.p=0 then tskC (tskO t.s) t.c t.m t.w else tskE (tskO t.s) t.p
def tskF (O Y:List UInt8) (d:Int):List UInt8:=((((O)++(optT [100,101,97,100,108,105,110,101] d))++([32,123,10]))++(Y))++([125,10])
def tskT (t:Ta):List UInt8:=tskF (tskH t) (linL t.b [32,32,32,32]) t.d
theorem optT_len (w:List UInt8) (n:Int) (h:0≤n∧n≤32767):(optT w n).length≤w.length+8:=by
 have:=numZ_len (z:=n) (by omega)
 rw [optT]
 split
 ·exact Nat.zero_le _
 ·simp only [List.length_append,List.length_cons,List.length_nil];omega
theorem okT_cases {t:Ta}(h:okT t=true):idn t.s=true∧(0≤t.d∧t.d≤32767)∧okSs t.b=true∧((t.p=0∧idn t.c=true∧idn t.m=true∧0≤t.w∧t.w≤32767)∨((1≤t.p∧t.p≤32767)∧t.c=⟨#[]⟩∧t.m=⟨#[]⟩∧t.w=0)):=by
 rw [okT,Bool.and_eq_true] at h
 obtain ⟨h1,h2⟩:=h
 rw [hdT,Bool.not_eq_true'] at h1
 simp only [Bool.or_eq_false_iff,Bool.not_eq_false'] at h1
 obtain ⟨⟨p1,p2⟩,p3⟩:=h1
 rw [num1,Bool.and_eq_true,decide_eq_true_eq,decide_eq_true_eq] at p2
 refine⟨p1,p2,p3,?_⟩
 rw [tlT] at h2
 split at h2
 ·rename_i h0
  simp only [Bool.and_eq_true,num1,decide_eq_true_eq] at h2
  exact .inl ⟨h0,h2.1.1,h2.1.2,h2.2⟩
 ·simp only [Bool.and_eq_true,num1,decide_eq_true_eq,beq_iff_eq] at h2
  exact .inr ⟨h2.1.1.1,h2.1.1.2,h2.1.2,h2.2⟩
def okC (s:ByteArray) (z:Int):Bool:=!((!(idn s))||(decide ((z) < (-32767))))
def okG (s:ByteArray) (l i:Int):Bool:=!((((!(idn s))||(!(num1 l 0)))||(decide ((i) < (-32767))))||((decide ((0) < (l)))&&((i) != (0))))
def okH (s:ByteArray) (z:Int):Bool:=!((!(idn s))||(!(num1 z 0)))
def okCs (l:List Cn):Bool:=l.all fun c=>okC c.s c.v
def okGs (l:List Gl):Bool:=l.all fun c=>okG c.s c.l c.i
def okNs (l:List ByteArray):Bool:=l.all fun s=>idn s
def okHs (l:List Cn):Bool:=l.all fun c=>okH c.s c.v
def okTs (l:List Ta):Bool:=l.all fun t=>okT t
def okP (P:Pg):Bool:=okCs P.cs&&(okGs P.gs&&(okNs (P.ss++P.os)&&(okHs P.hs&&okTs P.ts)))
theorem all_snoc {α:Type}{f:α→Bool}{l:List α}{j:Nat}{x:α}(h:l.take (j+1)=l.take j++[x]):(l.take (j+1)).all f=((l.take j).all f&&f x):=by
 rw [h,List.all_append,List.all_cons,List.all_nil,Bool.and_true]
theorem all_no {α:Type}{f:α→Bool}{l:List α}{x:α}(h:x ∈ l) (hx:f x=false):l.all f=false:=by
 cases h1:l.all f with
 | false=>rfl
 | true=>rw [List.all_eq_true.1 h1 x h] at hx;cases hx
def lnC (O:List UInt8) (s:ByteArray) (z:Int):List UInt8:=(((((O)++([99,111,110,115,116,32]))++(s.data.toList))++([32,61,32]))++(numZ z))++([59,10])
def lnH (O:List UInt8) (s:ByteArray) (z:Int):List UInt8:=(((((O)++([99,104,97,110,110,101,108,32]))++(s.data.toList))++([91]))++(numZ z))++([93,59,10])
def lnG1 (O:List UInt8) (s:ByteArray):List UInt8:=(O++[118,97,114,32])++s.data.toList
def lnG2 (O:List UInt8) (l i:Int):List UInt8:=if 0 < l then ((O++[91])++numZ l)++[93] else if i≠0 then (O++[32,61,32])++numZ i else O
def lnG (O:List UInt8) (s:ByteArray) (l i:Int):List UInt8:=lnG2 (lnG1 O s) l i++[59,10]
def lnS (O:List UInt8) (s:ByteArray):List UInt8:=((O++[115,101,110,115,111,114,32])++s.data.toList)++[59,10]
def lnO (O:List UInt8) (s:ByteArray):List UInt8:=((O++[111,117,116,112,117,116,32])++s.data.toList)++[59,10]
def fCs (O:List UInt8) (l:List Cn):List UInt8:=l.foldl (fun O c=>lnC O c.s c.v) O
def fGs (O:List UInt8) (l:List Gl):List UInt8:=l.foldl (fun O c=>lnG O c.s c.l c.i) O
def fSs (O:List UInt8) (l:List ByteArray):List UInt8:=l.foldl lnS O
def fOs (O:List UInt8) (l:List ByteArray):List UInt8:=l.foldl lnO O
def fHs (O:List UInt8) (l:List Cn):List UInt8:=l.foldl (fun O c=>lnH O c.s c.v) O
def fTs (O:List UInt8) (l:List Ta):List UInt8:=l.foldl (fun O t=>O++tskT t) O
def fmT (P:Pg):List UInt8:=fTs (fHs (fOs (fSs (fGs (fCs [] P.cs) P.gs) P.ss) P.os) P.hs) P.ts
theorem okC_of {s:ByteArray}{z:Int}(h:okC s z=true):idn s=true∧-32767≤z:=by
 rw [okC,Bool.not_eq_true'] at h
 simp only [Bool.or_eq_false_iff,Bool.not_eq_false',decide_eq_false_iff_not] at h
 exact⟨h.1,by omega⟩
theorem okH_of {s:ByteArray}{z:Int}(h:okH s z=true):idn s=true∧0≤z∧z≤32767:=by
 rw [okH,Bool.not_eq_true'] at h
 simp only [Bool.or_eq_false_iff,Bool.not_eq_false',num1,Bool.and_eq_true,decide_eq_true_eq] at h
 exact h
theorem okG_of {s:ByteArray}{l i:Int}(h:okG s l i=true):idn s=true∧(0≤l∧l≤32767)∧-32767≤i∧(0 < l→i=0):=by
 rw [okG,Bool.not_eq_true'] at h
 simp only [Bool.or_eq_false_iff,Bool.not_eq_false',num1,Bool.and_eq_true,decide_eq_true_eq,decide_eq_false_iff_not,Bool.and_eq_false_iff] at h
 obtain ⟨⟨⟨h1,h2⟩,h3⟩,h4⟩:=h
 refine⟨h1,h2,by omega,fun h5=>?_⟩
 rcases h4 with h4 | h4
 ·omega
 ·simpa using h4
section
variable {dst:Option Tmp}{ty:TypeId}{pos:String}{after:Array Edge}{g:Option (Nat × Bool)}{a:Act}{w:World}{T:Value→World→Prop}
theorem rn_fld_60_0 {x:Operand}{S o:Nat}(hx:a.eval x=.pointer (some ⟨S,o,none⟩)) (h:T (.pointer (some ⟨S,o,none⟩)) w):Runs Tryz.prog ⟨dst,.fieldAddr 60 x 0,ty,pos,after,g⟩ a w T:=by
 refine Runs.value (v:=.pointer (some ⟨S,o,none⟩)) (w':=w) ?_ h
 simp only [execOp,hx]
 go_simp
theorem rn_fld_60_1 {x:Operand}{S o:Nat}(hx:a.eval x=.pointer (some ⟨S,o,none⟩)) (h:T (.pointer (some ⟨S,o+1,none⟩)) w):Runs Tryz.prog ⟨dst,.fieldAddr 60 x 1,ty,pos,after,g⟩ a w T:=by
 refine Runs.value (v:=.pointer (some ⟨S,o+1,none⟩)) (w':=w) ?_ h
 simp only [execOp,hx]
 go_simp
theorem rn_fld_62_0 {x:Operand}{S o:Nat}(hx:a.eval x=.pointer (some ⟨S,o,none⟩)) (h:T (.pointer (some ⟨S,o,none⟩)) w):Runs Tryz.prog ⟨dst,.fieldAddr 62 x 0,ty,pos,after,g⟩ a w T:=by
 refine Runs.value (v:=.pointer (some ⟨S,o,none⟩)) (w':=w) ?_ h
 simp only [execOp,hx]
 go_simp
theorem rn_fld_62_1 {x:Operand}{S o:Nat}(hx:a.eval x=.pointer (some ⟨S,o,none⟩)) (h:T (.pointer (some ⟨S,o+1,none⟩)) w):Runs Tryz.prog ⟨dst,.fieldAddr 62 x 1,ty,pos,after,g⟩ a w T:=by
 refine Runs.value (v:=.pointer (some ⟨S,o+1,none⟩)) (w':=w) ?_ h
 simp only [execOp,hx]
 go_simp
theorem rn_fld_62_2 {x:Operand}{S o:Nat}(hx:a.eval x=.pointer (some ⟨S,o,none⟩)) (h:T (.pointer (some ⟨S,o+2,none⟩)) w):Runs Tryz.prog ⟨dst,.fieldAddr 62 x 2,ty,pos,after,g⟩ a w T:=by
 refine Runs.value (v:=.pointer (some ⟨S,o+2,none⟩)) (w':=w) ?_ h
 simp only [execOp,hx]
 go_simp
theorem rn_fld_64_0 {x:Operand}{S o:Nat}(hx:a.eval x=.pointer (some ⟨S,o,none⟩)) (h:T (.pointer (some ⟨S,o,none⟩)) w):Runs Tryz.prog ⟨dst,.fieldAddr 64 x 0,ty,pos,after,g⟩ a w T:=by
 refine Runs.value (v:=.pointer (some ⟨S,o,none⟩)) (w':=w) ?_ h
 simp only [execOp,hx]
 go_simp
theorem rn_fld_64_1 {x:Operand}{S o:Nat}(hx:a.eval x=.pointer (some ⟨S,o,none⟩)) (h:T (.pointer (some ⟨S,o+1,none⟩)) w):Runs Tryz.prog ⟨dst,.fieldAddr 64 x 1,ty,pos,after,g⟩ a w T:=by
 refine Runs.value (v:=.pointer (some ⟨S,o+1,none⟩)) (w':=w) ?_ h
 simp only [execOp,hx]
 go_simp
end
section
variable {dst:Option Tmp}{ty:TypeId}{pos:String}{after:Array Edge}{g:Option (Nat × Bool)}{a:Act}{w:World}{T:Value→World→Prop}
end
def AllH (P:Program) (ops:Array Oper) (Q:Exit→Act→World→Prop) (S:World→Prop) (fuel:Nat) (listed:Array Bool) (a:Act) (w:World):List Nat→Prop
 | []=>True
 | i :: r=>(∃o,ops[i]?=some o∧o.guard=none∧Runs P o a w fun v w'=>S w'∧wpAnyH P .any ops Q S fuel (listed.setIfInBounds i true) (a.put o.dst v) w')∧AllH P ops Q S fuel listed a w r
theorem AllH.at {P:Program}{ops:Array Oper}{Q:Exit→Act→World→Prop}{S:World→Prop}{fuel:Nat}{listed:Array Bool}{a:Act}{w:World}:∀{rs:List Nat},AllH P ops Q S fuel listed a w rs→∀i ∈ rs,∃o,ops[i]?=some o∧o.guard=none∧Runs P o a w fun v w'=>S w'∧wpAnyH P .any ops Q S fuel (listed.setIfInBounds i true) (a.put o.dst v) w'
 | _ :: _,h,i,hi=>by
   rcases List.mem_cons.1 hi with rfl | hi
   ·exact h.1
   ·exact AllH.at h.2 i hi
section
variable {dst:Option Tmp}{ty:TypeId}{pos:String}{after:Array Edge}{g:Option (Nat × Bool)}{a:Act}{w:World}{T:Value→World→Prop}
theorem rn_cat_9 {o1 o2:Operand}{b c:List UInt8}(hx:a.eval o1=.string ⟨b.toArray⟩) (hy:a.eval o2=.string ⟨c.toArray⟩) (hb:b.length+c.length≤9223372036854775807) (h:T (.string ⟨(b++c).toArray⟩) w):Runs Tryz.prog ⟨dst,.binOp .add 9 o1 o2 9,ty,pos,after,g⟩ a w T:=by
 have hs:(⟨b.toArray⟩:ByteArray)++⟨c.toArray⟩=⟨(b++c).toArray⟩:=by apply ByteArray.ext;simp
 have hn:¬ 9223372036854775807 < b.length+c.length:=by omega
 refine Runs.value (v:=.string ⟨(b++c).toArray⟩) (w':=w) ?_ h
 rw [← hs]
 simp only [execOp,hx,hy]
 go_simp
theorem rn_idx_33 {x y:Operand}{b o n c:Nat}(i:Nat) (hx:a.eval x=.slice (some ⟨b,o,none⟩) n c) (hy:a.eval y=.int .i64 (i:Int)) (hi:i < n) (h:T (.pointer (some ⟨b,o+i * 6,none⟩)) w):Runs Tryz.prog ⟨dst,.indexAddr 33 x y,ty,pos,after,g⟩ a w T:=by
 have hi2:(i:Int) < (n:Int):=by omega
 refine Runs.value (v:=.pointer (some ⟨b,o+i * 6,none⟩)) (w':=w) ?_ h
 simp only [execOp,hx,hy]
 go_simp
theorem rn_ld_35 {x:Operand}{S o:Nat}{v0 v1 v2 v3 v4 v5:Value}(hx:a.eval x=.pointer (some ⟨S,o,none⟩)) (h0:w.cell? ⟨S,o,none⟩=some v0) (h1:w.cell? ⟨S,o+1,none⟩=some v1) (h2:w.cell? ⟨S,o+2,none⟩=some v2) (h3:w.cell? ⟨S,o+3,none⟩=some v3) (h4:w.cell? ⟨S,o+4,none⟩=some v4) (h5:w.cell? ⟨S,o+5,none⟩=some v5) (h:T (.agg #[v0,v1,v2,v3,v4,v5]) w):Runs Tryz.prog ⟨dst,.load 35 x,ty,pos,after,g⟩ a w T:=by
 refine Runs.value (v:=.agg #[v0,v1,v2,v3,v4,v5]) (w':=w) ?_ h
 simp only [execOp,hx]
 go_simp
end
section
variable {dst:Option Tmp}{ty:TypeId}{pos:String}{after:Array Edge}{g:Option (Nat × Bool)}{a:Act}{w:World}{T:Value→World→Prop}
end
abbrev sv (k:Int) (s:ByteArray) (n:Int) (ap:Option Addr) (an ac:Nat) (bp:Option Addr) (bn bc:Nat) (ep:Option Addr) (en ec:Nat) (q:Int):Value:=.agg #[.int .i64 k,.string s,.int .i64 n,.slice ap an ac,.slice bp bn bc,.slice ep en ec,.int .i64 q]
theorem SL_fit {B:Nat→Prop}{w:World}:∀(n:Nat) (p:Option Addr) (c:Nat) (xs:List Sm),nSs xs < n→SL B w p c xs→fitSs xs:=by
 intro n
 induction n with
 | zero=>intro _ _ _ h;exact absurd h (Nat.not_lt_zero _)
 | succ n ih =>
   intro p c xs hn hx
   obtain ⟨-,L,-,h2⟩:=hx
   induction xs generalizing L with
   | nil=>rw [fitSs];trivial
   | cons x xs ihx =>
     rw [SsAt] at h2
     rw [nSs] at hn
     obtain ⟨d,L',rfl,h3,h4⟩:=h2
     rw [SAt_iff] at h3
     obtain ⟨ap,ac,bp,bc,ep,ec,_,_,h5,h6,h7⟩:=h3
     rw [fitSs]
     rw [nS_be] at hn
     refine⟨?_,ihx (by omega) L' h4⟩
     rw [x.eta,fitS]
     exact⟨h5.fit,ih bp bc x.b (by omega) h6,ih ep ec x.e (by omega) h7⟩
theorem SL.fit {B:Nat→Prop}{w:World}{p:Option Addr}{c:Nat}{xs:List Sm}(h:SL B w p c xs):fitSs xs:=SL_fit _ _ _ _ (Nat.lt_succ_self _) h
section
variable {dst:Option Tmp}{ty:TypeId}{pos:String}{after:Array Edge}{g:Option (Nat × Bool)}{a:Act}{w:World}{T:Value→World→Prop}
theorem rn_cv_32_3 {x:Operand}{z:Int}(hx:a.eval x=.int .i16 z) (hb:-9223372036854775808≤z∧z≤9223372036854775807) (h:T (.int .i64 z) w):Runs Tryz.prog ⟨dst,.convert 32 3 x,ty,pos,after,g⟩ a w T:=by
 refine Runs.value (v:=.int .i64 z) (w':=w) ?_ h
 have hw:IntKind.i64.wrap z=z:=IntWalk.i64_in _ hb
 simp only [execOp,hx]
 go_simp
end
theorem tskT_len (t:Ta) (h:okT t=true) (hf:fitSs t.b) (hd:4+4 * dSs t.b≤400):(tskT t).length≤3000 * nSs t.b+64 * mSs t.b+400:=by
 obtain ⟨c1,c2,c3,c4⟩:=okT_cases h
 have l1:=linL_len t.b [32,32,32,32] c3 hf (by simpa using hd)
 have ls:=idn_len c1
 have lod:=optT_len [100,101,97,100,108,105,110,101] t.d c2
 simp only [List.length_cons,List.length_nil] at lod
 have lO:(tskO t.s).length≤37:=by rw [tskO,List.length_append];simp only [List.length_cons,List.length_nil];omega
 have lH:(tskH t).length≤200:=by
  rw [tskH]
  rcases c4 with ⟨c4,c5,c6,c7⟩ | ⟨c4,-,-,-⟩
  ·rw [if_pos c4,tskC]
   have lh:=idn_len c5
   have lm:=idn_len c6
   have low:=optT_len [119,105,116,104,105,110] t.w c7
   simp only [List.length_cons,List.length_nil] at low
   simp only [List.length_append,List.length_cons,List.length_nil]
   omega
  ·rw [if_neg (by omega),tskE]
   have lz:=numZ_len (z:=t.p) (by omega)
   simp only [List.length_append,List.length_cons,List.length_nil]
   omega
 rw [tskT,tskF]
 simp only [List.length_append,List.length_cons,List.length_nil]
 omega
section
variable {dst:Option Tmp}{ty:TypeId}{pos:String}{after:Array Edge}{g:Option (Nat × Bool)}{a:Act}{w:World}{T:Value→World→Prop}
end
theorem enters_eq:Enters Tryz.prog 24:=fun args w=>by go_simp
set_option maxHeartbeats 16000000 in
theorem eqx_any:∀(x y:Xp) (A B:Nat→Prop) (w:World) (p p':Option Addr) (c c':Nat),XL A w p c x.ar→XL B w p' c' y.ar →
 Calls Tryz.prog 24 #[xv x.k x.s x.v x.o p x.ar.length c x.q,xv y.k y.s y.v y.o p' y.ar.length c' y.q] w fun e w'=>e=.returned (.bool (eqX x y))∧Grew w w':=by
 intro x
 induction x using Xp.ind with
 | h kx sx vx ox rx qx ih =>
 intro y A B w px py cx cy hx hy
 obtain ⟨ky,sy,vy,oy,ry,qy⟩:=y
 replace hx:XL A w px cx rx:=hx
 replace hy:XL B w py cy ry:=hy
 have HX:=zh hx
 have HY:=zh hy
 have hcap:rx.length≤cx∧ry.length≤cy:=⟨hx.cap.1,hy.cap.1⟩
 have hmax:=And.intro hx.cap.2.1 hy.cap.2.1
 show Calls Tryz.prog 24 #[xv kx sx vx ox px rx.length cx qx,xv ky sy vy oy py ry.length cy qy] w _
 obtain ⟨b,hb⟩:∃b,eqX ⟨kx,sx,vx,ox,rx,qx⟩ ⟨ky,sy,vy,oy,ry,qy⟩=b:=⟨_,rfl⟩
 rw [hb]
 rw [eqX] at hb
 have HOK:=zh hb
 clear hx hy hb
 go_enter Tryz.func24,Tryz.ntmps24
 go_upto_region 1 with fail
 have hb1:Blk w.heap.size [.int .i64 kx,.string sx,.int .i16 vx,.int .i64 ox,.slice px rx.length cx,.int .i64 qx] 35 (w.alloc (Obj.cells #[.int .i64 kx,.string sx,.int .i16 vx,.int .i64 ox,.slice px rx.length cx,.int .i64 qx] 35)):=Blk.new w _ _
 have hb2:Blk (w.heap.size+1) [.int .i64 ky,.string sy,.int .i16 vy,.int .i64 oy,.slice py ry.length cy,.int .i64 qy] 35 ((w.alloc (Obj.cells #[.int .i64 kx,.string sx,.int .i16 vx,.int .i64 ox,.slice px rx.length cx,.int .i64 qx] 35)).alloc (Obj.cells #[.int .i64 ky,.string sy,.int .i16 vy,.int .i64 oy,.slice py ry.length cy,.int .i64 qy] 35)):=by
  have h:=Blk.new (w.alloc (Obj.cells #[.int .i64 kx,.string sx,.int .i16 vx,.int .i64 ox,.slice px rx.length cx,.int .i64 qx] 35)) [.int .i64 ky,.string sy,.int .i16 vy,.int .i64 oy,.slice py ry.length cy,.int .i64 qy] 35
  rw [alloc_sz] at h
  exact h
 have hb3:=hb1.grew ((Grew.refl _).alloc (Obj.cells #[.int .i64 ky,.string sy,.int .i16 vy,.int .i64 oy,.slice py ry.length cy,.int .i64 qy] 35))
 have hgV:Grew w ((w.alloc (Obj.cells #[.int .i64 kx,.string sx,.int .i16 vx,.int .i64 ox,.slice px rx.length cx,.int .i64 qx] 35)).alloc (Obj.cells #[.int .i64 ky,.string sy,.int .i16 vy,.int .i64 oy,.slice py ry.length cy,.int .i64 qy] 35)):=((Grew.refl w).alloc _).alloc _
 generalize ((w.alloc (Obj.cells #[.int .i64 kx,.string sx,.int .i16 vx,.int .i64 ox,.slice px rx.length cx,.int .i64 qx] 35)).alloc (Obj.cells #[.int .i64 ky,.string sy,.int .i16 vy,.int .i64 oy,.slice py ry.length cy,.int .i64 qy] 35))=V at hb2 hb3 hgV ⊢
 clear hb1
 generalize w.heap.size+1=U at hb2 ⊢
 generalize w.heap.size=S at hb3 ⊢
 have HBS:=zh hb3
 have HBU:=zh hb2
 have HGV:=zh hgV
 have d0:Atv ⟨S,0,none⟩ (.int .i64 kx) V:=hb3.atv 0 rfl
 have d1:Atv ⟨S,1,none⟩ (.string sx) V:=hb3.atv 1 rfl
 have d2:Atv ⟨S,2,none⟩ (.int .i16 vx) V:=hb3.atv 2 rfl
 have d3:Atv ⟨S,3,none⟩ (.int .i64 ox) V:=hb3.atv 3 rfl
 have d4:Atv ⟨S,4,none⟩ (.slice px rx.length cx) V:=hb3.atv 4 rfl
 have e0:Atv ⟨U,0,none⟩ (.int .i64 ky) V:=hb2.atv 0 rfl
 have e1:Atv ⟨U,1,none⟩ (.string sy) V:=hb2.atv 1 rfl
 have e2:Atv ⟨U,2,none⟩ (.int .i16 vy) V:=hb2.atv 2 rfl
 have e3:Atv ⟨U,3,none⟩ (.int .i64 oy) V:=hb2.atv 3 rfl
 have e4:Atv ⟨U,4,none⟩ (.slice py ry.length cy) V:=hb2.atv 4 rfl
 clear hb2 hb3 hgV
 refine wp_stillL [some 6,some 7,some 8,some 9,some 10,some 11,some 12,some 13,some 14,some 15,some 16,some 17,some 18,some 19,some 20,some 21,some 22,some 23,some 24,some 25,some 26,some 27,some 28,some 29,some 30,some 31,some 32,some 33,some 34,some 35,some 36,some 37,some 38,some 39,some 40] (Zfc (Zfb (Ztg (Ztb (Zta (Zfe (Zfb (Zfa [])))))))) [fun v _=>v=.pointer (some ⟨S,0,none⟩),fun v _=>v=.int .i64 (kx),fun v _=>v=.pointer (some ⟨U,0,none⟩),fun v _=>v=.int .i64 (ky),fun v _=>v=.bool ((kx) != (ky)),fun v _=>v=.bool ((kx) != (ky)),fun v _=>Zg (((kx) != (ky))=false) (.pointer (some ⟨S,1,none⟩)) v,fun v _=>Zg (((kx) != (ky))=false) (.string sx) v,fun v _=>Zg (((kx) != (ky))=false) (.pointer (some ⟨U,1,none⟩)) v,fun v _=>Zg (((kx) != (ky))=false) (.string sy) v,fun v _=>Zg (((kx) != (ky))=false) (.bool (!decide ((sx)=(sy)))) v,fun v _=>v=.bool (((kx) != (ky))||(!decide ((sx)=(sy)))),fun v _=>v=.bool (((kx) != (ky))||(!decide ((sx)=(sy)))),fun v _=>Zg ((((kx) != (ky))||(!decide ((sx)=(sy))))=false) (.pointer (some ⟨S,2,none⟩)) v,fun v _=>Zg ((((kx) != (ky))||(!decide ((sx)=(sy))))=false) (.int .i16 (vx)) v,fun v _=>Zg ((((kx) != (ky))||(!decide ((sx)=(sy))))=false) (.pointer (some ⟨U,2,none⟩)) v,fun v _=>Zg ((((kx) != (ky))||(!decide ((sx)=(sy))))=false) (.int .i16 (vy)) v,fun v _=>Zg ((((kx) != (ky))||(!decide ((sx)=(sy))))=false) (.bool ((vx) != (vy))) v,fun v _=>v=.bool ((((kx) != (ky))||(!decide ((sx)=(sy))))||((vx) != (vy))),fun v _=>v=.bool ((((kx) != (ky))||(!decide ((sx)=(sy))))||((vx) != (vy))),fun v _=>Zg (((((kx) != (ky))||(!decide ((sx)=(sy))))||((vx) != (vy)))=false) (.pointer (some ⟨S,3,none⟩)) v,fun v _=>Zg (((((kx) != (ky))||(!decide ((sx)=(sy))))||((vx) != (vy)))=false) (.int .i64 (ox)) v,fun v _=>Zg (((((kx) != (ky))||(!decide ((sx)=(sy))))||((vx) != (vy)))=false) (.pointer (some ⟨U,3,none⟩)) v,fun v _=>Zg (((((kx) != (ky))||(!decide ((sx)=(sy))))||((vx) != (vy)))=false) (.int .i64 (oy)) v,fun v _=>Zg (((((kx) != (ky))||(!decide ((sx)=(sy))))||((vx) != (vy)))=false) (.bool ((ox) != (oy))) v,fun v _=>v=.bool (((((kx) != (ky))||(!decide ((sx)=(sy))))||((vx) != (vy)))||((ox) != (oy))),fun v _=>v=.bool (((((kx) != (ky))||(!decide ((sx)=(sy))))||((vx) != (vy)))||((ox) != (oy))),fun v _=>Zg ((((((kx) != (ky))||(!decide ((sx)=(sy))))||((vx) != (vy)))||((ox) != (oy)))=false) (.pointer (some ⟨S,4,none⟩)) v,fun v _=>Zg ((((((kx) != (ky))||(!decide ((sx)=(sy))))||((vx) != (vy)))||((ox) != (oy)))=false) (.slice px (rx.length) (cx)) v,fun v _=>Zg ((((((kx) != (ky))||(!decide ((sx)=(sy))))||((vx) != (vy)))||((ox) != (oy)))=false) (.int .i64 (((rx.length:Nat):Int))) v,fun v _=>Zg ((((((kx) != (ky))||(!decide ((sx)=(sy))))||((vx) != (vy)))||((ox) != (oy)))=false) (.pointer (some ⟨U,4,none⟩)) v,fun v _=>Zg ((((((kx) != (ky))||(!decide ((sx)=(sy))))||((vx) != (vy)))||((ox) != (oy)))=false) (.slice py (ry.length) (cy)) v,fun v _=>Zg ((((((kx) != (ky))||(!decide ((sx)=(sy))))||((vx) != (vy)))||((ox) != (oy)))=false) (.int .i64 (((ry.length:Nat):Int))) v,fun v _=>Zg ((((((kx) != (ky))||(!decide ((sx)=(sy))))||((vx) != (vy)))||((ox) != (oy)))=false) (.bool ((((rx.length:Nat):Int)) != (((ry.length:Nat):Int)))) v,fun v _=>v=.bool ((((((kx) != (ky))||(!decide ((sx)=(sy))))||((vx) != (vy)))||((ox) != (oy)))||((((rx.length:Nat):Int)) != (((ry.length:Nat):Int))))] (by kernel_rfl) rfl ⟨?_,?_,?_,?_,?_,?_,?_,?_,?_,?_,?_,?_,?_,?_,?_,?_,?_,?_,?_,?_,?_,?_,?_,?_,?_,?_,?_,?_,?_,?_,?_,?_,?_,?_,?_,trivial⟩ ?_
 ·intro u w hR hd;exact rn_fld_35_0 (ev rfl) ⟨rfl,rfl⟩
 ·intro u w hR hd;exact rn_ld_3 (ev (hd.1 rfl)) (d0.kept hR) ⟨rfl,rfl⟩
 ·intro u w hR hd;exact rn_fld_35_0 (ev rfl) ⟨rfl,rfl⟩
 ·intro u w hR hd;exact rn_ld_3 (ev (hd.1 rfl)) (e0.kept hR) ⟨rfl,rfl⟩
 ·intro u w hR hd;exact rn_neq_3 (ev (hd.1 rfl)) (ev (hd.2.1 rfl)) ⟨rfl,rfl⟩
 ·intro u w hR hd;exact runs_mv (ev (hd.1 rfl)) ⟨rfl,rfl⟩
 ·intro u w hR hd;exact⟨fun hg=>have hG:=Zh (hd.1 rfl) hg;rn_fld_35_1 (ev rfl) ⟨rfl,⟨fun _=>rfl,fun hn=>absurd hG hn⟩⟩,Zn (hd.1 rfl)⟩
 ·intro u w hR hd;exact⟨fun hg=>have hG:=Zh (hd.2.1 rfl) hg;rn_ld_9 (ev ((hd.1 rfl).1 hG)) (d1.kept hR) ⟨rfl,⟨fun _=>rfl,fun hn=>absurd hG hn⟩⟩,Zn (hd.2.1 rfl)⟩
 ·intro u w hR hd;exact⟨fun hg=>have hG:=Zh (hd.1 rfl) hg;rn_fld_35_1 (ev rfl) ⟨rfl,⟨fun _=>rfl,fun hn=>absurd hG hn⟩⟩,Zn (hd.1 rfl)⟩
 ·intro u w hR hd;exact⟨fun hg=>have hG:=Zh (hd.2.1 rfl) hg;rn_ld_9 (ev ((hd.1 rfl).1 hG)) (e1.kept hR) ⟨rfl,⟨fun _=>rfl,fun hn=>absurd hG hn⟩⟩,Zn (hd.2.1 rfl)⟩
 ·intro u w hR hd;exact⟨fun hg=>have hG:=Zh (hd.2.2.1 rfl) hg;rn_nes_9 (ev ((hd.1 rfl).1 hG)) (ev ((hd.2.1 rfl).1 hG)) ⟨rfl,⟨fun _=>rfl,fun hn=>absurd hG hn⟩⟩,Zn (hd.2.2.1 rfl)⟩
 ·intro u w hR hd;exact runs_or2 (ev (hd.1 rfl)) (fun hb=>ev ((hd.2.1 rfl).1 hb)) ⟨rfl,rfl⟩
 ·intro u w hR hd;exact runs_mv (ev (hd.1 rfl)) ⟨rfl,rfl⟩
 ·intro u w hR hd;exact⟨fun hg=>have hG:=Zh (hd.1 rfl) hg;rn_fld_35_2 (ev rfl) ⟨rfl,⟨fun _=>rfl,fun hn=>absurd hG hn⟩⟩,Zn (hd.1 rfl)⟩
 ·intro u w hR hd;exact⟨fun hg=>have hG:=Zh (hd.2.1 rfl) hg;rn_ld_32 (ev ((hd.1 rfl).1 hG)) (d2.kept hR) ⟨rfl,⟨fun _=>rfl,fun hn=>absurd hG hn⟩⟩,Zn (hd.2.1 rfl)⟩
 ·intro u w hR hd;exact⟨fun hg=>have hG:=Zh (hd.1 rfl) hg;rn_fld_35_2 (ev rfl) ⟨rfl,⟨fun _=>rfl,fun hn=>absurd hG hn⟩⟩,Zn (hd.1 rfl)⟩
 ·intro u w hR hd;exact⟨fun hg=>have hG:=Zh (hd.2.1 rfl) hg;rn_ld_32 (ev ((hd.1 rfl).1 hG)) (e2.kept hR) ⟨rfl,⟨fun _=>rfl,fun hn=>absurd hG hn⟩⟩,Zn (hd.2.1 rfl)⟩
 ·intro u w hR hd;exact⟨fun hg=>have hG:=Zh (hd.2.2.1 rfl) hg;rn_neq_32 (ev ((hd.1 rfl).1 hG)) (ev ((hd.2.1 rfl).1 hG)) ⟨rfl,⟨fun _=>rfl,fun hn=>absurd hG hn⟩⟩,Zn (hd.2.2.1 rfl)⟩
 ·intro u w hR hd;exact runs_or2 (ev (hd.1 rfl)) (fun hb=>ev ((hd.2.1 rfl).1 hb)) ⟨rfl,rfl⟩
 ·intro u w hR hd;exact runs_mv (ev (hd.1 rfl)) ⟨rfl,rfl⟩
 ·intro u w hR hd;exact⟨fun hg=>have hG:=Zh (hd.1 rfl) hg;rn_fld_35_3 (ev rfl) ⟨rfl,⟨fun _=>rfl,fun hn=>absurd hG hn⟩⟩,Zn (hd.1 rfl)⟩
 ·intro u w hR hd;exact⟨fun hg=>have hG:=Zh (hd.2.1 rfl) hg;rn_ld_3 (ev ((hd.1 rfl).1 hG)) (d3.kept hR) ⟨rfl,⟨fun _=>rfl,fun hn=>absurd hG hn⟩⟩,Zn (hd.2.1 rfl)⟩
 ·intro u w hR hd;exact⟨fun hg=>have hG:=Zh (hd.1 rfl) hg;rn_fld_35_3 (ev rfl) ⟨rfl,⟨fun _=>rfl,fun hn=>absurd hG hn⟩⟩,Zn (hd.1 rfl)⟩
 ·intro u w hR hd;exact⟨fun hg=>have hG:=Zh (hd.2.1 rfl) hg;rn_ld_3 (ev ((hd.1 rfl).1 hG)) (e3.kept hR) ⟨rfl,⟨fun _=>rfl,fun hn=>absurd hG hn⟩⟩,Zn (hd.2.1 rfl)⟩
 ·intro u w hR hd;exact⟨fun hg=>have hG:=Zh (hd.2.2.1 rfl) hg;rn_neq_3 (ev ((hd.1 rfl).1 hG)) (ev ((hd.2.1 rfl).1 hG)) ⟨rfl,⟨fun _=>rfl,fun hn=>absurd hG hn⟩⟩,Zn (hd.2.2.1 rfl)⟩
 ·intro u w hR hd;exact runs_or2 (ev (hd.1 rfl)) (fun hb=>ev ((hd.2.1 rfl).1 hb)) ⟨rfl,rfl⟩
 ·intro u w hR hd;exact runs_mv (ev (hd.1 rfl)) ⟨rfl,rfl⟩
 ·intro u w hR hd;exact⟨fun hg=>have hG:=Zh (hd.1 rfl) hg;rn_fld_35_4 (ev rfl) ⟨rfl,⟨fun _=>rfl,fun hn=>absurd hG hn⟩⟩,Zn (hd.1 rfl)⟩
 ·intro u w hR hd;exact⟨fun hg=>have hG:=Zh (hd.2.1 rfl) hg;rn_ld_33 (ev ((hd.1 rfl).1 hG)) (d4.kept hR) ⟨rfl,⟨fun _=>rfl,fun hn=>absurd hG hn⟩⟩,Zn (hd.2.1 rfl)⟩
 ·intro u w hR hd;exact⟨fun hg=>have hG:=Zh (hd.2.1 rfl) hg;rn_len_33 (ev ((hd.1 rfl).1 hG)) ⟨rfl,⟨fun _=>rfl,fun hn=>absurd hG hn⟩⟩,Zn (hd.2.1 rfl)⟩
 ·intro u w hR hd;exact⟨fun hg=>have hG:=Zh (hd.1 rfl) hg;rn_fld_35_4 (ev rfl) ⟨rfl,⟨fun _=>rfl,fun hn=>absurd hG hn⟩⟩,Zn (hd.1 rfl)⟩
 ·intro u w hR hd;exact⟨fun hg=>have hG:=Zh (hd.2.1 rfl) hg;rn_ld_33 (ev ((hd.1 rfl).1 hG)) (e4.kept hR) ⟨rfl,⟨fun _=>rfl,fun hn=>absurd hG hn⟩⟩,Zn (hd.2.1 rfl)⟩
 ·intro u w hR hd;exact⟨fun hg=>have hG:=Zh (hd.2.1 rfl) hg;rn_len_33 (ev ((hd.1 rfl).1 hG)) ⟨rfl,⟨fun _=>rfl,fun hn=>absurd hG hn⟩⟩,Zn (hd.2.1 rfl)⟩
 ·intro u w hR hd;exact⟨fun hg=>have hG:=Zh (hd.2.2.1 rfl) hg;rn_neq_3 (ev ((hd.1 rfl).1 hG)) (ev ((hd.2.1 rfl).1 hG)) ⟨rfl,⟨fun _=>rfl,fun hn=>absurd hG hn⟩⟩,Zn (hd.2.2.1 rfl)⟩
 ·intro u w hR hd;exact runs_or2 (ev (hd.1 rfl)) (fun hb=>ev ((hd.2.1 rfl).1 hb)) ⟨rfl,rfl⟩
 ·intro u h
  have he:u 40=.bool ((((((kx) != (ky))||(!decide ((sx)=(sy))))||((vx) != (vy)))||((ox) != (oy)))||((((rx.length:Nat):Int)) != (((ry.length:Nat):Int)))):=h 34 (by decide)
  have hE:((((((kx) != (ky))||(!decide ((sx)=(sy))))||((vx) != (vy)))||((ox) != (oy)))||((((rx.length:Nat):Int)) != (((ry.length:Nat):Int))))=!eqH kx sx vx ox rx.length ky sy vy oy ry.length:=by rw [eqH,Bool.not_not]
  rw [hE] at he
  simp only [mixA,mixL,zz9,zz0,he]
  clear h he hE d0 d1 d2 d3 d4 e0 e1 e2 e3 e4
  cases hh:eqH kx sx vx ox rx.length ky sy vy oy ry.length with
  | false =>
    rw [hh,Bool.false_and] at HOK
    go_wp2
    go_ret
    exact⟨ret_bool HOK.out,HGV.out⟩
  | true =>
    have hlen:rx.length=ry.length:=by
     rw [eqH,Bool.not_eq_true'] at hh
     simp only [Bool.or_eq_false_iff] at hh
     have:=hh.2
     simp at this
     omega
    rw [hh,Bool.true_and] at HOK
    have HLE:=zh hlen
    have r4:V.cell? ⟨S,4,none⟩=some (.slice px rx.length cx):=HBS.out.cell 4
    clear hh hlen
    go_wp2
    clear r4
    go_loopg [5,44] rx.length (fun gg jv iv wr=>∃(j:Nat),iv=.int .i64 (j:Int)∧j≤rx.length∧gg=rx.length - j∧Hid (eqXs (rx.take j) (ry.take j)=true)∧Hid (Grew V wr))
    case atStart=>exact⟨0,rfl,Nat.zero_le _,rfl,zh (eqXs_nil _),zh (Grew.refl _)⟩
    case round =>
     obtain ⟨j,rfl,hj,rfl,HI,HGr⟩:=hrel
     have HG:=zh (HGV.out.trans HGr.out)
     by_cases hlt:j < rx.length
     ·have hlt2:j < ry.length:=by have:=HLE.out;omega
      have hta:=List.take_succ_eq_append_getElem hlt
      have htb:=List.take_succ_eq_append_getElem hlt2
      have hno:=fun h=>eqXs_no rx ry j hlt hlt2 h
      have hih:=ih _ (List.getElem_mem hlt)
      have HLT:=zh (Nat.succ_le_of_lt hlt)
      have HL2:=zh (And.intro hlt hlt2)
      obtain ⟨ba,oa,pa,ca,hpa,hba,haa,hca⟩:=HX.out.get j hlt
      generalize rx[j]'hlt=xa at hba haa hca hih hno hta
      obtain ⟨ka,sa,va,o_a,ra,qa⟩:=xa
      replace haa:XL A w pa ca ra:=haa
      replace hca:∀i_ u_,(xdc ⟨ka,sa,va,o_a,pa,ra.length,ca,qa⟩)[i_]?=some u_→w.cell? ⟨ba,oa+j * 6+i_,none⟩=some u_:=hca
      obtain ⟨bb,ob,pb,cb,hpb,hbb,hab,hcb⟩:=HY.out.get j hlt2
      generalize ry[j]'hlt2=xb at hbb hab hcb hih hno htb
      obtain ⟨kb,sb,vb,o_b,rb,qb⟩:=xb
      replace hab:XL B w pb cb rb:=hab
      replace hcb:∀i_ u_,(xdc ⟨kb,sb,vb,o_b,pb,rb.length,cb,qb⟩)[i_]?=some u_→w.cell? ⟨bb,ob+j * 6+i_,none⟩=some u_:=hcb
      obtain ⟨dd,hd⟩:∃d,eqX ⟨ka,sa,va,o_a,ra,qa⟩ ⟨kb,sb,vb,o_b,rb,qb⟩=d:=⟨_,rfl⟩
      have HD:=zh hd
      have HTA:=zh hta
      have HTB:=zh htb
      have HNO:=zh (fun(h:dd=false)=>(show b=false from HOK.out ▸ hno (hd.trans h)))
      have HIH:=zh (fun W (hW:Grew w W)=>(show Calls Tryz.prog 24 #[xv ka sa va o_a pa ra.length ca qa,xv kb sb vb o_b pb rb.length cb qb] W fun e w'=>e=.returned (.bool dd)∧Grew W w' from hd ▸ hih ⟨kb,sb,vb,o_b,rb,qb⟩ A B W pa pb ca cb (haa.kept hW) (hab.kept hW)))
      subst hpa
      subst hpb
      have hbS:=HBS.out.grew (HGr.out.trans (Grew.refl wr).drw)
      have hbU:=HBU.out.grew (HGr.out.trans (Grew.refl wr).drw)
      have d4:Atv ⟨S,4,none⟩ (.slice (some ⟨ba,oa,none⟩) rx.length cx) wr.drew:=hbS.atv 4 rfl
      have e4:Atv ⟨U,4,none⟩ (.slice (some ⟨bb,ob,none⟩) ry.length cy) wr.drew:=hbU.atv 4 rfl
      have f0:Atv ⟨ba,oa+j * 6,none⟩ (.int .i64 ka) wr.drew:=Atv.kept (hca 0 _ rfl) (HG.out.trans (Grew.refl wr).drw)
      have f1:Atv ⟨ba,oa+j * 6+1,none⟩ (.string sa) wr.drew:=Atv.kept (hca 1 _ rfl) (HG.out.trans (Grew.refl wr).drw)
      have f2:Atv ⟨ba,oa+j * 6+2,none⟩ (.int .i16 va) wr.drew:=Atv.kept (hca 2 _ rfl) (HG.out.trans (Grew.refl wr).drw)
      have f3:Atv ⟨ba,oa+j * 6+3,none⟩ (.int .i64 o_a) wr.drew:=Atv.kept (hca 3 _ rfl) (HG.out.trans (Grew.refl wr).drw)
      have f4:Atv ⟨ba,oa+j * 6+4,none⟩ (.slice pa ra.length ca) wr.drew:=Atv.kept (hca 4 _ rfl) (HG.out.trans (Grew.refl wr).drw)
      have f5:Atv ⟨ba,oa+j * 6+5,none⟩ (.int .i64 qa) wr.drew:=Atv.kept (hca 5 _ rfl) (HG.out.trans (Grew.refl wr).drw)
      have h0:Atv ⟨bb,ob+j * 6,none⟩ (.int .i64 kb) wr.drew:=Atv.kept (hcb 0 _ rfl) (HG.out.trans (Grew.refl wr).drw)
      have h1:Atv ⟨bb,ob+j * 6+1,none⟩ (.string sb) wr.drew:=Atv.kept (hcb 1 _ rfl) (HG.out.trans (Grew.refl wr).drw)
      have h2:Atv ⟨bb,ob+j * 6+2,none⟩ (.int .i16 vb) wr.drew:=Atv.kept (hcb 2 _ rfl) (HG.out.trans (Grew.refl wr).drw)
      have h3:Atv ⟨bb,ob+j * 6+3,none⟩ (.int .i64 o_b) wr.drew:=Atv.kept (hcb 3 _ rfl) (HG.out.trans (Grew.refl wr).drw)
      have h4:Atv ⟨bb,ob+j * 6+4,none⟩ (.slice pb rb.length cb) wr.drew:=Atv.kept (hcb 4 _ rfl) (HG.out.trans (Grew.refl wr).drw)
      have h5:Atv ⟨bb,ob+j * 6+5,none⟩ (.int .i64 qb) wr.drew:=Atv.kept (hcb 5 _ rfl) (HG.out.trans (Grew.refl wr).drw)
      clear hta htb hno hih hd haa hab hca hcb hba hbb hbS hbU hlt2
      go_upto_region 6 with fail
      have hlt2:j < ry.length:=HL2.out.2
      refine wp_posts [some 47,some 48,some 49,some 50,some 51,some 52,some 53,some 54,some 55,some 56,some 57,some 58] (Zfg (Zfd (Zfc (Zfb (Zfa (Ztd (Ztc (Zfa [])))))))) [fun v _=>v=.pointer (some ⟨S,4,none⟩),fun v _=>v=.slice (some ⟨ba,oa,none⟩) (rx.length) (cx),fun v _=>v=.int .i64 (((j:Nat):Int)),fun v _=>v=.pointer (some ⟨ba,oa+j * 6,none⟩),fun v _=>v=.agg #[.int .i64 (ka),.string sa,.int .i16 (va),.int .i64 (o_a),.slice pa ra.length ca,.int .i64 (qa)],fun v _=>v=.pointer (some ⟨U,4,none⟩),fun v _=>v=.slice (some ⟨bb,ob,none⟩) (ry.length) (cy),fun v _=>v=.int .i64 (((j:Nat):Int)),fun v _=>v=.pointer (some ⟨bb,ob+j * 6,none⟩),fun v _=>v=.agg #[.int .i64 (kb),.string sb,.int .i16 (vb),.int .i64 (o_b),.slice pb rb.length cb,.int .i64 (qb)],fun v _=>v=.bool (dd),fun v _=>v=.bool (!(dd))] (by kernel_rfl) (by kernel_rfl) rfl ?_ ⟨?_,?_,?_,?_,?_,?_,?_,?_,?_,?_,?_,?_,trivial⟩ ?_
      ·exact⟨Zi,Zi,Zi,Zi,Zi,Zi,Zi,Zi,Zi,Zi,Zi,Zi,trivial⟩
      ·intro u w hR hd;exact rn_fld_35_4 (ev rfl) Zr
      ·intro u w hR hd;exact rn_ld_33 (ev (hd.1 rfl)) (d4.kept hR) Zr
      ·intro u w hR hd;exact runs_mv (ev rfl) Zr
      ·intro u w hR hd;exact rn_idx_33 (j) (ev (hd.1 rfl)) (ev (hd.2.1 rfl)) (by omega) Zr
      ·intro u w hR hd;exact rn_ld_35 (ev (hd.1 rfl)) (f0.kept hR) (f1.kept hR) (f2.kept hR) (f3.kept hR) (f4.kept hR) (f5.kept hR) Zr
      ·intro u w hR hd;exact rn_fld_35_4 (ev rfl) Zr
      ·intro u w hR hd;exact rn_ld_33 (ev (hd.1 rfl)) (e4.kept hR) Zr
      ·intro u w hR hd;exact runs_mv (ev rfl) Zr
      ·intro u w hR hd;exact rn_idx_33 (j) (ev (hd.1 rfl)) (ev (hd.2.1 rfl)) (by omega) Zr
      ·intro u w hR hd;exact rn_ld_35 (ev (hd.1 rfl)) (h0.kept hR) (h1.kept hR) (h2.kept hR) (h3.kept hR) (h4.kept hR) (h5.kept hR) Zr
      ·intro u w hR hd;exact runs_c2 enters_eq (ev (hd.1 rfl)) (ev (hd.2.1 rfl)) (callp (fun _ e=>e) (HIH.out _ (HG.out.trans ((Grew.refl _).drw.trans hR))))
      ·intro u w hR hd;exact runs_nt (ev (hd.1 rfl)) Zr
      ·intro u w4 hR hh
       have he:u 58=.bool (!(dd)):=hh 11 (by decide)
       simp only [mixA,mixL,zz9,zz0,he]
       have HG4:Hid (Grew V w4):=zh (HGr.out.trans ((Grew.refl wr).drw.trans hR))
       clear hh he hR d4 e4 f0 f1 f2 f3 f4 f5 h0 h1 h2 h3 h4 h5
       cases dd with
       | false =>
         have HN2:=zh (HNO.out rfl)
         clear HNO
         go_wp2
         go_ret
         exact⟨ret_bool HN2.out.symm,HGV.out.trans HG4.out⟩
       | true =>
         clear HNO
         go_wp2
         go_roundg (rx.length - (j+1))
         case measure=>have:=HLT.out;omega
         case rel=>exact⟨j+1,by go_num,HLT.out,rfl,zh (by rw [HTA.out,HTB.out,eqXs_snoc _ _ _ _ (by rw [List.length_take,List.length_take,HLE.out]),HI.out,HD.out];rfl),HG4⟩
     ·obtain rfl:j=rx.length:=by omega
      rw [List.take_length,HLE.out,List.take_length] at HI
      go_wp2
      go_ret
      exact⟨ret_bool (HI.out.symm.trans HOK.out),HG.out⟩
def ORow {α:Type}(k:Nat) (enc:α→List Value) (e:TypeId) (w:World) (a b g:Nat) (p:Option Addr) (c:Nat) (L:List α):Prop:=Rw k enc w p c L∧(0 < L.length→a≤g∧g < b∧p=some ⟨g,0,none⟩∧OwR w a e k enc (.slice p L.length c) L)
section
variable {α:Type}{k:Nat}{enc:α→List Value}{e:TypeId}{w w':World}{a b g:Nat}{p:Option Addr}{c:Nat}{L:List α}
theorem ORow.chg {S:Nat→Prop}(h:ORow k enc e w a b g p c L) (hc:Chg w w' S) (hS:∀j,a≤j→j < b→¬ S j):ORow k enc e w' a b g p c L:=by
 obtain ⟨h1,h2⟩:=h
 by_cases hn:0 < L.length
 ·obtain ⟨h3,h4,rfl,h5⟩:=h2 hn
  exact⟨h1.chg hc (fun q hq=>by obtain rfl:=Option.some.inj hq;exact hS g h3 h4),fun _=>⟨h3,h4,rfl,h5.chg hc (fun q hq=>by obtain rfl:=Option.some.inj hq;exact hS g h3 h4)⟩⟩
 ·obtain rfl:=List.eq_nil_of_length_eq_zero (by omega:L.length=0)
  exact⟨⟨RdL.nil _ _ _ _ _ h1.max,h1.bare⟩,fun h=>absurd h hn⟩
theorem ORow.wide {b':Nat}(h:ORow k enc e w a b g p c L) (hb:b≤b'):ORow k enc e w a b' g p c L:=⟨h.1,fun hn=>by obtain ⟨h3,h4,h5⟩:=h.2 hn;exact⟨h3,by omega,h5⟩⟩
end
mutual
def OXp (w:World):Xp→Nat→Nat→Xd→Prop
 | ⟨k,s,v,o,ar,q⟩,a,b,d=>∃p c g L,d=⟨k,s,v,o,p,ar.length,c,q⟩∧(s.size≤1048576∧v≤32767)∧L.length=ar.length∧ORow 6 xdc 35 w a b g p c L∧OXs w ar (g+1) b L
def OXs (w:World):List Xp→Nat→Nat→List Xd→Prop
 | [],_,_,L=>L=[]
 | x :: xs,a,b,L=>∃d L' m,L=d :: L'∧a≤m∧m≤b∧OXp w x a m d∧OXs w xs m b L'
end
def OX (w:World) (a b:Nat) (p:Option Addr) (c:Nat) (l:List Xp):Prop:=∃g L,L.length=l.length∧ORow 6 xdc 35 w a b g p c L∧OXs w l (g+1) b L
theorem OXp_iff {w:World}{x:Xp}{a b:Nat}{d:Xd}:OXp w x a b d↔∃p c,d=x.nd p c∧(x.s.size≤1048576∧x.v≤32767)∧OX w a b p c x.ar:=by
 cases x with
 | mk k s v o ar q =>
   rw [OXp]
   constructor
   ·rintro ⟨p,c,g,L,h1,h2,h3,h4,h5⟩
    exact⟨p,c,h1,h2,g,L,h3,h4,h5⟩
   ·rintro ⟨p,c,h1,h2,g,L,h3,h4,h5⟩
    exact⟨p,c,g,L,h1,h2,h3,h4,h5⟩
mutual
theorem OXp_chg {w w':World}{S:Nat→Prop}(hc:Chg w w' S):∀{x:Xp}{a b:Nat}{d:Xd},OXp w x a b d→(∀j,a≤j→j < b→¬ S j)→OXp w' x a b d
 | ⟨k,s,v,o,ar,q⟩,a,b,d,h,hS=>by
   rw [OXp] at h ⊢
   obtain ⟨p,c,g,L,h1,h2,h3,h4,h5⟩:=h
   by_cases hn:0 < L.length
   ·have hg:=h4.2 hn
    exact⟨p,c,g,L,h1,h2,h3,h4.chg hc hS,OXs_chg hc h5 (fun j h6 h7=>hS j (by omega) h7)⟩
   ·have h0:L=[]:=List.eq_nil_of_length_eq_zero (by omega)
    subst h0
    obtain rfl:ar=[]:=List.eq_nil_of_length_eq_zero (by simpa using h3.symm)
    exact⟨p,c,g,[],h1,h2,h3,h4.chg hc hS,by rw [OXs]⟩
theorem OXs_chg {w w':World}{S:Nat→Prop}(hc:Chg w w' S):∀{xs:List Xp}{a b:Nat}{L:List Xd},OXs w xs a b L→(∀j,a≤j→j < b→¬ S j)→OXs w' xs a b L
 | [],_,_,_,h,_=>by rw [OXs] at h ⊢;exact h
 | x :: xs,a,b,_,h,hS=>by
   rw [OXs] at h ⊢
   obtain ⟨d,L',m,h1,h2,h3,h4,h5⟩:=h
   exact⟨d,L',m,h1,h2,h3,OXp_chg hc h4 (fun j h6 h7=>hS j h6 (by omega)),OXs_chg hc h5 (fun j h6 h7=>hS j (by omega) h7)⟩
end
theorem OXs_snoc {w:World}{x:Xp}{d:Xd}{m b:Nat}:∀{xs:List Xp}{a:Nat}{L:List Xd},OXs w xs a m L→a≤m→m≤b→OXp w x m b d→OXs w (xs++[x]) a b (L++[d])
 | [],a,_,h,ha,hm,hx=>by
   rw [OXs] at h
   subst h
   rw [List.nil_append,List.nil_append,OXs]
   refine⟨d,[],b,rfl,by omega,Nat.le_refl _,?_,by rw [OXs]⟩
   rw [OXp_iff] at hx ⊢
   obtain ⟨p,c,h1,h2,g,L,h3,h4,h5⟩:=hx
   refine⟨p,c,h1,h2,g,L,h3,⟨h4.1,fun hn=>?_⟩,h5⟩
   obtain ⟨h6,h7,h8,h9⟩:=h4.2 hn
   exact⟨by omega,h7,h8,h9.down ha⟩
 | y :: ys,a,_,h,ha,hm,hx=>by
   rw [OXs] at h
   obtain ⟨d',L',m',rfl,h2,h3,h4,h5⟩:=h
   rw [List.cons_append,List.cons_append,OXs]
   exact⟨d',L'++[d],m',rfl,h2,by omega,h4,OXs_snoc h5 h3 hm hx⟩
mutual
theorem OXp_at {w:World}{B:Nat→Prop}:∀{x:Xp}{a b:Nat}{d:Xd},OXp w x a b d→(∀j,a≤j→j < b→B j)→XAt B w x d
 | ⟨k,s,v,o,ar,q⟩,a,b,d,h,hB=>by
   rw [OXp] at h
   rw [XAt]
   obtain ⟨p,c,g,L,h1,h2,h3,h4,h5⟩:=h
   refine⟨p,c,h1,h2,fun hn ad had=>?_,L,h4.1,?_⟩
   ·obtain ⟨h6,h7,rfl,_⟩:=h4.2 (by omega)
    obtain rfl:=Option.some.inj had
    exact hB g h6 h7
   ·by_cases hn:0 < L.length
    ·have hg:=h4.2 hn
     exact OXs_at h5 (fun j h6 h7=>hB j (by omega) h7)
    ·obtain rfl:ar=[]:=List.eq_nil_of_length_eq_zero (by omega)
     have h0:L=[]:=List.eq_nil_of_length_eq_zero (by omega)
     rw [XsAt,h0]
theorem OXs_at {w:World}{B:Nat→Prop}:∀{xs:List Xp}{a b:Nat}{L:List Xd},OXs w xs a b L→(∀j,a≤j→j < b→B j)→XsAt B w xs L
 | [],_,_,_,h,_=>by rw [OXs] at h;rw [XsAt];exact h
 | x :: xs,a,b,_,h,hB=>by
   rw [OXs] at h
   rw [XsAt]
   obtain ⟨d,L',m,h1,h2,h3,h4,h5⟩:=h
   exact⟨d,L',h1,OXp_at h4 (fun j h6 h7=>hB j h6 (by omega)),OXs_at h5 (fun j h6 h7=>hB j (by omega) h7)⟩
end
theorem OX.chg {w w':World}{a b:Nat}{p:Option Addr}{c:Nat}{l:List Xp}{S:Nat→Prop}(h:OX w a b p c l) (hc:Chg w w' S) (hS:∀j,a≤j→j < b→¬ S j):OX w' a b p c l:=by
 obtain ⟨g,L,h3,h4,h5⟩:=h
 by_cases hn:0 < L.length
 ·have hg:=h4.2 hn
  exact⟨g,L,h3,h4.chg hc hS,OXs_chg hc h5 (fun j h6 h7=>hS j (by omega) h7)⟩
 ·have h0:L=[]:=List.eq_nil_of_length_eq_zero (by omega)
  subst h0
  obtain rfl:l=[]:=List.eq_nil_of_length_eq_zero (by simpa using h3.symm)
  exact⟨g,[],h3,h4.chg hc hS,by rw [OXs]⟩
theorem OX.kept {w w':World}{a b:Nat}{p:Option Addr}{c:Nat}{l:List Xp}(h:OX w a b p c l) (hg:Grew w w'):OX w' a b p c l:=h.chg (Chg.of_grew hg (fun _=>False)) (fun _ _ _ h=>h)
theorem OX.xl {w:World}{a b:Nat}{p:Option Addr}{c:Nat}{l:List Xp}(h:OX w a b p c l):XL (Fresh a b) w p c l:=by
 obtain ⟨g,L,h3,h4,h5⟩:=h
 refine⟨fun hn ad had=>?_,L,h4.1,?_⟩
 ·obtain ⟨h6,h7,rfl,_⟩:=h4.2 (by omega)
  obtain rfl:=Option.some.inj had
  exact⟨h6,h7⟩
 ·by_cases hn:0 < L.length
  ·have hg:=h4.2 hn
   exact OXs_at h5 (fun j h6 h7=>⟨by omega,h7⟩)
  ·obtain rfl:l=[]:=List.eq_nil_of_length_eq_zero (by omega)
   have h0:L=[]:=List.eq_nil_of_length_eq_zero (by omega)
   rw [XsAt,h0]
mutual
def stS:Sm→Sm
 | ⟨k,s,n,ar,b,e,_⟩=>⟨k,s,n,stXs ar,stSs b,stSs e,0⟩
def stSs:List Sm→List Sm
 | []=>[]
 | x :: xs=>stS x :: stSs xs
end
mutual
def OSp (w:World):Sm→Nat→Nat→Sd→Prop
 | ⟨k,s,n,ar,y,e,q⟩,a,b,d=>∃ap ac yp yc ep ec m1 m2,d=⟨k,s,n,ap,ar.length,ac,yp,y.length,yc,ep,e.length,ec,q⟩∧s.size≤1048576∧a≤m1∧m1≤m2∧m2≤b∧OX w a m1 ap ac ar∧(∃g L,L.length=y.length∧ORow 7 sdc 49 w m1 m2 g yp yc L∧OSs w y (g+1) m2 L)∧(∃g L,L.length=e.length∧ORow 7 sdc 49 w m2 b g ep ec L∧OSs w e (g+1) b L)
def OSs (w:World):List Sm→Nat→Nat→List Sd→Prop
 | [],_,_,L=>L=[]
 | x :: xs,a,b,L=>∃d L' m,L=d :: L'∧a≤m∧m≤b∧OSp w x a m d∧OSs w xs m b L'
end
def OS (w:World) (a b:Nat) (p:Option Addr) (c:Nat) (l:List Sm):Prop:=∃g L,L.length=l.length∧ORow 7 sdc 49 w a b g p c L∧OSs w l (g+1) b L
theorem OSp_iff {w:World}{x:Sm}{a b:Nat}{d:Sd}:OSp w x a b d↔∃ap ac yp yc ep ec m1 m2,d=x.nd ap ac yp yc ep ec∧x.s.size≤1048576∧a≤m1∧m1≤m2∧m2≤b∧OX w a m1 ap ac x.ar∧OS w m1 m2 yp yc x.b∧OS w m2 b ep ec x.e:=by
 cases x with
 | mk k s n ar y e q=>rw [OSp];rfl
theorem ORow.nilS {w w':World}{a b g:Nat}{p:Option Addr}{c:Nat}{L:List Sd}{S:Nat→Prop}(hn:¬ 0 < L.length) (h:ORow 7 sdc 49 w a b g p c L):ORow 7 sdc 49 w' a b g p c L:=by
 obtain rfl:=List.eq_nil_of_length_eq_zero (by omega:L.length=0)
 exact⟨⟨RdL.nil _ _ _ _ _ h.1.max,h.1.bare⟩,fun h=>absurd h hn⟩
mutual
theorem OSp_chg {w w':World}{S:Nat→Prop}(hc:Chg w w' S):∀{x:Sm}{a b:Nat}{d:Sd},OSp w x a b d→(∀j,a≤j→j < b→¬ S j)→OSp w' x a b d
 | ⟨k,s,n,ar,y,e,q⟩,a,b,d,h,hS=>by
   rw [OSp] at h ⊢
   obtain ⟨ap,ac,yp,yc,ep,ec,m1,m2,h1,h2,h3,h4,h5,h6,⟨g1,L1,l1,r1,t1⟩,g2,L2,l2,r2,t2⟩:=h
   refine⟨ap,ac,yp,yc,ep,ec,m1,m2,h1,h2,h3,h4,h5,h6.chg hc (fun j a1 a2=>hS j a1 (by omega)),⟨g1,L1,l1,?_⟩,g2,L2,l2,?_⟩
   ·by_cases hn:0 < L1.length
    ·have hg:=r1.2 hn
     exact⟨r1.chg hc (fun j a1 a2=>hS j (by omega) (by omega)),OSs_chg hc t1 (fun j a1 a2=>hS j (by omega) (by omega))⟩
    ·obtain rfl:y=[]:=List.eq_nil_of_length_eq_zero (by omega)
     have h0:L1=[]:=List.eq_nil_of_length_eq_zero (by omega)
     exact⟨r1.nilS (S:=S) hn,by rw [OSs,h0]⟩
   ·by_cases hn:0 < L2.length
    ·have hg:=r2.2 hn
     exact⟨r2.chg hc (fun j a1 a2=>hS j (by omega) (by omega)),OSs_chg hc t2 (fun j a1 a2=>hS j (by omega) (by omega))⟩
    ·obtain rfl:e=[]:=List.eq_nil_of_length_eq_zero (by omega)
     have h0:L2=[]:=List.eq_nil_of_length_eq_zero (by omega)
     exact⟨r2.nilS (S:=S) hn,by rw [OSs,h0]⟩
theorem OSs_chg {w w':World}{S:Nat→Prop}(hc:Chg w w' S):∀{xs:List Sm}{a b:Nat}{L:List Sd},OSs w xs a b L→(∀j,a≤j→j < b→¬ S j)→OSs w' xs a b L
 | [],_,_,_,h,_=>by rw [OSs] at h ⊢;exact h
 | x :: xs,a,b,_,h,hS=>by
   rw [OSs] at h ⊢
   obtain ⟨d,L',m,h1,h2,h3,h4,h5⟩:=h
   exact⟨d,L',m,h1,h2,h3,OSp_chg hc h4 (fun j h6 h7=>hS j h6 (by omega)),OSs_chg hc h5 (fun j h6 h7=>hS j (by omega) h7)⟩
end
theorem OX.down {w:World}{a a' b:Nat}{p:Option Addr}{c:Nat}{l:List Xp}(h:OX w a b p c l) (ha:a'≤a):OX w a' b p c l:=by
 obtain ⟨g,L,h3,h4,h5⟩:=h
 exact⟨g,L,h3,⟨h4.1,fun hn=>by obtain ⟨h6,h7,h8,h9⟩:=h4.2 hn;exact⟨by omega,h7,h8,h9.down ha⟩⟩,h5⟩
theorem OSs_snoc {w:World}{x:Sm}{d:Sd}{m b:Nat}:∀{xs:List Sm}{a:Nat}{L:List Sd},OSs w xs a m L→a≤m→m≤b→OSp w x m b d→OSs w (xs++[x]) a b (L++[d])
 | [],a,_,h,ha,hm,hx=>by
   rw [OSs] at h
   subst h
   rw [List.nil_append,List.nil_append,OSs]
   refine⟨d,[],b,rfl,by omega,Nat.le_refl _,?_,by rw [OSs]⟩
   rw [OSp_iff] at hx ⊢
   obtain ⟨ap,ac,yp,yc,ep,ec,m1,m2,h1,h2,h3,h4,h5,h6,h7,h8⟩:=hx
   exact⟨ap,ac,yp,yc,ep,ec,m1,m2,h1,h2,by omega,h4,h5,h6.down ha,h7,h8⟩
 | y :: ys,a,_,h,ha,hm,hx=>by
   rw [OSs] at h
   obtain ⟨d',L',m',rfl,h2,h3,h4,h5⟩:=h
   rw [List.cons_append,List.cons_append,OSs]
   exact⟨d',L'++[d],m',rfl,h2,by omega,h4,OSs_snoc h5 h3 hm hx⟩
mutual
theorem OSp_at {w:World}{B:Nat→Prop}:∀{x:Sm}{a b:Nat}{d:Sd},OSp w x a b d→(∀j,a≤j→j < b→B j)→SAt B w x d
 | ⟨k,s,n,ar,y,e,q⟩,a,b,d,h,hB=>by
   rw [OSp] at h
   obtain ⟨ap,ac,yp,yc,ep,ec,m1,m2,h1,h2,h3,h4,h5,h6,⟨g1,L1,l1,r1,t1⟩,g2,L2,l2,r2,t2⟩:=h
   rw [SAt_iff]
   refine⟨ap,ac,yp,yc,ep,ec,h1,h2,h6.xl.mono (fun j hj=>hB j hj.1 (by have:=hj.2;omega)),⟨fun hn ad had=>?_,L1,r1.1,?_⟩,fun hn ad had=>?_,L2,r2.1,?_⟩
   ·obtain ⟨a1,a2,rfl,_⟩:=r1.2 (by rw [l1];exact hn)
    obtain rfl:=Option.some.inj had
    exact hB g1 (by omega) (by omega)
   ·by_cases hn:0 < L1.length
    ·have hg:=r1.2 hn
     exact OSs_at t1 (fun j a1 a2=>hB j (by omega) (by omega))
    ·have h9:y=[]:=List.eq_nil_of_length_eq_zero (by omega)
     have h0:L1=[]:=List.eq_nil_of_length_eq_zero (by omega)
     show SsAt B w y L1
     rw [h9,SsAt,h0]
   ·obtain ⟨a1,a2,rfl,_⟩:=r2.2 (by rw [l2];exact hn)
    obtain rfl:=Option.some.inj had
    exact hB g2 (by omega) (by omega)
   ·by_cases hn:0 < L2.length
    ·have hg:=r2.2 hn
     exact OSs_at t2 (fun j a1 a2=>hB j (by omega) (by omega))
    ·have h9:e=[]:=List.eq_nil_of_length_eq_zero (by omega)
     have h0:L2=[]:=List.eq_nil_of_length_eq_zero (by omega)
     show SsAt B w e L2
     rw [h9,SsAt,h0]
theorem OSs_at {w:World}{B:Nat→Prop}:∀{xs:List Sm}{a b:Nat}{L:List Sd},OSs w xs a b L→(∀j,a≤j→j < b→B j)→SsAt B w xs L
 | [],_,_,_,h,_=>by rw [OSs] at h;rw [SsAt];exact h
 | x :: xs,a,b,_,h,hB=>by
   rw [OSs] at h
   rw [SsAt]
   obtain ⟨d,L',m,h1,h2,h3,h4,h5⟩:=h
   exact⟨d,L',h1,OSp_at h4 (fun j h6 h7=>hB j h6 (by omega)),OSs_at h5 (fun j h6 h7=>hB j (by omega) h7)⟩
end
theorem OS.chg {w w':World}{a b:Nat}{p:Option Addr}{c:Nat}{l:List Sm}{S:Nat→Prop}(h:OS w a b p c l) (hc:Chg w w' S) (hS:∀j,a≤j→j < b→¬ S j):OS w' a b p c l:=by
 obtain ⟨g,L,h3,h4,h5⟩:=h
 by_cases hn:0 < L.length
 ·have hg:=h4.2 hn
  exact⟨g,L,h3,h4.chg hc hS,OSs_chg hc h5 (fun j h6 h7=>hS j (by omega) h7)⟩
 ·obtain rfl:l=[]:=List.eq_nil_of_length_eq_zero (by omega)
  have h0:L=[]:=List.eq_nil_of_length_eq_zero (by omega)
  exact⟨g,L,h3,h4.nilS (S:=S) hn,by rw [OSs,h0]⟩
theorem OS.kept {w w':World}{a b:Nat}{p:Option Addr}{c:Nat}{l:List Sm}(h:OS w a b p c l) (hg:Grew w w'):OS w' a b p c l:=h.chg (Chg.of_grew hg (fun _=>False)) (fun _ _ _ h=>h)
theorem OS.sl {w:World}{a b:Nat}{p:Option Addr}{c:Nat}{l:List Sm}(h:OS w a b p c l):SL (Fresh a b) w p c l:=by
 obtain ⟨g,L,h3,h4,h5⟩:=h
 refine⟨fun hn ad had=>?_,L,h4.1,?_⟩
 ·obtain ⟨h6,h7,rfl,_⟩:=h4.2 (by rw [h3];exact hn)
  obtain rfl:=Option.some.inj had
  exact⟨h6,h7⟩
 ·by_cases hn:0 < L.length
  ·have hg:=h4.2 hn
   exact OSs_at h5 (fun j h6 h7=>⟨by omega,h7⟩)
  ·obtain rfl:l=[]:=List.eq_nil_of_length_eq_zero (by omega)
   have h0:L=[]:=List.eq_nil_of_length_eq_zero (by omega)
   rw [SsAt,h0]
def eqHS (ka:Int) (sa:ByteArray) (na:Int) (na_:Nat) (kb:Int) (sb:ByteArray) (nb:Int) (nb_:Nat) (m1 m2:Bool):Bool:=!(((((((ka) != (kb))||(!decide ((sa)=(sb))))||((na) != (nb)))||((((na_:Nat):Int)) != (((nb_:Nat):Int))))||(!(m1)))||(!(m2)))
mutual
def eqS:Sm→Sm→Bool
 | ⟨k,s,n,ar,b,e,_⟩,⟨k',s',n',ar',b',e',_⟩=>eqHS k s n ar.length k' s' n' ar'.length (decide (b.length=b'.length)&&eqSz b b') (decide (e.length=e'.length)&&eqSz e e')&&eqXs ar ar'
def eqSz:List Sm→List Sm→Bool
 | x :: xs,y :: ys=>eqS x y&&eqSz xs ys
 | _,_=>true
end
def eqSs (a b:List Sm):Bool:=decide (a.length=b.length)&&eqSz a b
theorem eqS_eq (k n q k' n' q':Int) (s s':ByteArray) (ar ar':List Xp) (b e b' e':List Sm):eqS ⟨k,s,n,ar,b,e,q⟩ ⟨k',s',n',ar',b',e',q'⟩=(eqHS k s n ar.length k' s' n' ar'.length (eqSs b b') (eqSs e e')&&eqXs ar ar'):=by rw [eqS];rfl
theorem eqSz_nil (l:List Sm):eqSz [] l=true:=by rw [eqSz];simp
theorem eqSz_snoc:∀(a b:List Sm) (x y:Sm),a.length=b.length→eqSz (a++[x]) (b++[y])=(eqSz a b&&eqS x y)
 | [],[],x,y,_=>by rw [List.nil_append,List.nil_append,eqSz,eqSz_nil,Bool.and_true,Bool.true_and]
 | u :: a,v :: b,x,y,h=>by
   rw [List.cons_append,List.cons_append,eqSz,eqSz,eqSz_snoc a b x y (by simpa using h),Bool.and_assoc]
theorem eqSz_no:∀(a b:List Sm) (j:Nat) (hj:j < a.length) (hj':j < b.length),eqS a[j] b[j]=false→eqSz a b=false
 | x :: a,y :: b,0,_,_,h=>by
   rw [eqSz]
   simp only [zz2] at h
   rw [h,Bool.false_and]
 | x :: a,y :: b,j+1,h1,h2,h=>by
   rw [eqSz,eqSz_no a b j (by simpa using h1) (by simpa using h2) (by simpa using h),Bool.and_false]
section
variable {dst:Option Tmp}{ty:TypeId}{pos:String}{after:Array Edge}{g:Option (Nat × Bool)}{a:Act}{w:World}{T:Value→World→Prop}
theorem rn_fld_49_0 {x:Operand}{S o:Nat}(hx:a.eval x=.pointer (some ⟨S,o,none⟩)) (h:T (.pointer (some ⟨S,o,none⟩)) w):Runs Tryz.prog ⟨dst,.fieldAddr 49 x 0,ty,pos,after,g⟩ a w T:=by
 refine Runs.value (v:=.pointer (some ⟨S,o,none⟩)) (w':=w) ?_ h
 simp only [execOp,hx]
 go_simp
end
theorem enters_qs:Enters Tryz.prog 30:=fun args w=>by go_simp
set_option maxHeartbeats 16000000 in
theorem eqs_any:∀(n:Nat) (l m:List Sm),nSs l < n→∀(A B:Nat→Prop) (w:World) (p p':Option Addr) (c c':Nat),SL A w p c l→SL B w p' c' m →
 Calls Tryz.prog 30 #[.slice p l.length c,.slice p' m.length c'] w fun e w'=>e=.returned (.bool (eqSs l m))∧Grew w w':=by
 intro n
 induction n with
 | zero=>intro _ _ h;exact absurd h (Nat.not_lt_zero _)
 | succ n ih =>
 intro l m hln A B w p p' c c' hx hy
 have HX:=zh hx
 have HY:=zh hy
 have hcap:l.length≤c∧m.length≤c':=⟨hx.cap.1,hy.cap.1⟩
 have hmax:=And.intro hx.cap.2.1 hy.cap.2.1
 obtain ⟨b,hb⟩:∃b,eqSs l m=b:=⟨_,rfl⟩
 rw [hb]
 rw [eqSs] at hb
 clear hx hy
 by_cases hlen:l.length=m.length
 ·rw [decide_eq_true hlen,Bool.true_and] at hb
  have HOK:=zh hb
  have HLE:=zh hlen
  have hne:((l.length:Int) != (m.length:Int))=false:=by rw [hlen];simp
  clear hb hlen
  go_enter Tryz.func30,Tryz.ntmps30
  go_wp2
  go_loopg [5,6,7,8,16] l.length (fun gg v5 v6 v7 v8 iv wr=>∃(j:Nat),iv=.int .i64 (j:Int)∧j≤l.length∧gg=l.length - j∧Hid (eqSz (l.take j) (m.take j)=true)∧Hid (Grew w wr))
  case atStart=>exact⟨0,rfl,Nat.zero_le _,rfl,zh (eqSz_nil _),zh (Grew.refl _)⟩
  case round =>
   obtain ⟨j,rfl,hj,rfl,HI,HG⟩:=hrel
   by_cases hlt:j < l.length
   ·have hlt2:j < m.length:=by have:=HLE.out;omega
    have hta:=List.take_succ_eq_append_getElem hlt
    have htb:=List.take_succ_eq_append_getElem hlt2
    have hno:=fun h=>eqSz_no l m j hlt hlt2 h
    have hma:=List.getElem_mem hlt
    have hmb:=List.getElem_mem hlt2
    have hna:=nSs_mem hma
    have hnb:=nSs_mem hmb
    have HLT:=zh (Nat.succ_le_of_lt hlt)
    have HL2:=zh (And.intro hlt hlt2)
    obtain ⟨ba,oa,paa,caa,pba,cba,pea,cea,hpa,hba,haa,hboa,hela,hca⟩:=HX.out.get j hlt
    generalize l[j]'hlt=xa at hba haa hboa hela hca hno hta hma hna
    obtain ⟨ka,sa,na,ra,ya,ea,qa⟩:=xa
    replace haa:XL A w paa caa ra:=haa
    replace hboa:SL A w pba cba ya:=hboa
    replace hela:SL A w pea cea ea:=hela
    have hcapa:ra.length≤caa∧ya.length≤cba∧ea.length≤cea:=⟨haa.cap.1,hboa.cap.1,hela.cap.1⟩
    have hmaxa:=And.intro haa.cap.2.1 (And.intro hboa.cap.2.1 hela.cap.2.1)
    replace hca:∀i_ u_,(sdc ⟨ka,sa,na,paa,ra.length,caa,pba,ya.length,cba,pea,ea.length,cea,qa⟩)[i_]?=some u_→(wr).cell? ⟨ba,oa+j * 7+i_,none⟩=some u_:=fun i_ u_ h_=>Atv.kept (hca i_ u_ h_) (HG.out)
    have ca0:(wr).cell? ⟨ba,oa+j * 7,none⟩=some (.int .i64 ka):=by simpa using hca 0 _ rfl
    have ca1:(wr).cell? ⟨ba,oa+j * 7+1,none⟩=some (.string sa):=hca 1 _ rfl
    have ca2:(wr).cell? ⟨ba,oa+j * 7+2,none⟩=some (.int .i64 na):=hca 2 _ rfl
    have ca3:(wr).cell? ⟨ba,oa+j * 7+3,none⟩=some (.slice paa ra.length caa):=hca 3 _ rfl
    have ca4:(wr).cell? ⟨ba,oa+j * 7+4,none⟩=some (.slice pba ya.length cba):=hca 4 _ rfl
    have ca5:(wr).cell? ⟨ba,oa+j * 7+5,none⟩=some (.slice pea ea.length cea):=hca 5 _ rfl
    have ca6:(wr).cell? ⟨ba,oa+j * 7+6,none⟩=some (.int .i64 qa):=hca 6 _ rfl
    obtain ⟨bb,ob,pab,cab,pbb,cbb,peb,ceb,hpb,hbb,hab,hbob,helb,hcb⟩:=HY.out.get j hlt2
    generalize m[j]'hlt2=xb at hbb hab hbob helb hcb hno htb hmb hnb
    obtain ⟨kb,sb,nb,rb,yb,eb,qb⟩:=xb
    replace hab:XL B w pab cab rb:=hab
    replace hbob:SL B w pbb cbb yb:=hbob
    replace helb:SL B w peb ceb eb:=helb
    have hcapb:rb.length≤cab∧yb.length≤cbb∧eb.length≤ceb:=⟨hab.cap.1,hbob.cap.1,helb.cap.1⟩
    have hmaxb:=And.intro hab.cap.2.1 (And.intro hbob.cap.2.1 helb.cap.2.1)
    replace hcb:∀i_ u_,(sdc ⟨kb,sb,nb,pab,rb.length,cab,pbb,yb.length,cbb,peb,eb.length,ceb,qb⟩)[i_]?=some u_→(wr.alloc (Obj.cells #[.int .i64 ka,.string sa,.int .i64 na,.slice paa ra.length caa,.slice pba ya.length cba,.slice pea ea.length cea,.int .i64 qa] 49)).cell? ⟨bb,ob+j * 7+i_,none⟩=some u_:=fun i_ u_ h_=>Atv.kept (hcb i_ u_ h_) (HG.out.alloc _)
    have cb0:(wr.alloc (Obj.cells #[.int .i64 ka,.string sa,.int .i64 na,.slice paa ra.length caa,.slice pba ya.length cba,.slice pea ea.length cea,.int .i64 qa] 49)).cell? ⟨bb,ob+j * 7,none⟩=some (.int .i64 kb):=by simpa using hcb 0 _ rfl
    have cb1:(wr.alloc (Obj.cells #[.int .i64 ka,.string sa,.int .i64 na,.slice paa ra.length caa,.slice pba ya.length cba,.slice pea ea.length cea,.int .i64 qa] 49)).cell? ⟨bb,ob+j * 7+1,none⟩=some (.string sb):=hcb 1 _ rfl
    have cb2:(wr.alloc (Obj.cells #[.int .i64 ka,.string sa,.int .i64 na,.slice paa ra.length caa,.slice pba ya.length cba,.slice pea ea.length cea,.int .i64 qa] 49)).cell? ⟨bb,ob+j * 7+2,none⟩=some (.int .i64 nb):=hcb 2 _ rfl
    have cb3:(wr.alloc (Obj.cells #[.int .i64 ka,.string sa,.int .i64 na,.slice paa ra.length caa,.slice pba ya.length cba,.slice pea ea.length cea,.int .i64 qa] 49)).cell? ⟨bb,ob+j * 7+3,none⟩=some (.slice pab rb.length cab):=hcb 3 _ rfl
    have cb4:(wr.alloc (Obj.cells #[.int .i64 ka,.string sa,.int .i64 na,.slice paa ra.length caa,.slice pba ya.length cba,.slice pea ea.length cea,.int .i64 qa] 49)).cell? ⟨bb,ob+j * 7+4,none⟩=some (.slice pbb yb.length cbb):=hcb 4 _ rfl
    have cb5:(wr.alloc (Obj.cells #[.int .i64 ka,.string sa,.int .i64 na,.slice paa ra.length caa,.slice pba ya.length cba,.slice pea ea.length cea,.int .i64 qa] 49)).cell? ⟨bb,ob+j * 7+5,none⟩=some (.slice peb eb.length ceb):=hcb 5 _ rfl
    have cb6:(wr.alloc (Obj.cells #[.int .i64 ka,.string sa,.int .i64 na,.slice paa ra.length caa,.slice pba ya.length cba,.slice pea ea.length cea,.int .i64 qa] 49)).cell? ⟨bb,ob+j * 7+6,none⟩=some (.int .i64 qb):=hcb 6 _ rfl
    have hns:nS ⟨ka,sa,na,ra,ya,ea,qa⟩=nSs ya+nSs ea+1:=rfl
    obtain ⟨m1,hm1⟩:∃t,eqSs ya yb=t:=⟨_,rfl⟩
    obtain ⟨m2,hm2⟩:∃t,eqSs ea eb=t:=⟨_,rfl⟩
    have hq:=eqS_eq ka na qa kb nb qb sa sb ra rb ya ea yb eb
    rw [hm1,hm2] at hq
    have HIY:=zh (fun W (hW:Grew w W)=>(show Calls Tryz.prog 30 #[.slice pba ya.length cba,.slice pbb yb.length cbb] W fun e w'=>e=.returned (.bool m1)∧Grew W w' from hm1 ▸ ih ya yb (by omega) A B W pba pbb cba cbb (hboa.kept hW) (hbob.kept hW)))
    have HIE:=zh (fun W (hW:Grew w W)=>(show Calls Tryz.prog 30 #[.slice pea ea.length cea,.slice peb eb.length ceb] W fun e w'=>e=.returned (.bool m2)∧Grew W w' from hm2 ▸ ih ea eb (by omega) A B W pea peb cea ceb (hela.kept hW) (helb.kept hW)))
    have HNO:=zh (fun(h:(eqHS ka sa na ra.length kb sb nb rb.length m1 m2&&eqXs ra rb)=false)=>(show b=false from HOK.out ▸ hno (hq.trans h)))
    have HQ:=zh hq
    have HTA:=zh hta
    have HTB:=zh htb
    have HAA:=zh haa
    have HAB:=zh hab
    subst hpa
    subst hpb
    clear hta htb hno hma hmb hna hnb hns hm1 hm2 hq haa hab hboa hela hbob helb hca hcb hba hbb
    go_upto_region 7 with fail
    clear ca0 ca1 ca2 ca3 ca4 ca5 ca6 cb0 cb1 cb2 cb3 cb4 cb5 cb6
    have hb1:Blk wr.heap.size [.int .i64 ka,.string sa,.int .i64 na,.slice paa ra.length caa,.slice pba ya.length cba,.slice pea ea.length cea,.int .i64 qa] 49 (wr.alloc (Obj.cells #[.int .i64 ka,.string sa,.int .i64 na,.slice paa ra.length caa,.slice pba ya.length cba,.slice pea ea.length cea,.int .i64 qa] 49)):=Blk.new wr _ _
    have hb2:Blk (wr.heap.size+1) [.int .i64 kb,.string sb,.int .i64 nb,.slice pab rb.length cab,.slice pbb yb.length cbb,.slice peb eb.length ceb,.int .i64 qb] 49 ((wr.alloc (Obj.cells #[.int .i64 ka,.string sa,.int .i64 na,.slice paa ra.length caa,.slice pba ya.length cba,.slice pea ea.length cea,.int .i64 qa] 49)).alloc (Obj.cells #[.int .i64 kb,.string sb,.int .i64 nb,.slice pab rb.length cab,.slice pbb yb.length cbb,.slice peb eb.length ceb,.int .i64 qb] 49)):=by
     have h:=Blk.new (wr.alloc (Obj.cells #[.int .i64 ka,.string sa,.int .i64 na,.slice paa ra.length caa,.slice pba ya.length cba,.slice pea ea.length cea,.int .i64 qa] 49)) [.int .i64 kb,.string sb,.int .i64 nb,.slice pab rb.length cab,.slice pbb yb.length cbb,.slice peb eb.length ceb,.int .i64 qb] 49
     rw [alloc_sz] at h
     exact h
    have hb3:=hb1.grew ((Grew.refl _).alloc (Obj.cells #[.int .i64 kb,.string sb,.int .i64 nb,.slice pab rb.length cab,.slice pbb yb.length cbb,.slice peb eb.length ceb,.int .i64 qb] 49))
    have hgV:Grew w ((wr.alloc (Obj.cells #[.int .i64 ka,.string sa,.int .i64 na,.slice paa ra.length caa,.slice pba ya.length cba,.slice pea ea.length cea,.int .i64 qa] 49)).alloc (Obj.cells #[.int .i64 kb,.string sb,.int .i64 nb,.slice pab rb.length cab,.slice pbb yb.length cbb,.slice peb eb.length ceb,.int .i64 qb] 49)):=((HG.out).alloc _).alloc _
    generalize ((wr.alloc (Obj.cells #[.int .i64 ka,.string sa,.int .i64 na,.slice paa ra.length caa,.slice pba ya.length cba,.slice pea ea.length cea,.int .i64 qa] 49)).alloc (Obj.cells #[.int .i64 kb,.string sb,.int .i64 nb,.slice pab rb.length cab,.slice pbb yb.length cbb,.slice peb eb.length ceb,.int .i64 qb] 49))=V at hb2 hb3 hgV ⊢
    clear hb1
    generalize wr.heap.size+1=U at hb2 ⊢
    generalize wr.heap.size=S at hb3 ⊢
    have HBS:=zh hb3
    have HBU:=zh hb2
    have HGV:=zh hgV
    clear hgV
    have d0:Atv ⟨S,0,none⟩ (.int .i64 ka) V:=hb3.atv 0 rfl
    have d1:Atv ⟨S,1,none⟩ (.string sa) V:=hb3.atv 1 rfl
    have d2:Atv ⟨S,2,none⟩ (.int .i64 na) V:=hb3.atv 2 rfl
    have d3:Atv ⟨S,3,none⟩ (.slice paa ra.length caa) V:=hb3.atv 3 rfl
    have d4:Atv ⟨S,4,none⟩ (.slice pba ya.length cba) V:=hb3.atv 4 rfl
    have d5:Atv ⟨S,5,none⟩ (.slice pea ea.length cea) V:=hb3.atv 5 rfl
    have e0:Atv ⟨U,0,none⟩ (.int .i64 kb) V:=hb2.atv 0 rfl
    have e1:Atv ⟨U,1,none⟩ (.string sb) V:=hb2.atv 1 rfl
    have e2:Atv ⟨U,2,none⟩ (.int .i64 nb) V:=hb2.atv 2 rfl
    have e3:Atv ⟨U,3,none⟩ (.slice pab rb.length cab) V:=hb2.atv 3 rfl
    have e4:Atv ⟨U,4,none⟩ (.slice pbb yb.length cbb) V:=hb2.atv 4 rfl
    have e5:Atv ⟨U,5,none⟩ (.slice peb eb.length ceb) V:=hb2.atv 5 rfl
    clear hb2 hb3
    refine wp_postsL [some 25,some 26,some 27,some 28,some 29,some 30,some 31,some 32,some 33,some 34,some 35,some 36,some 37,some 38,some 39,some 40,some 41,some 42,some 43,some 44,some 45,some 46,some 47,some 48,some 49,some 50,some 51,some 52,some 53,some 54,some 55,some 56,some 57,some 58,some 59,some 60,some 61,some 62,some 63,some 64,some 65,some 66,some 67,some 68] (Zfe (Zfd (Zfa (Ztg (Ztd (Ztc (Zfe (Zfc [])))))))) [fun v _=>v=.pointer (some ⟨S,0,none⟩),fun v _=>v=.int .i64 (ka),fun v _=>v=.pointer (some ⟨U,0,none⟩),fun v _=>v=.int .i64 (kb),fun v _=>v=.bool ((ka) != (kb)),fun v _=>v=.bool ((ka) != (kb)),fun v _=>Zg (((ka) != (kb))=false) (.pointer (some ⟨S,1,none⟩)) v,fun v _=>Zg (((ka) != (kb))=false) (.string sa) v,fun v _=>Zg (((ka) != (kb))=false) (.pointer (some ⟨U,1,none⟩)) v,fun v _=>Zg (((ka) != (kb))=false) (.string sb) v,fun v _=>Zg (((ka) != (kb))=false) (.bool (!decide ((sa)=(sb)))) v,fun v _=>v=.bool (((ka) != (kb))||(!decide ((sa)=(sb)))),fun v _=>v=.bool (((ka) != (kb))||(!decide ((sa)=(sb)))),fun v _=>Zg ((((ka) != (kb))||(!decide ((sa)=(sb))))=false) (.pointer (some ⟨S,2,none⟩)) v,fun v _=>Zg ((((ka) != (kb))||(!decide ((sa)=(sb))))=false) (.int .i64 (na)) v,fun v _=>Zg ((((ka) != (kb))||(!decide ((sa)=(sb))))=false) (.pointer (some ⟨U,2,none⟩)) v,fun v _=>Zg ((((ka) != (kb))||(!decide ((sa)=(sb))))=false) (.int .i64 (nb)) v,fun v _=>Zg ((((ka) != (kb))||(!decide ((sa)=(sb))))=false) (.bool ((na) != (nb))) v,fun v _=>v=.bool ((((ka) != (kb))||(!decide ((sa)=(sb))))||((na) != (nb))),fun v _=>v=.bool ((((ka) != (kb))||(!decide ((sa)=(sb))))||((na) != (nb))),fun v _=>Zg (((((ka) != (kb))||(!decide ((sa)=(sb))))||((na) != (nb)))=false) (.pointer (some ⟨S,3,none⟩)) v,fun v _=>Zg (((((ka) != (kb))||(!decide ((sa)=(sb))))||((na) != (nb)))=false) (.slice paa (ra.length) (caa)) v,fun v _=>Zg (((((ka) != (kb))||(!decide ((sa)=(sb))))||((na) != (nb)))=false) (.int .i64 (((ra.length:Nat):Int))) v,fun v _=>Zg (((((ka) != (kb))||(!decide ((sa)=(sb))))||((na) != (nb)))=false) (.pointer (some ⟨U,3,none⟩)) v,fun v _=>Zg (((((ka) != (kb))||(!decide ((sa)=(sb))))||((na) != (nb)))=false) (.slice pab (rb.length) (cab)) v,fun v _=>Zg (((((ka) != (kb))||(!decide ((sa)=(sb))))||((na) != (nb)))=false) (.int .i64 (((rb.length:Nat):Int))) v,fun v _=>Zg (((((ka) != (kb))||(!decide ((sa)=(sb))))||((na) != (nb)))=false) (.bool ((((ra.length:Nat):Int)) != (((rb.length:Nat):Int)))) v,fun v _=>v=.bool (((((ka) != (kb))||(!decide ((sa)=(sb))))||((na) != (nb)))||((((ra.length:Nat):Int)) != (((rb.length:Nat):Int)))),fun v _=>v=.bool (((((ka) != (kb))||(!decide ((sa)=(sb))))||((na) != (nb)))||((((ra.length:Nat):Int)) != (((rb.length:Nat):Int)))),fun v _=>Zg ((((((ka) != (kb))||(!decide ((sa)=(sb))))||((na) != (nb)))||((((ra.length:Nat):Int)) != (((rb.length:Nat):Int))))=false) (.pointer (some ⟨S,4,none⟩)) v,fun v _=>Zg ((((((ka) != (kb))||(!decide ((sa)=(sb))))||((na) != (nb)))||((((ra.length:Nat):Int)) != (((rb.length:Nat):Int))))=false) (.slice pba (ya.length) (cba)) v,fun v _=>Zg ((((((ka) != (kb))||(!decide ((sa)=(sb))))||((na) != (nb)))||((((ra.length:Nat):Int)) != (((rb.length:Nat):Int))))=false) (.pointer (some ⟨U,4,none⟩)) v,fun v _=>Zg ((((((ka) != (kb))||(!decide ((sa)=(sb))))||((na) != (nb)))||((((ra.length:Nat):Int)) != (((rb.length:Nat):Int))))=false) (.slice pbb (yb.length) (cbb)) v,fun v _=>Zg ((((((ka) != (kb))||(!decide ((sa)=(sb))))||((na) != (nb)))||((((ra.length:Nat):Int)) != (((rb.length:Nat):Int))))=false) (.bool (m1)) v,fun v _=>Zg ((((((ka) != (kb))||(!decide ((sa)=(sb))))||((na) != (nb)))||((((ra.length:Nat):Int)) != (((rb.length:Nat):Int))))=false) (.bool (!(m1))) v,fun v _=>v=.bool ((((((ka) != (kb))||(!decide ((sa)=(sb))))||((na) != (nb)))||((((ra.length:Nat):Int)) != (((rb.length:Nat):Int))))||(!(m1))),fun v _=>v=.bool ((((((ka) != (kb))||(!decide ((sa)=(sb))))||((na) != (nb)))||((((ra.length:Nat):Int)) != (((rb.length:Nat):Int))))||(!(m1))),fun v _=>Zg (((((((ka) != (kb))||(!decide ((sa)=(sb))))||((na) != (nb)))||((((ra.length:Nat):Int)) != (((rb.length:Nat):Int))))||(!(m1)))=false) (.pointer (some ⟨S,5,none⟩)) v,fun v _=>Zg (((((((ka) != (kb))||(!decide ((sa)=(sb))))||((na) != (nb)))||((((ra.length:Nat):Int)) != (((rb.length:Nat):Int))))||(!(m1)))=false) (.slice pea (ea.length) (cea)) v,fun v _=>Zg (((((((ka) != (kb))||(!decide ((sa)=(sb))))||((na) != (nb)))||((((ra.length:Nat):Int)) != (((rb.length:Nat):Int))))||(!(m1)))=false) (.pointer (some ⟨U,5,none⟩)) v,fun v _=>Zg (((((((ka) != (kb))||(!decide ((sa)=(sb))))||((na) != (nb)))||((((ra.length:Nat):Int)) != (((rb.length:Nat):Int))))||(!(m1)))=false) (.slice peb (eb.length) (ceb)) v,fun v _=>Zg (((((((ka) != (kb))||(!decide ((sa)=(sb))))||((na) != (nb)))||((((ra.length:Nat):Int)) != (((rb.length:Nat):Int))))||(!(m1)))=false) (.bool (m2)) v,fun v _=>Zg (((((((ka) != (kb))||(!decide ((sa)=(sb))))||((na) != (nb)))||((((ra.length:Nat):Int)) != (((rb.length:Nat):Int))))||(!(m1)))=false) (.bool (!(m2))) v,fun v _=>v=.bool (((((((ka) != (kb))||(!decide ((sa)=(sb))))||((na) != (nb)))||((((ra.length:Nat):Int)) != (((rb.length:Nat):Int))))||(!(m1)))||(!(m2)))] (by kernel_rfl) rfl ?_ ⟨?_,?_,?_,?_,?_,?_,?_,?_,?_,?_,?_,?_,?_,?_,?_,?_,?_,?_,?_,?_,?_,?_,?_,?_,?_,?_,?_,?_,?_,?_,?_,?_,?_,?_,?_,?_,?_,?_,?_,?_,?_,?_,?_,?_,trivial⟩ ?_
    ·exact⟨Zi,Zi,Zi,Zi,Zi,Zi,Zi,Zi,Zi,Zi,Zi,Zi,Zi,Zi,Zi,Zi,Zi,Zi,Zi,Zi,Zi,Zi,Zi,Zi,Zi,Zi,Zi,Zi,Zi,Zi,Zi,Zi,Zi,Zi,Zi,Zi,Zi,Zi,Zi,Zi,Zi,Zi,Zi,Zi,trivial⟩
    ·intro u w hR hd;exact rn_fld_49_0 (ev rfl) Zr
    ·intro u w hR hd;exact rn_ld_3 (ev (hd.1 rfl)) (d0.kept hR) Zr
    ·intro u w hR hd;exact rn_fld_49_0 (ev rfl) Zr
    ·intro u w hR hd;exact rn_ld_3 (ev (hd.1 rfl)) (e0.kept hR) Zr
    ·intro u w hR hd;exact rn_neq_3 (ev (hd.1 rfl)) (ev (hd.2.1 rfl)) Zr
    ·intro u w hR hd;exact runs_mv (ev (hd.1 rfl)) Zr
    ·intro u w hR hd;exact⟨fun hg=>have hG:=Zh (hd.1 rfl) hg;rn_fld_49_1 (ev rfl) (Zs hG),Zn (hd.1 rfl)⟩
    ·intro u w hR hd;exact⟨fun hg=>have hG:=Zh (hd.2.1 rfl) hg;rn_ld_9 (ev ((hd.1 rfl).1 hG)) (d1.kept hR) (Zs hG),Zn (hd.2.1 rfl)⟩
    ·intro u w hR hd;exact⟨fun hg=>have hG:=Zh (hd.1 rfl) hg;rn_fld_49_1 (ev rfl) (Zs hG),Zn (hd.1 rfl)⟩
    ·intro u w hR hd;exact⟨fun hg=>have hG:=Zh (hd.2.1 rfl) hg;rn_ld_9 (ev ((hd.1 rfl).1 hG)) (e1.kept hR) (Zs hG),Zn (hd.2.1 rfl)⟩
    ·intro u w hR hd;exact⟨fun hg=>have hG:=Zh (hd.2.2.1 rfl) hg;rn_nes_9 (ev ((hd.1 rfl).1 hG)) (ev ((hd.2.1 rfl).1 hG)) (Zs hG),Zn (hd.2.2.1 rfl)⟩
    ·intro u w hR hd;exact runs_or2 (ev (hd.1 rfl)) (fun hb=>ev ((hd.2.1 rfl).1 hb)) Zr
    ·intro u w hR hd;exact runs_mv (ev (hd.1 rfl)) Zr
    ·intro u w hR hd;exact⟨fun hg=>have hG:=Zh (hd.1 rfl) hg;rn_fld_49_2 (ev rfl) (Zs hG),Zn (hd.1 rfl)⟩
    ·intro u w hR hd;exact⟨fun hg=>have hG:=Zh (hd.2.1 rfl) hg;rn_ld_3 (ev ((hd.1 rfl).1 hG)) (d2.kept hR) (Zs hG),Zn (hd.2.1 rfl)⟩
    ·intro u w hR hd;exact⟨fun hg=>have hG:=Zh (hd.1 rfl) hg;rn_fld_49_2 (ev rfl) (Zs hG),Zn (hd.1 rfl)⟩
    ·intro u w hR hd;exact⟨fun hg=>have hG:=Zh (hd.2.1 rfl) hg;rn_ld_3 (ev ((hd.1 rfl).1 hG)) (e2.kept hR) (Zs hG),Zn (hd.2.1 rfl)⟩
    ·intro u w hR hd;exact⟨fun hg=>have hG:=Zh (hd.2.2.1 rfl) hg;rn_neq_3 (ev ((hd.1 rfl).1 hG)) (ev ((hd.2.1 rfl).1 hG)) (Zs hG),Zn (hd.2.2.1 rfl)⟩
    ·intro u w hR hd;exact runs_or2 (ev (hd.1 rfl)) (fun hb=>ev ((hd.2.1 rfl).1 hb)) Zr
    ·intro u w hR hd;exact runs_mv (ev (hd.1 rfl)) Zr
    ·intro u w hR hd;exact⟨fun hg=>have hG:=Zh (hd.1 rfl) hg;rn_fld_49_3 (ev rfl) (Zs hG),Zn (hd.1 rfl)⟩
    ·intro u w hR hd;exact⟨fun hg=>have hG:=Zh (hd.2.1 rfl) hg;rn_ld_33 (ev ((hd.1 rfl).1 hG)) (d3.kept hR) (Zs hG),Zn (hd.2.1 rfl)⟩
    ·intro u w hR hd;exact⟨fun hg=>have hG:=Zh (hd.2.1 rfl) hg;rn_len_33 (ev ((hd.1 rfl).1 hG)) (Zs hG),Zn (hd.2.1 rfl)⟩
    ·intro u w hR hd;exact⟨fun hg=>have hG:=Zh (hd.1 rfl) hg;rn_fld_49_3 (ev rfl) (Zs hG),Zn (hd.1 rfl)⟩
    ·intro u w hR hd;exact⟨fun hg=>have hG:=Zh (hd.2.1 rfl) hg;rn_ld_33 (ev ((hd.1 rfl).1 hG)) (e3.kept hR) (Zs hG),Zn (hd.2.1 rfl)⟩
    ·intro u w hR hd;exact⟨fun hg=>have hG:=Zh (hd.2.1 rfl) hg;rn_len_33 (ev ((hd.1 rfl).1 hG)) (Zs hG),Zn (hd.2.1 rfl)⟩
    ·intro u w hR hd;exact⟨fun hg=>have hG:=Zh (hd.2.2.1 rfl) hg;rn_neq_3 (ev ((hd.1 rfl).1 hG)) (ev ((hd.2.1 rfl).1 hG)) (Zs hG),Zn (hd.2.2.1 rfl)⟩
    ·intro u w hR hd;exact runs_or2 (ev (hd.1 rfl)) (fun hb=>ev ((hd.2.1 rfl).1 hb)) Zr
    ·intro u w hR hd;exact runs_mv (ev (hd.1 rfl)) Zr
    ·intro u w hR hd;exact⟨fun hg=>have hG:=Zh (hd.1 rfl) hg;rn_fld_49_4 (ev rfl) (Zs hG),Zn (hd.1 rfl)⟩
    ·intro u w hR hd;exact⟨fun hg=>have hG:=Zh (hd.2.1 rfl) hg;rn_ld_40 (ev ((hd.1 rfl).1 hG)) (d4.kept hR) (Zs hG),Zn (hd.2.1 rfl)⟩
    ·intro u w hR hd;exact⟨fun hg=>have hG:=Zh (hd.1 rfl) hg;rn_fld_49_4 (ev rfl) (Zs hG),Zn (hd.1 rfl)⟩
    ·intro u w hR hd;exact⟨fun hg=>have hG:=Zh (hd.2.1 rfl) hg;rn_ld_40 (ev ((hd.1 rfl).1 hG)) (e4.kept hR) (Zs hG),Zn (hd.2.1 rfl)⟩
    ·intro u w hR hd;exact⟨fun hg=>have hG:=Zh (hd.2.2.1 rfl) hg;runs_c2 enters_qs (ev ((hd.1 rfl).1 hG)) (ev ((hd.2.1 rfl).1 hG)) (callp (fun _ e=>⟨fun _=>e,fun hn=>absurd hG hn⟩) (HIY.out _ (HGV.out.trans hR))),Zn (hd.2.2.1 rfl)⟩
    ·intro u w hR hd;exact⟨fun hg=>have hG:=Zh (hd.2.1 rfl) hg;runs_nt (ev ((hd.1 rfl).1 hG)) (Zs hG),Zn (hd.2.1 rfl)⟩
    ·intro u w hR hd;exact runs_or2 (ev (hd.1 rfl)) (fun hb=>ev ((hd.2.1 rfl).1 hb)) Zr
    ·intro u w hR hd;exact runs_mv (ev (hd.1 rfl)) Zr
    ·intro u w hR hd;exact⟨fun hg=>have hG:=Zh (hd.1 rfl) hg;rn_fld_49_5 (ev rfl) (Zs hG),Zn (hd.1 rfl)⟩
    ·intro u w hR hd;exact⟨fun hg=>have hG:=Zh (hd.2.1 rfl) hg;rn_ld_40 (ev ((hd.1 rfl).1 hG)) (d5.kept hR) (Zs hG),Zn (hd.2.1 rfl)⟩
    ·intro u w hR hd;exact⟨fun hg=>have hG:=Zh (hd.1 rfl) hg;rn_fld_49_5 (ev rfl) (Zs hG),Zn (hd.1 rfl)⟩
    ·intro u w hR hd;exact⟨fun hg=>have hG:=Zh (hd.2.1 rfl) hg;rn_ld_40 (ev ((hd.1 rfl).1 hG)) (e5.kept hR) (Zs hG),Zn (hd.2.1 rfl)⟩
    ·intro u w hR hd;exact⟨fun hg=>have hG:=Zh (hd.2.2.1 rfl) hg;runs_c2 enters_qs (ev ((hd.1 rfl).1 hG)) (ev ((hd.2.1 rfl).1 hG)) (callp (fun _ e=>⟨fun _=>e,fun hn=>absurd hG hn⟩) (HIE.out _ (HGV.out.trans hR))),Zn (hd.2.2.1 rfl)⟩
    ·intro u w hR hd;exact⟨fun hg=>have hG:=Zh (hd.2.1 rfl) hg;runs_nt (ev ((hd.1 rfl).1 hG)) (Zs hG),Zn (hd.2.1 rfl)⟩
    ·intro u w hR hd;exact runs_or2 (ev (hd.1 rfl)) (fun hb=>ev ((hd.2.1 rfl).1 hb)) Zr
    ·intro u w4 hR hh
     have he:u 68=.bool (((((((ka) != (kb))||(!decide ((sa)=(sb))))||((na) != (nb)))||((((ra.length:Nat):Int)) != (((rb.length:Nat):Int))))||(!(m1)))||(!(m2))):=hh 43 (by decide)
     have hE:(((((((ka) != (kb))||(!decide ((sa)=(sb))))||((na) != (nb)))||((((ra.length:Nat):Int)) != (((rb.length:Nat):Int))))||(!(m1)))||(!(m2)))=!eqHS ka sa na ra.length kb sb nb rb.length m1 m2:=by rw [eqHS,Bool.not_not]
     rw [hE] at he
     simp only [mixA,mixL,zz9,zz0,he]
     have HG4:Hid (Grew V w4):=zh hR
     have HGw:=zh (HGV.out.trans hR)
     clear hh he hE hR d0 d1 d2 d3 d4 d5 e0 e1 e2 e3 e4 e5 HIY HIE
     cases hh:eqHS ka sa na ra.length kb sb nb rb.length m1 m2 with
     | false =>
       rw [hh,Bool.false_and] at HNO
       have HN2:=zh (HNO.out rfl)
       clear HNO hh HQ
       go_wp2
       go_ret
       exact⟨ret_bool HN2.out.symm,HGw.out⟩
     | true =>
       have hlen:ra.length=rb.length:=by
        rw [eqHS,Bool.not_eq_true'] at hh
        simp only [Bool.or_eq_false_iff] at hh
        have:=hh.1.1.2
        simp at this
        omega
       rw [hh,Bool.true_and] at HNO HQ
       have HLA:=zh hlen
       have r3:w4.cell? ⟨S,3,none⟩=some (.slice paa ra.length caa):=(HBS.out.grew HG4.out).cell 3
       clear hh hlen
       go_wp2
       clear r3
       go_loopg [8,72] ra.length (fun gg jv iv wr=>∃(i:Nat),iv=.int .i64 (i:Int)∧i≤ra.length∧gg=ra.length - i∧Hid (eqXs (ra.take i) (rb.take i)=true)∧Hid (Grew V wr))
       case atStart=>exact⟨0,rfl,Nat.zero_le _,rfl,zh (eqXs_nil _),HG4⟩
       case round =>
        obtain ⟨i,rfl,hi,rfl,HJ,HGq⟩:=hrel
        have HG:=zh (HGV.out.trans HGq.out)
        by_cases hlt:i < ra.length
        ·have hlt2:i < rb.length:=by have:=HLA.out;omega
         have hta:=List.take_succ_eq_append_getElem hlt
         have htb:=List.take_succ_eq_append_getElem hlt2
         have hno:=fun h=>eqXs_no ra rb i hlt hlt2 h
         have HLT2:=zh (Nat.succ_le_of_lt hlt)
         have HL3:=zh (And.intro hlt hlt2)
         obtain ⟨bu,ou,pu,cu,hpu,hbu,hau,hcu⟩:=HAA.out.get i hlt
         generalize ra[i]'hlt=xu at hbu hau hcu hno hta
         obtain ⟨ku,su,vu,o_u,ru,qu⟩:=xu
         replace hau:XL A w pu cu ru:=hau
         replace hcu:∀i_ u_,(xdc ⟨ku,su,vu,o_u,pu,ru.length,cu,qu⟩)[i_]?=some u_→w.cell? ⟨bu,ou+i * 6+i_,none⟩=some u_:=hcu
         obtain ⟨bv,ov,pv,cv,hpv,hbv,hav,hcv⟩:=HAB.out.get i hlt2
         generalize rb[i]'hlt2=xv at hbv hav hcv hno htb
         obtain ⟨kv,sv,vv,o_v,rv,qv⟩:=xv
         replace hav:XL B w pv cv rv:=hav
         replace hcv:∀i_ u_,(xdc ⟨kv,sv,vv,o_v,pv,rv.length,cv,qv⟩)[i_]?=some u_→w.cell? ⟨bv,ov+i * 6+i_,none⟩=some u_:=hcv
         obtain ⟨dd,hd⟩:∃d,eqX ⟨ku,su,vu,o_u,ru,qu⟩ ⟨kv,sv,vv,o_v,rv,qv⟩=d:=⟨_,rfl⟩
         have HD:=zh hd
         have HTU:=zh hta
         have HTV:=zh htb
         have HN3:=zh (fun(h:dd=false)=>(show b=false from HNO.out (hno (hd.trans h))))
         have HIH:=zh (fun W (hW:Grew w W)=>(show Calls Tryz.prog 24 #[xv ku su vu o_u pu ru.length cu qu,xv kv sv vv o_v pv rv.length cv qv] W fun e w'=>e=.returned (.bool dd)∧Grew W w' from hd ▸ eqx_any ⟨ku,su,vu,o_u,ru,qu⟩ ⟨kv,sv,vv,o_v,rv,qv⟩ A B W pu pv cu cv (hau.kept hW) (hav.kept hW)))
         subst hpu
         subst hpv
         have hbS:=HBS.out.grew (HGq.out.trans (Grew.refl wr).drw)
         have hbU:=HBU.out.grew (HGq.out.trans (Grew.refl wr).drw)
         have d3:Atv ⟨S,3,none⟩ (.slice (some ⟨bu,ou,none⟩) ra.length caa) wr.drew:=hbS.atv 3 rfl
         have e3:Atv ⟨U,3,none⟩ (.slice (some ⟨bv,ov,none⟩) rb.length cab) wr.drew:=hbU.atv 3 rfl
         have f0:Atv ⟨bu,ou+i * 6,none⟩ (.int .i64 ku) wr.drew:=Atv.kept (hcu 0 _ rfl) (HG.out.trans (Grew.refl wr).drw)
         have f1:Atv ⟨bu,ou+i * 6+1,none⟩ (.string su) wr.drew:=Atv.kept (hcu 1 _ rfl) (HG.out.trans (Grew.refl wr).drw)
         have f2:Atv ⟨bu,ou+i * 6+2,none⟩ (.int .i16 vu) wr.drew:=Atv.kept (hcu 2 _ rfl) (HG.out.trans (Grew.refl wr).drw)
         have f3:Atv ⟨bu,ou+i * 6+3,none⟩ (.int .i64 o_u) wr.drew:=Atv.kept (hcu 3 _ rfl) (HG.out.trans (Grew.refl wr).drw)
         have f4:Atv ⟨bu,ou+i * 6+4,none⟩ (.slice pu ru.length cu) wr.drew:=Atv.kept (hcu 4 _ rfl) (HG.out.trans (Grew.refl wr).drw)
         have f5:Atv ⟨bu,ou+i * 6+5,none⟩ (.int .i64 qu) wr.drew:=Atv.kept (hcu 5 _ rfl) (HG.out.trans (Grew.refl wr).drw)
         have h0:Atv ⟨bv,ov+i * 6,none⟩ (.int .i64 kv) wr.drew:=Atv.kept (hcv 0 _ rfl) (HG.out.trans (Grew.refl wr).drw)
         have h1:Atv ⟨bv,ov+i * 6+1,none⟩ (.string sv) wr.drew:=Atv.kept (hcv 1 _ rfl) (HG.out.trans (Grew.refl wr).drw)
         have h2:Atv ⟨bv,ov+i * 6+2,none⟩ (.int .i16 vv) wr.drew:=Atv.kept (hcv 2 _ rfl) (HG.out.trans (Grew.refl wr).drw)
         have h3:Atv ⟨bv,ov+i * 6+3,none⟩ (.int .i64 o_v) wr.drew:=Atv.kept (hcv 3 _ rfl) (HG.out.trans (Grew.refl wr).drw)
         have h4:Atv ⟨bv,ov+i * 6+4,none⟩ (.slice pv rv.length cv) wr.drew:=Atv.kept (hcv 4 _ rfl) (HG.out.trans (Grew.refl wr).drw)
         have h5:Atv ⟨bv,ov+i * 6+5,none⟩ (.int .i64 qv) wr.drew:=Atv.kept (hcv 5 _ rfl) (HG.out.trans (Grew.refl wr).drw)
         clear hta htb hno hd hau hav hcu hcv hbu hbv hbS hbU hlt2
         go_upto_region 12 with fail
         have hlt2:i < rb.length:=HL3.out.2
         refine wp_posts [some 75,some 76,some 77,some 78,some 79,some 80,some 81,some 82,some 83,some 84,some 85,some 86] (Zfg (Zfg (Zfd (Zfb (Zfa (Ztd (Ztc (Zfb [])))))))) [fun v _=>v=.pointer (some ⟨S,3,none⟩),fun v _=>v=.slice (some ⟨bu,ou,none⟩) (ra.length) (caa),fun v _=>v=.int .i64 (((i:Nat):Int)),fun v _=>v=.pointer (some ⟨bu,ou+i * 6,none⟩),fun v _=>v=.agg #[.int .i64 (ku),.string su,.int .i16 (vu),.int .i64 (o_u),.slice pu ru.length cu,.int .i64 (qu)],fun v _=>v=.pointer (some ⟨U,3,none⟩),fun v _=>v=.slice (some ⟨bv,ov,none⟩) (rb.length) (cab),fun v _=>v=.int .i64 (((i:Nat):Int)),fun v _=>v=.pointer (some ⟨bv,ov+i * 6,none⟩),fun v _=>v=.agg #[.int .i64 (kv),.string sv,.int .i16 (vv),.int .i64 (o_v),.slice pv rv.length cv,.int .i64 (qv)],fun v _=>v=.bool (dd),fun v _=>v=.bool (!(dd))] (by kernel_rfl) (by kernel_rfl) rfl ?_ ⟨?_,?_,?_,?_,?_,?_,?_,?_,?_,?_,?_,?_,trivial⟩ ?_
         ·exact⟨Zi,Zi,Zi,Zi,Zi,Zi,Zi,Zi,Zi,Zi,Zi,Zi,trivial⟩
         ·intro u w hR hd;exact rn_fld_49_3 (ev rfl) Zr
         ·intro u w hR hd;exact rn_ld_33 (ev (hd.1 rfl)) (d3.kept hR) Zr
         ·intro u w hR hd;exact runs_mv (ev rfl) Zr
         ·intro u w hR hd;exact rn_idx_33 (i) (ev (hd.1 rfl)) (ev (hd.2.1 rfl)) (by omega) Zr
         ·intro u w hR hd;exact rn_ld_35 (ev (hd.1 rfl)) (f0.kept hR) (f1.kept hR) (f2.kept hR) (f3.kept hR) (f4.kept hR) (f5.kept hR) Zr
         ·intro u w hR hd;exact rn_fld_49_3 (ev rfl) Zr
         ·intro u w hR hd;exact rn_ld_33 (ev (hd.1 rfl)) (e3.kept hR) Zr
         ·intro u w hR hd;exact runs_mv (ev rfl) Zr
         ·intro u w hR hd;exact rn_idx_33 (i) (ev (hd.1 rfl)) (ev (hd.2.1 rfl)) (by omega) Zr
         ·intro u w hR hd;exact rn_ld_35 (ev (hd.1 rfl)) (h0.kept hR) (h1.kept hR) (h2.kept hR) (h3.kept hR) (h4.kept hR) (h5.kept hR) Zr
         ·intro u w hR hd;exact runs_c2 enters_eq (ev (hd.1 rfl)) (ev (hd.2.1 rfl)) (callp (fun _ e=>e) (HIH.out _ (HG.out.trans ((Grew.refl _).drw.trans hR))))
         ·intro u w hR hd;exact runs_nt (ev (hd.1 rfl)) Zr
         ·intro u w4 hR hh
          have he:u 86=.bool (!(dd)):=hh 11 (by decide)
          simp only [mixA,mixL,zz9,zz0,he]
          have HG5:Hid (Grew V w4):=zh (HGq.out.trans ((Grew.refl wr).drw.trans hR))
          clear hh he hR d3 e3 f0 f1 f2 f3 f4 f5 h0 h1 h2 h3 h4 h5
          cases dd with
          | false =>
            have HN4:=zh (HN3.out rfl)
            clear HN3
            go_wp2
            go_ret
            exact⟨ret_bool HN4.out.symm,HGV.out.trans HG5.out⟩
          | true =>
            clear HN3
            go_wp2
            go_roundg (ra.length - (i+1))
            case measure=>have:=HLT2.out;omega
            case rel=>exact⟨i+1,by go_num,HLT2.out,rfl,zh (by rw [HTU.out,HTV.out,eqXs_snoc _ _ _ _ (by rw [List.length_take,List.length_take,HLA.out]),HJ.out,HD.out];rfl),HG5⟩
        ·obtain rfl:i=ra.length:=by omega
         rw [List.take_length,HLA.out,List.take_length] at HJ
         have HQ2:=zh (HQ.out.trans HJ.out)
         clear HNO HQ HJ
         go_wp2
         go_roundg (l.length - (j+1))
         case measure=>have:=HLT.out;omega
         case rel=>exact⟨j+1,by go_num,HLT.out,rfl,zh (by rw [HTA.out,HTB.out,eqSz_snoc _ _ _ _ (by rw [List.length_take,List.length_take,HLE.out]),HI.out,HQ2.out];rfl),HG⟩
   ·obtain rfl:j=l.length:=by omega
    rw [List.take_length,HLE.out,List.take_length] at HI
    go_wp2
    go_ret
    exact⟨ret_bool (HI.out.symm.trans HOK.out),HG.out⟩
 ·rw [decide_eq_false hlen,Bool.false_and] at hb
  have hne:((l.length:Int) != (m.length:Int))=true:=by simp;omega
  go_enter Tryz.func30,Tryz.ntmps30
  go_wp2
  go_ret
  exact⟨ret_bool hb,Grew.refl _⟩
section
variable {dst:Option Tmp}{ty:TypeId}{pos:String}{after:Array Edge}{g:Option (Nat × Bool)}{a:Act}{w:World}{T:Value→World→Prop}
theorem rn_idx_24 {x y:Operand}{b o n c:Nat}(i:Nat) (hx:a.eval x=.slice (some ⟨b,o,none⟩) n c) (hy:a.eval y=.int .i64 (i:Int)) (hi:i < n) (h:T (.pointer (some ⟨b,o+i,none⟩)) w):Runs Tryz.prog ⟨dst,.indexAddr 24 x y,ty,pos,after,g⟩ a w T:=by
 have hi2:(i:Int) < (n:Int):=by omega
 refine Runs.value (v:=.pointer (some ⟨b,o+i,none⟩)) (w':=w) ?_ h
 simp only [execOp,hx,hy]
 go_simp
end
section
variable {dst:Option Tmp}{ty:TypeId}{pos:String}{after:Array Edge}{g:Option (Nat × Bool)}{a:Act}{w:World}{T:Value→World→Prop}
theorem rn_st_33 {x y:Operand}{q:Addr}{p:Option Addr}{m c:Nat}{v':Value}(hx:a.eval x=.pointer (some q)) (hy:a.eval y=(.slice p m c)) (hc:w.cell? q=some v') (hf:w.frozen? q=false) (h:T undef (w.setCell q (.slice p m c))):Runs Tryz.prog ⟨dst,.store 33 x y,ty,pos,after,g⟩ a w T:=by
 refine Runs.skip (w':=w.setCell q (.slice p m c)) ?_ h
 simp only [execOp,hx,hy]
 go_simp
theorem rn_st_40 {x y:Operand}{q:Addr}{p:Option Addr}{m c:Nat}{v':Value}(hx:a.eval x=.pointer (some q)) (hy:a.eval y=(.slice p m c)) (hc:w.cell? q=some v') (hf:w.frozen? q=false) (h:T undef (w.setCell q (.slice p m c))):Runs Tryz.prog ⟨dst,.store 40 x y,ty,pos,after,g⟩ a w T:=by
 refine Runs.skip (w':=w.setCell q (.slice p m c)) ?_ h
 simp only [execOp,hx,hy]
 go_simp
end
def SsG (T S3 k:Nat) (ys:List Sm) (w:World):Prop:=∃p_ c_,w.cell? ⟨T,k,none⟩=some (.slice p_ ys.length c_)∧SL (Fresh S3 w.heap.size) w p_ c_ (stSs ys)
def SsB (T:Nat) (ka:Int) (sa:ByteArray) (na:Int) (w:World):Prop:=∃v3 v4 v5:Value,Blk T [.int .i64 ka,.string sa,.int .i64 na,v3,v4,v5,.int .i64 0] 49 w
structure SsR (T S3:Nat) (ka:Int) (sa:ByteArray) (na:Int) (x3:Value) (ya ea:List Sm) (w w':World):Prop where
 ch:Chg w w' (fun k=>k=T)
 b:SsB T ka sa na w→SsB T ka sa na w'
 c:w.cell? ⟨T,3,none⟩=some x3→w'.cell? ⟨T,3,none⟩=some x3
 g4:SsG T S3 4 ya w→SsG T S3 4 ya w'
 g5:SsG T S3 5 ea w→SsG T S3 5 ea w'
theorem SsG.grew {T S3 k:Nat}{ys:List Sm}{w w':World}(h:SsG T S3 k ys w) (hg:Grew w w'):SsG T S3 k ys w':=by
 obtain ⟨p_,c_,h1,h2⟩:=h
 exact⟨p_,c_,Atv.kept (R:=Grew) h1 hg,(h2.kept hg).mono fun b hb=>⟨hb.1,Nat.lt_of_lt_of_le hb.2 hg.sz⟩⟩
section
variable {T S3:Nat}{ka:Int}{sa:ByteArray}{na:Int}{x3:Value}{ya ea:List Sm}{w w' w'':World}
theorem SsR.of_grew (hg:Grew w w'):SsR T S3 ka sa na x3 ya ea w w' :=
 ⟨Chg.of_grew hg _,fun⟨v3,v4,v5,h⟩=>⟨v3,v4,v5,h.grew hg⟩,fun h=>Atv.kept (R:=Grew) h hg,fun h=>h.grew hg,fun h=>h.grew hg⟩
theorem SsR.trans (h:SsR T S3 ka sa na x3 ya ea w w') (h':SsR T S3 ka sa na x3 ya ea w' w''):SsR T S3 ka sa na x3 ya ea w w'' :=
 ⟨h.ch.trans h'.ch,fun x=>h'.b (h.b x),fun x=>h'.c (h.c x),fun x=>h'.g4 (h.g4 x),fun x=>h'.g5 (h.g5 x)⟩
theorem SsG.chg {k:Nat}{ys:List Sm}(h:SsG T S3 k ys w) (hT:T < S3) (hc:Chg w w' (fun k=>k=T)) (hk:w'.cell? ⟨T,k,none⟩=w.cell? ⟨T,k,none⟩):SsG T S3 k ys w':=by
 obtain ⟨p_,c_,h1,h2⟩:=h
 exact⟨p_,c_,hk.trans h1,(h2.chg hc (fun b hb e=>by have:=hb.1;omega)).mono fun b hb=>⟨hb.1,Nat.lt_of_lt_of_le hb.2 hc.size⟩⟩
theorem SsR.done {x4:List Value}(h:SsR T S3 ka sa na x3 ya ea w w') (hb:SsB T ka sa na w) (hc:w'.cell? ⟨T,3,none⟩=some x3) (h4:SsG T S3 4 ya w') (h5:SsG T S3 5 ea w'):∃p3 c3 p5 c5,Blk T [.int .i64 ka,.string sa,.int .i64 na,x3,.slice p3 ya.length c3,.slice p5 ea.length c5,.int .i64 0] 49 w'∧SL (Fresh S3 w'.heap.size) w' p3 c3 (stSs ya)∧SL (Fresh S3 w'.heap.size) w' p5 c5 (stSs ea):=by
 obtain ⟨v3,v4,v5,hb'⟩:=h.b hb
 obtain ⟨p3,c3,e4,s4⟩:=h4
 obtain ⟨p5,c5,e5,s5⟩:=h5
 have f3:some v3=some x3:=(hb'.cell 3).symm.trans hc
 have f4:some v4=some (.slice p3 ya.length c3):=(hb'.cell 4).symm.trans e4
 have f5:some v5=some (.slice p5 ea.length c5):=(hb'.cell 5).symm.trans e5
 obtain rfl:=Option.some.inj f3
 obtain rfl:=Option.some.inj f4
 obtain rfl:=Option.some.inj f5
 exact⟨p3,c3,p5,c5,hb',s4,s5⟩
end
open Go.Lib (decDigits)
def HN (p:UInt8→Bool):List UInt8→Bool
 | []=>true
 | c :: _=>!p c
def one (c:UInt8):Bool:=[40,41,91,93,59,123,125,45].contains c
theorem o15 {o:Int}(h:3≤o∧o≤15):o=3∨o=4∨o=5∨o=6∨o=7∨o=8∨o=9∨o=10∨o=11∨o=12∨o=13∨o=14∨o=15:=by omega
def opdK (least k o:Int) (t:List (List UInt8)):List (List UInt8):=if lvX k o < least then [40] :: (t++[[41]]) else t
def asmK (k:Int) (s:ByteArray) (v o:Int) (hs:List (Int × Int)) (ts:List (List (List UInt8))):List (List UInt8) :=
 if k=1 then [numZ v] else if k=3 then s.data.toList :: [91] :: (ts.getD 0 []++[[93]]) else if k=4 then [[114,101,97,100],[40],s.data.toList,[41]]
 else if k=5 then sgT o :: opdK 6 (hs.getD 0 (0,0)).1 (hs.getD 0 (0,0)).2 (ts.getD 0 [])
 else if k=6 then opdK (lfT o) (hs.getD 0 (0,0)).1 (hs.getD 0 (0,0)).2 (ts.getD 0 [])++sgT o :: opdK (lvT o+1) (hs.getD 1 (0,0)).1 (hs.getD 1 (0,0)).2 (ts.getD 1 [])
 else [s.data.toList]
mutual
def tkX:Xp→List (List UInt8)
 | ⟨k,s,v,o,ar,_⟩=>asmK k s v o (ar.map fun a=>(a.k,a.o)) (tkXs ar)
def tkXs:List Xp→List (List (List UInt8))
 | []=>[]
 | x :: xs=>tkX x :: tkXs xs
end
def agK (ar:List Xp) (i:Nat):List (List UInt8):=(tkXs ar).getD i []
theorem ag0 (a:Xp) (l:List Xp):agT (a :: l) 0=txX a∧agK (a :: l) 0=tkX a:=by
 rw [agT,agK,txXs,tkXs];exact⟨rfl,rfl⟩
theorem ag1 (a b:Xp) (l:List Xp):agT (a :: b :: l) 1=txX b∧agK (a :: b :: l) 1=tkX b:=by
 rw [agT,agK,txXs,tkXs,txXs,tkXs];exact⟨rfl,rfl⟩
theorem ok1 {a:Xp}{l:List Xp}(h:okXs (a :: l)=true):okX a=true:=by rw [okXs,Bool.and_eq_true] at h;exact h.1
theorem ok2 {a b:Xp}{l:List Xp}(h:okXs (a :: b :: l)=true):okX b=true:=by rw [okXs,okXs,Bool.and_eq_true,Bool.and_eq_true] at h;exact h.2.1
open Go.Lib (decDigits)
def okN (t:List UInt8):Bool:=decide (dval 0 t≤32767)&&!(decide (1 < t.length)&&t.head?==some 48)
def kdT (t:List UInt8):Int:=match t with
 | []=>5
 | c :: r=>if ltr c=true then (if kwT.contains (c :: r)=true then 3 else if (c :: r).length≤32 then 1 else 5) else if dig c=true then (if okN (c :: r)=true then 2 else 5) else if mkl (c :: r)=0 then 5 else 4
structure Kz (T:Type) where
 tx:T→List UInt8
 kn:T→Int
 vl:T→Int
 ps:T→Int
structure Kz.Good {T:Type}(Z:Kz T):Prop where
 kn:∀t,Z.kn t=kdT (Z.tx t)
 vl:∀t,Z.kn t=2→Z.vl t=(dval 0 (Z.tx t):Nat)
abbrev Ro (T α:Type):=Except (List T) (α × List T)
def bd {T α β:Type}(x:Ro T α) (f:α→List T→Ro T β):Ro T β:=match x with
 | .ok (a,r)=>f a r
 | .error e=>.error e
def opF (u:List UInt8):Option Int:=([3,4,5,6,7,8,9,10,11,12,13,14,15]:List Int).find? (fun o=>sgT o==u)
def Ev {α:Type}(f:Nat→α) (v:α):Prop:=∃n,∀m,n≤m→f m=v
section
variable {α β T:Type}
theorem Ev.pure (v:α):Ev (fun _=>v) v:=⟨0,fun _ _=>rfl⟩
theorem Ev.one {f:Nat→α}{v v':α}(h:Ev f v) (h':Ev f v'):v=v':=by
 obtain ⟨n,h⟩:=h
 obtain ⟨n',h'⟩:=h'
 rw [← h (n+n') (by omega),h' (n+n') (by omega)]
theorem Ev.succ {f g:Nat→α}{v:α}(e:∀m,f (m+1)=g m) (h:Ev g v):Ev f v:=by
 obtain ⟨n,h⟩:=h
 refine⟨n+1,fun m hm=>?_⟩
 obtain ⟨k,rfl⟩:∃k,m=k+1:=⟨m - 1,by omega⟩
 rw [e,h k (by omega)]
theorem Ev.pred {f g:Nat→α}{v:α}(e:∀m,f (m+1)=g m) (h:Ev f v):Ev g v:=by
 obtain ⟨n,h⟩:=h
 exact⟨n,fun m hm=>by rw [← e,h (m+1) (by omega)]⟩
theorem Ev.bd {g:Nat→Ro T α}{k:Nat→α→List T→Ro T β}{a:α}{r:List T}{v:Ro T β}(h:Ev g (.ok (a,r))) (h':Ev (fun m=>k m a r) v):Ev (fun m=>Go.Proofs.YtcknpcbkofgdoaaGreatDoor.bd (g m) (k m)) v:=by
 obtain ⟨n,h⟩:=h
 obtain ⟨n',h'⟩:=h'
 refine⟨n+n',fun m hm=>?_⟩
 show Go.Proofs.YtcknpcbkofgdoaaGreatDoor.bd (g m) (k m)=v
 rw [h m (by omega)]
 exact h' m (by omega)
theorem Ev.congr {f g:Nat→α}{v:α}(e:∀m,f m=g m) (h:Ev g v):Ev f v:=by
 obtain ⟨n,h⟩:=h
 exact⟨n,fun m hm=>by rw [e,h m hm]⟩
end
section
variable {T:Type}(Z:Kz T)
def isT (u:List UInt8):List T→Bool
 | t :: _=>Z.tx t==u
 | []=>false
def tkT (u:List UInt8):List T→Ro T T
 | t :: r=>if Z.tx t=u then .ok (t,r) else .error (t :: r)
 | []=>.error []
def idT:List T→Ro T T
 | t :: r=>if Z.kn t=1 then .ok (t,r) else .error (t :: r)
 | []=>.error []
abbrev nmT (t:T):ByteArray:=⟨(Z.tx t).toArray⟩
inductive Md where
 | prim
 | unar
 | expr (l:Int)
 | loop (l:Int) (x:Xp)
def rd:Nat→Md→List T→Ro T Xp
 | 0,_,ts=>.error ts
 | _+1,.prim,[]=>.error []
 | n+1,.prim,t :: r =>
   if Z.kn t=2 then .ok (⟨1,⟨#[]⟩,Z.vl t,0,[],Z.ps t⟩,r)
   else if Z.kn t=1 then
    (if isT Z [91] r=true then bd (tkT Z [91] r) fun _ r=>bd (rd n (.expr 1) r) fun x r=>bd (tkT Z [93] r) fun _ r=>.ok (⟨3,nmT Z t,0,0,[x],Z.ps t⟩,r)
    else .ok (⟨2,nmT Z t,0,0,[],Z.ps t⟩,r))
   else if Z.tx t=[114,101,97,100] then bd (tkT Z [40] r) fun _ r=>bd (idT Z r) fun s r=>bd (tkT Z [41] r) fun _ r=>.ok (⟨4,nmT Z s,0,0,[],Z.ps t⟩,r)
   else bd (tkT Z [40] (t :: r)) fun _ r=>bd (rd n (.expr 1) r) fun x r=>bd (tkT Z [41] r) fun _ r=>.ok (x,r)
 | _+1,.unar,[]=>.error []
 | n+1,.unar,t :: r =>
   if Z.tx t=[45] then bd (rd n .unar r) fun x r=>.ok (⟨5,⟨#[]⟩,0,1,[x],Z.ps t⟩,r)
   else if Z.tx t=[33] then bd (rd n .unar r) fun x r=>.ok (⟨5,⟨#[]⟩,0,2,[x],Z.ps t⟩,r)
   else rd n .prim (t :: r)
 | n+1,.expr l,ts=>if 5 < l then rd n .unar ts else bd (rd n (.expr (l+1)) ts) fun x r=>rd n (.loop l x) r
 | _+1,.loop _ x,[]=>.ok (x,[])
 | n+1,.loop l x,t :: r=>match opF (Z.tx t) with
   | none=>.ok (x,t :: r)
   | some o=>if lvT o=l then bd (rd n (.expr (l+1)) r) fun y r=>(if l=3 then .ok (⟨6,⟨#[]⟩,0,o,[x,y],Z.ps t⟩,r) else rd n (.loop l ⟨6,⟨#[]⟩,0,o,[x,y],Z.ps t⟩) r) else .ok (x,t :: r)
def Fo (l:Int) (r:List T):Prop:=∀t r',r=t :: r'→Z.tx t≠[91]∧∀o,opF (Z.tx t)=some o→lvT o < l∨(lvT o=l∧l≠3)
def Es (ts:List T) (x:Xp) (l:Int):Prop:=∀r v,Fo Z l r→Ev (fun n=>rd Z n (.loop l x) r) v→Ev (fun n=>rd Z n (.expr l) (ts++r)) v
variable {Z}
theorem opF_lv {u:List UInt8}{o:Int}(h:opF u=some o):3≤o∧o≤15∧1≤lvT o∧lvT o≤5:=by
 have h1:=List.mem_of_find?_eq_some h
 have h2:∀o ∈ ([3,4,5,6,7,8,9,10,11,12,13,14,15]:List Int),3≤o∧o≤15∧1≤lvT o∧lvT o≤5:=by decide
 exact h2 o h1
theorem opF_sg {o:Int}(h:3≤o∧o≤15):opF (sgT o)=some o∧sgT o≠[91]:=by
 rcases o15 h with rfl | rfl | rfl | rfl | rfl | rfl | rfl | rfl | rfl | rfl | rfl | rfl | rfl <;> decide
theorem Fo.up {l m:Int}{r:List T}(h:Fo Z l r) (hm:l < m):Fo Z m r:=fun t r' e=>⟨(h t r' e).1,fun o ho=>by have:=(h t r' e).2 o ho;omega⟩
theorem Fo.of {l:Int}{t:T}{r:List T}(h:Z.tx t≠[91]) (ho:opF (Z.tx t)=none):Fo Z l (t :: r):=fun t' r' e=>by
 obtain ⟨rfl,rfl⟩:=List.cons.inj e
 exact⟨h,fun o h'=>by rw [ho] at h';cases h'⟩
theorem loop_ok {l:Int}{x:Xp}{r:List T}(h:∀t r',r=t :: r'→∀o,opF (Z.tx t)=some o→lvT o≠l):Ev (fun n=>rd Z n (.loop l x) r) (.ok (x,r)):=by
 refine Ev.succ (g:=fun _=>.ok (x,r)) (fun m=>?_) (Ev.pure _)
 match r,h with
 | [],_=>rw [rd]
 | t :: r,h =>
   rw [rd]
   cases ho:opF (Z.tx t) with
   | none=>rfl
   | some o =>
     show (if lvT o=l then _ else _)=_
     rw [if_neg (h t r rfl o ho)]
theorem Fo.stop {l m:Int}{x:Xp}{r:List T}(h:Fo Z l r) (hm:l < m):Ev (fun n=>rd Z n (.loop m x) r) (.ok (x,r)):=loop_ok fun t r' e o ho=>by have:=(h t r' e).2 o ho;omega
theorem loop6 {x:Xp}{r:List T}:Ev (fun n=>rd Z n (.loop 6 x) r) (.ok (x,r)):=loop_ok fun t r' e o ho=>by have:=opF_lv ho;omega
theorem Es.down {ts:List T}{x:Xp}{L:Int}(h:Es Z ts x L) (hL:L≤6):∀(d:Nat) (l:Int),l+d=L→Es Z ts x l:=by
 intro d
 induction d with
 | zero =>
   intro l hl
   obtain rfl:l=L:=by omega
   exact h
 | succ d ih =>
   intro l hl r v hf hv
   have h1:=ih (l+1) (by omega) r (.ok (x,r)) (hf.up (by omega)) (hf.stop (by omega))
   refine Ev.succ (g:=fun m=>bd (rd Z m (.expr (l+1)) (ts++r)) fun x r=>rd Z m (.loop l x) r) (fun m=>by rw [rd,if_neg (by omega)]) (Ev.bd h1 hv)
theorem Es.at {ts:List T}{x:Xp}{L l:Int}(h:Es Z ts x L) (hL:L≤6) (hl:l≤L):Es Z ts x l:=h.down hL (L - l).toNat l (by omega)
theorem Es.unar {ts:List T}{x:Xp}(h:Es Z ts x 6){r:List T}(hf:Fo Z 6 r):Ev (fun n=>rd Z n .unar (ts++r)) (.ok (x,r)) :=
 Ev.pred (f:=fun n=>rd Z n (.expr 6) (ts++r)) (fun m=>by rw [rd,if_pos (by omega)]) (h r _ hf loop6)
theorem Es.whole {ts:List T}{x:Xp}(h:Es Z ts x 1){t:T}{r:List T}(h1:Z.tx t≠[91]) (ho:opF (Z.tx t)=none):Ev (fun n=>rd Z n (.expr 1) (ts++t :: r)) (.ok (x,t :: r)) :=
 h (t :: r) _ (Fo.of h1 ho) (loop_ok fun t' r' e o ho'=>by
  obtain ⟨rfl,rfl⟩:=List.cons.inj e
  rw [ho] at ho';cases ho')
variable (hZ:Z.Good)
include hZ
omit hZ in
end
open Go.Lib (decDigits)
inductive Dc where
 | c (x:Cn)
 | g (x:Gl)
 | s (x:ByteArray)
 | o (x:ByteArray)
 | h (x:Cn)
 | t (x:Ta)
section
variable {T:Type}(Z:Kz T)
end
section
variable {T:Type}{Z:Kz T}(hZ:Z.Good)
include hZ
end
def NewF {α:Type}(k:Nat) (enc:α→List Value) (S U:Nat) (p:Option Addr) (c:Nat) (l:List α) (w:World):Prop:=Rw k enc w p c l∧(0 < l.length→∀a,p=some a→S≤a.block∧a.block < w.heap.size∧a.block≠U)
theorem NewF.chgC {α:Type}{k:Nat}{enc:α→List Value}{S U:Nat}{p:Option Addr}{c:Nat}{l:List α}{w w':World}{C:Nat→Prop}(h:NewF k enc S U p c l w) (hc:Chg w w' C) (hC:∀b,S≤b→b≠U→¬ C b):NewF k enc S U p c l w':=by
 obtain ⟨h1,h2⟩:=h
 refine⟨?_,fun hn a ha=>?_⟩
 ·by_cases hn:0 < l.length
  ·exact h1.chg hc (fun a ha=>hC _ (h2 hn a ha).1 (h2 hn a ha).2.2)
  ·obtain rfl:=List.eq_nil_of_length_eq_zero (by omega:l.length=0)
   exact⟨RdL.nil _ _ _ _ _ h1.max,h1.bare⟩
 ·have h3:=h2 hn a ha
  exact⟨h3.1,Nat.lt_of_lt_of_le h3.2.1 hc.size,h3.2.2⟩
theorem NewF.chg {α:Type}{k:Nat}{enc:α→List Value}{S U:Nat}{p:Option Addr}{c:Nat}{l:List α}{w w':World}(h:NewF k enc S U p c l w) (hc:Chg w w' (fun b=>b=U)):NewF k enc S U p c l w':=h.chgC hc (fun b _ h e=>h e)
theorem NewF.grew {α:Type}{k:Nat}{enc:α→List Value}{S U:Nat}{p:Option Addr}{c:Nat}{l:List α}{w w':World}(h:NewF k enc S U p c l w) (hc:Grew w w'):NewF k enc S U p c l w':=h.chg (Chg.of_grew hc _)
theorem NewF.pg {α:Type}{k:Nat}{enc:α→List Value}{S U:Nat}{p:Option Addr}{c:Nat}{l:List α}{w:World}(h:NewF k enc S U p c l w){n:Nat}(hn:n=l.length){S':Nat}(hS:S'≤S):InB (Fresh S' w.heap.size) p n∧InN FlatAt k enc (Fresh S' w.heap.size) w p n c l:=by
 subst hn
 exact⟨fun hn a ha=>⟨Nat.le_trans hS (h.2 hn a ha).1,(h.2 hn a ha).2.1⟩,rfl,l,h.1,rfl⟩
def StrN (S:Nat) (l:List ByteArray) (v:Value) (w:World):Prop:=∃p_ c_,v=.slice p_ l.length c_∧Rw 1 strc w p_ c_ l∧(0 < l.length→∀a,p_=some a→S≤a.block∧a.block < w.heap.size)
theorem StrN.grew {S:Nat}{l:List ByteArray}{v:Value}{w w':World}(h:StrN S l v w) (hg:Grew w w'):StrN S l v w':=by
 obtain ⟨p_,c_,h1,h2,h3⟩:=h
 exact⟨p_,c_,h1,h2.kept hg,fun hn a ha=>⟨(h3 hn a ha).1,Nat.lt_of_lt_of_le (h3 hn a ha).2 hg.sz⟩⟩
set_option maxHeartbeats 4000000 in
theorem clnX_any (L:List Xd) (w:World) (p:Option Addr) (c:Nat) (h:Rw 6 xdc w p c L) (hn:L.length≤1048576) :
 Calls Tryz.prog 153 #[.slice p L.length c] w fun e w'=>∃p' c',e=.returned (.slice p' L.length c')∧Frs 6 xdc 35 w.heap.size p' c' L w'∧Grew w w':=by
 have hcap:=h.cap
 have hmax:=h.max
 have HX:=zh h
 have HN:=zh hn
 have q22:∀(w:World) (a:Option Addr) (n c n' c':Nat),(binOp .eql 33 (.slice a n c) (.slice none n' c')).run Tryz.prog w=.ok (.bool a.isNone) w:=fun w a n c n' c'=>Lib.run_eql_slice_nil w _ _ a n c n' c' Tryz.underlying33
 cases p with
 | none =>
   have hc:=h.bare rfl
   subst hc
   obtain rfl:L=[]:=List.eq_nil_of_length_eq_zero (by omega)
   clear h
   go_enter Tryz.func153,Tryz.ntmps153
   go_wp2
   go_ret
   exact⟨none,0,rfl,⟨HX.out,fun hn=>absurd hn (by simp)⟩,Grew.refl _⟩
 | some a =>
   obtain ⟨n,hL⟩:∃n,L.length=n:=⟨_,rfl⟩
   have HL:=zh hL
   rw [hL] at hcap hn ⊢
   clear h hL
   go_enter Tryz.func153,Tryz.ntmps153
   go_wp2_with (at_builtin;refine wpList_append_litF encXd rfl _ _ 33 rfl 35 zX 72 Tryz.underlying33 infoX rfl w.heap.size rfl (some a) n c L rfl HL.out (HX.out.kept ((Grew.refl w).alloc _)) (by have:=HN.out;have:=HL.out;omega) (by have:=HN.out;have:=HL.out;omega) ?_;intro p3 c3 w3 h3 g3;have H3:=zh h3;have G3:=zh g3;clear h3 g3)
   have hcp:n≤c3:=by have h1:=H3.out.1.cap;have:=HL.out;omega
   have hcm:=H3.out.1.max
   go_ret
   exact⟨p3,c3,rfl,⟨H3.out.1,fun hn=>(H3.out.2 hn).down (by rw [alloc_sz];omega)⟩,((Grew.refl w).alloc _).trans G3.out⟩
set_option maxHeartbeats 4000000 in
theorem clnS_any (L:List Sd) (w:World) (p:Option Addr) (c:Nat) (h:Rw 7 sdc w p c L) (hn:L.length≤1048576) :
 Calls Tryz.prog 119 #[.slice p L.length c] w fun e w'=>∃p' c',e=.returned (.slice p' L.length c')∧Frs 7 sdc 49 w.heap.size p' c' L w'∧Grew w w':=by
 have hcap:=h.cap
 have hmax:=h.max
 have HX:=zh h
 have HN:=zh hn
 have q22:∀(w:World) (a:Option Addr) (n c n' c':Nat),(binOp .eql 40 (.slice a n c) (.slice none n' c')).run Tryz.prog w=.ok (.bool a.isNone) w:=fun w a n c n' c'=>Lib.run_eql_slice_nil w _ _ a n c n' c' Tryz.underlying40
 cases p with
 | none =>
   have hc:=h.bare rfl
   subst hc
   obtain rfl:L=[]:=List.eq_nil_of_length_eq_zero (by omega)
   clear h
   go_enter Tryz.func119,Tryz.ntmps119
   go_wp2
   go_ret
   exact⟨none,0,rfl,⟨HX.out,fun hn=>absurd hn (by simp)⟩,Grew.refl _⟩
 | some a =>
   obtain ⟨n,hL⟩:∃n,L.length=n:=⟨_,rfl⟩
   have HL:=zh hL
   rw [hL] at hcap hn ⊢
   clear h hL
   go_enter Tryz.func119,Tryz.ntmps119
   go_wp2_with (at_builtin;refine wpList_append_litF encSd rfl _ _ 40 rfl 49 zS 112 Tryz.underlying40 infoS rfl w.heap.size rfl (some a) n c L rfl HL.out (HX.out.kept ((Grew.refl w).alloc _)) (by have:=HN.out;have:=HL.out;omega) (by have:=HN.out;have:=HL.out;omega) ?_;intro p3 c3 w3 h3 g3;have H3:=zh h3;have G3:=zh g3;clear h3 g3)
   have hcp:n≤c3:=by have h1:=H3.out.1.cap;have:=HL.out;omega
   have hcm:=H3.out.1.max
   go_ret
   exact⟨p3,c3,rfl,⟨H3.out.1,fun hn=>(H3.out.2 hn).down (by rw [alloc_sz];omega)⟩,((Grew.refl w).alloc _).trans G3.out⟩
end Go.Proofs.YtcknpcbkofgdoaaGreatDoor
