import PyProof.Rows.All
import Wide.All
import OpenK.AllK
import Wide.FinOn
import Lean
import PyProof.EqAt
import PyProof.EqKinds
import PyProof.TupleCall
import PyProof.NeKinds
import PyProof.EnumMake
import PyProof.EnumStmt
import PyProof.LayNew
import KE.KDictLaws
import KE.KDictSum
import KE.LcSums
import PyProof.Rows.SumAny
import PyProof.Rows.SortWalk
import PyProof.DictWalks
import PyProof.Rows.SortRev
import KE.KRevIter
import KE.KIntText
import PyProof.CallStr
import PyProof.StrCalls2
import PyProof.Rows.StrJoin2
import PyProof.StrWalks
import PyProof.Rows.Range3
import PyProof.Rows.MatchSeqLen
import PyProof.Rows.SetFrom
import PyProof.SetRoads
import PyProof.TupleKey
import PyProof.IsRules
import PyProof.Rows.SortShell
import PyProof.Rows.SortRuns
import PySem.Challenge.RW_frameland_k54_no_room
set_option Elab.async false
set_option linter.all false
set_option genSizeOf false
set_option bootstrap.genMatcherCode false
set_option maxRecDepth 100000
set_option tactic.hygienic false
set_option compiler.extract_closed false
theorem ex1 {t0:Type} {p:t0->Prop} {G:Prop} (h:∃a,p a) (k:∀a,p a->G):G:=h.elim k
theorem ex2 {t0 t1:Type} {p:t0->t1->Prop} {G:Prop} (h:∃a b,p a b) (k:∀a b,p a b->G):G:=h.elim fun a h=>ex1 h (k a)
theorem ex3 {t0 t1 t2:Type} {p:t0->t1->t2->Prop} {G:Prop} (h:∃a b c,p a b c) (k:∀a b c,p a b c->G):G:=h.elim fun a h=>ex2 h (k a)
theorem ex4 {t0 t1 t2 t3:Type} {p:t0->t1->t2->t3->Prop} {G:Prop} (h:∃a b c d,p a b c d) (k:∀a b c d,p a b c d->G):G:=h.elim fun a h=>ex3 h (k a)
theorem ex5 {t0 t1 t2 t3 t4:Type} {p:t0->t1->t2->t3->t4->Prop} {G:Prop} (h:∃a b c d e,p a b c d e) (k:∀a b c d e,p a b c d e->G):G:=h.elim fun a h=>ex4 h (k a)
theorem ex6 {t0 t1 t2 t3 t4 t5:Type} {p:t0->t1->t2->t3->t4->t5->Prop} {G:Prop} (h:∃a b c d e f,p a b c d e f) (k:∀a b c d e f,p a b c d e f->G):G:=h.elim fun a h=>ex5 h (k a)
theorem ex7 {t0 t1 t2 t3 t4 t5 t6:Type} {p:t0->t1->t2->t3->t4->t5->t6->Prop} {G:Prop} (h:∃a b c d e f g,p a b c d e f g) (k:∀a b c d e f g,p a b c d e f g->G):G:=h.elim fun a h=>ex6 h (k a)
theorem ex8 {t0 t1 t2 t3 t4 t5 t6 t7:Type} {p:t0->t1->t2->t3->t4->t5->t6->t7->Prop} {G:Prop} (h:∃a b c d e f g h,p a b c d e f g h) (k:∀a b c d e f g h,p a b c d e f g h->G):G:=h.elim fun a h=>ex7 h (k a)
theorem ex9 {t0 t1 t2 t3 t4 t5 t6 t7 t8:Type} {p:t0->t1->t2->t3->t4->t5->t6->t7->t8->Prop} {G:Prop} (h:∃a b c d e f g h i,p a b c d e f g h i) (k:∀a b c d e f g h i,p a b c d e f g h i->G):G:=h.elim fun a h=>ex8 h (k a)
theorem ex10 {t0 t1 t2 t3 t4 t5 t6 t7 t8 t9:Type} {p:t0->t1->t2->t3->t4->t5->t6->t7->t8->t9->Prop} {G:Prop} (h:∃a b c d e f g h i j,p a b c d e f g h i j) (k:∀a b c d e f g h i j,p a b c d e f g h i j->G):G:=h.elim fun a h=>ex9 h (k a)
theorem ex11 {t0 t1 t2 t3 t4 t5 t6 t7 t8 t9 t10:Type} {p:t0->t1->t2->t3->t4->t5->t6->t7->t8->t9->t10->Prop} {G:Prop} (h:∃a b c d e f g h i j k,p a b c d e f g h i j k) (k:∀a b c d e f g h i j k,p a b c d e f g h i j k->G):G:=h.elim fun a h=>ex10 h (k a)
theorem ex12 {t0 t1 t2 t3 t4 t5 t6 t7 t8 t9 t10 t11:Type} {p:t0->t1->t2->t3->t4->t5->t6->t7->t8->t9->t10->t11->Prop} {G:Prop} (h:∃a b c d e f g h i j k l,p a b c d e f g h i j k l) (k:∀a b c d e f g h i j k l,p a b c d e f g h i j k l->G):G:=h.elim fun a h=>ex11 h (k a)
theorem ex13 {t0 t1 t2 t3 t4 t5 t6 t7 t8 t9 t10 t11 t12:Type} {p:t0->t1->t2->t3->t4->t5->t6->t7->t8->t9->t10->t11->t12->Prop} {G:Prop} (h:∃a b c d e f g h i j k l m,p a b c d e f g h i j k l m) (k:∀a b c d e f g h i j k l m,p a b c d e f g h i j k l m->G):G:=h.elim fun a h=>ex12 h (k a)
theorem ex14 {t0 t1 t2 t3 t4 t5 t6 t7 t8 t9 t10 t11 t12 t13:Type} {p:t0->t1->t2->t3->t4->t5->t6->t7->t8->t9->t10->t11->t12->t13->Prop} {G:Prop} (h:∃a b c d e f g h i j k l m n,p a b c d e f g h i j k l m n) (k:∀a b c d e f g h i j k l m n,p a b c d e f g h i j k l m n->G):G:=h.elim fun a h=>ex13 h (k a)
theorem ex15 {t0 t1 t2 t3 t4 t5 t6 t7 t8 t9 t10 t11 t12 t13 t14:Type} {p:t0->t1->t2->t3->t4->t5->t6->t7->t8->t9->t10->t11->t12->t13->t14->Prop} {G:Prop} (h:∃a b c d e f g h i j k l m n o,p a b c d e f g h i j k l m n o) (k:∀a b c d e f g h i j k l m n o,p a b c d e f g h i j k l m n o->G):G:=h.elim fun a h=>ex14 h (k a)
theorem ad2 {A0 A1 G:Prop} (h:A0/\A1) (k:A0->A1->G):G:=k h.1 h.2
theorem ad3 {A0 A1 A2 G:Prop} (h:A0/\A1/\A2) (k:A0->A1->A2->G):G:=ad2 h.2 (k h.1)
theorem ad4 {A0 A1 A2 A3 G:Prop} (h:A0/\A1/\A2/\A3) (k:A0->A1->A2->A3->G):G:=ad3 h.2 (k h.1)
theorem ad5 {A0 A1 A2 A3 A4 G:Prop} (h:A0/\A1/\A2/\A3/\A4) (k:A0->A1->A2->A3->A4->G):G:=ad4 h.2 (k h.1)
theorem ad6 {A0 A1 A2 A3 A4 A5 G:Prop} (h:A0/\A1/\A2/\A3/\A4/\A5) (k:A0->A1->A2->A3->A4->A5->G):G:=ad5 h.2 (k h.1)
theorem ad7 {A0 A1 A2 A3 A4 A5 A6 G:Prop} (h:A0/\A1/\A2/\A3/\A4/\A5/\A6) (k:A0->A1->A2->A3->A4->A5->A6->G):G:=ad6 h.2 (k h.1)
theorem ad8 {A0 A1 A2 A3 A4 A5 A6 A7 G:Prop} (h:A0/\A1/\A2/\A3/\A4/\A5/\A6/\A7) (k:A0->A1->A2->A3->A4->A5->A6->A7->G):G:=ad7 h.2 (k h.1)
theorem ad9 {A0 A1 A2 A3 A4 A5 A6 A7 A8 G:Prop} (h:A0/\A1/\A2/\A3/\A4/\A5/\A6/\A7/\A8) (k:A0->A1->A2->A3->A4->A5->A6->A7->A8->G):G:=ad8 h.2 (k h.1)
theorem ad10 {A0 A1 A2 A3 A4 A5 A6 A7 A8 A9 G:Prop} (h:A0/\A1/\A2/\A3/\A4/\A5/\A6/\A7/\A8/\A9) (k:A0->A1->A2->A3->A4->A5->A6->A7->A8->A9->G):G:=ad9 h.2 (k h.1)
theorem ad11 {A0 A1 A2 A3 A4 A5 A6 A7 A8 A9 A10 G:Prop} (h:A0/\A1/\A2/\A3/\A4/\A5/\A6/\A7/\A8/\A9/\A10) (k:A0->A1->A2->A3->A4->A5->A6->A7->A8->A9->A10->G):G:=ad10 h.2 (k h.1)
theorem ad12 {A0 A1 A2 A3 A4 A5 A6 A7 A8 A9 A10 A11 G:Prop} (h:A0/\A1/\A2/\A3/\A4/\A5/\A6/\A7/\A8/\A9/\A10/\A11) (k:A0->A1->A2->A3->A4->A5->A6->A7->A8->A9->A10->A11->G):G:=ad11 h.2 (k h.1)
theorem ad13 {A0 A1 A2 A3 A4 A5 A6 A7 A8 A9 A10 A11 A12 G:Prop} (h:A0/\A1/\A2/\A3/\A4/\A5/\A6/\A7/\A8/\A9/\A10/\A11/\A12) (k:A0->A1->A2->A3->A4->A5->A6->A7->A8->A9->A10->A11->A12->G):G:=ad12 h.2 (k h.1)
theorem ad14 {A0 A1 A2 A3 A4 A5 A6 A7 A8 A9 A10 A11 A12 A13 G:Prop} (h:A0/\A1/\A2/\A3/\A4/\A5/\A6/\A7/\A8/\A9/\A10/\A11/\A12/\A13) (k:A0->A1->A2->A3->A4->A5->A6->A7->A8->A9->A10->A11->A12->A13->G):G:=ad13 h.2 (k h.1)
theorem ad15 {A0 A1 A2 A3 A4 A5 A6 A7 A8 A9 A10 A11 A12 A13 A14 G:Prop} (h:A0/\A1/\A2/\A3/\A4/\A5/\A6/\A7/\A8/\A9/\A10/\A11/\A12/\A13/\A14) (k:A0->A1->A2->A3->A4->A5->A6->A7->A8->A9->A10->A11->A12->A13->A14->G):G:=ad14 h.2 (k h.1)
theorem ad16 {A0 A1 A2 A3 A4 A5 A6 A7 A8 A9 A10 A11 A12 A13 A14 A15 G:Prop} (h:A0/\A1/\A2/\A3/\A4/\A5/\A6/\A7/\A8/\A9/\A10/\A11/\A12/\A13/\A14/\A15) (k:A0->A1->A2->A3->A4->A5->A6->A7->A8->A9->A10->A11->A12->A13->A14->A15->G):G:=ad15 h.2 (k h.1)
open Lean in
def obC (s:Syntax):Option (Array Syntax):=
 if s.isOfKind `Lean.Parser.Tactic.rcasesPat.tuple then some s[1].getSepArgs else none
open Lean in
def obOne (s:Syntax):Option Syntax:=
 if s.isOfKind `Lean.Parser.Tactic.rcasesPatLo then
  if s[1].getNumArgs==0&&s[0][0].getSepArgs.size==1 then some s[0][0].getSepArgs[0]! else none
 else if s.isOfKind `Lean.Parser.Tactic.rcasesPatMed then
  if s[0].getSepArgs.size==1 then some s[0].getSepArgs[0]! else none
 else none
open Lean in
def obId (s:Syntax):Option Ident:=
 match obOne s with
 |some q=>if q.isOfKind `Lean.Parser.Tactic.rcasesPat.one&&q[0].isIdent&&q[0].getId != `rfl then some ⟨q[0]⟩
   else if q.isOfKind `Lean.Parser.Tactic.rcasesPat.ignore then some (mkIdent `_h) else none
 |none=>none
open Lean in
def obGo (cs:Array Syntax) (e:Term) (first:Bool):MacroM (TSyntax `tactic):=do
 let lo:Array (TSyntax `Lean.Parser.Tactic.rcasesPatLo):=cs.map fun x=>⟨x⟩
 let whole<-`(tactic|rcases $e:term with ⟨$lo,*⟩)
 let n:=cs.size
 if n<3 then return whole
 let R:=mkIdent `zr
 let ids:=(cs.toList.takeWhile fun c=>(obId c).isSome).toArray.map fun c=>(obId c).get!
 let m:=ids.size
 let more (k:Nat) (r:Term):MacroM (TSyntax `tactic):=do
  let q:=lo.extract k n
  `(tactic|obtain ⟨$q,*⟩:=$r)
 let cl<-if e.raw.isIdent then `(tactic|try clear $(⟨e.raw⟩):ident) else `(tactic|skip)
 if m<2 then
  let k:=m+1
  if n-k<2 then return whole
  let pre:=lo.extract 0 k
  let t<-more k R
  return<-`(tactic|(rcases $e:term with ⟨$pre,*,$R:ident⟩<;>$t))
 let mut alts:Array (TSyntax `Lean.Parser.Tactic.tacticSeq):=#[]
 for pre in ["ex","ad"] do
  let lim:=if pre=="ex" then 16 else 16
  for d in [0:m] do
   let j:=m-d
   if j<2||lim<j+1 then continue
   let j:=if j==n then n-1 else j
   let f:=mkIdent (.mkSimple (pre++toString (if pre=="ex" then j else j+1)))
   let rest:=cs.extract j n
   let (r,t)<-do
    if rest.size==1 then match obId rest[0]! with
     |some i=>pure (i,<-`(tactic|skip))
     |none=>pure (R,<-`(tactic|rcases $R:ident with $(⟨rest[0]!⟩):rcasesPatLo))
    else pure (R,<-more j R)
   let xs:=(ids.extract 0 j).push r
   let ts<-`(Lean.Parser.Tactic.tacticSeq|refine $f $e ?_;$cl:tactic;intro $[$xs:ident]*;$t:tactic)
   if !(d==1&&m==n) then alts:=alts.push ts
 alts:=alts.push (<-`(Lean.Parser.Tactic.tacticSeq|$whole:tactic))
 `(tactic|first $[|$alts]*)
open Lean in
local macro_rules|`(tactic|obtain $p:rcasesPatMed:=$e)=>do
 match obOne p >>= obC with
 |some cs=>if cs.size<4 then Macro.throwUnsupported else obGo cs e true
 |none=>Macro.throwUnsupported
@[elab_as_elim] theorem rwL {α:Sort _} {a b:α} {motive:α->Prop} (h:a=b) (m:motive b):motive a:=h▸m
@[elab_as_elim] theorem rwR {α:Sort _} {a b:α} {motive:α->Prop} (h:b=a) (m:motive b):motive a:=h▸m
local macro_rules|`(tactic|erw[$e:term])=>`(tactic|first|refine rwL ($e ..) ?_|rewrite[$e:term])|`(tactic|erw[←$e:term])=>`(tactic|first|refine rwR ($e ..) ?_|rewrite[←$e])
local macro_rules|`(tactic|rw[$r])=>`(tactic|(erw[$r];try with_reducible rfl))|`(tactic|rw[$r,$rs,*])=>`(tactic|(erw[$r];rw[$rs,*]))
open Lean in
def cv:Nat->Syntax->MacroM (TSyntaxArray `rcasesPat)
|0,_=>Macro.throwUnsupported
|n+1,s=>do match s with
 |`($a||$b)=>return (<-cv n a)++(<-cv n b)
 |`(($a,$b,*))=>do
  let ps<-(#[a]++b.getElems).mapM fun x=>do
   let q<-cv n x
   `(Lean.Parser.Tactic.rcasesPatLo|$[$q:rcasesPat]|*)
  return #[<-`(rcasesPat|⟨$ps,*⟩)]
 |`(_)=>return #[<-`(rcasesPat|_)]
 |`($x:ident)=>return #[<-`(rcasesPat|$x:ident)]
 |_=>Macro.throwUnsupported
local macro_rules|`(tactic|let $p:term:=$e)=>do
 let q<-cv 9 p
 `(tactic|obtain $[$q:rcasesPat]|*:=$e)
local macro_rules|`(tactic|let $i:letId $b* $[:$t]?:=$e)=>`(tactic|have $i:letId $b* $[:$t]?:=$e)
local macro_rules|`(!$x)=>`(List $x)
local macro_rules|`($a > $b)=>`($a=some $b)
local macro_rules|`(let $i:letId $b* $[:$t]?:=$e;$r)=>`(have $i:letId $b* $[:$t]?:=$e;$r)
local macro_rules|`(tactic|show $e)=>`(tactic|refine $e)
open Sum (inl inr)
local macro_rules|`(↑$x:ident)=>`(some (.ref $x:ident))
local macro_rules|`(-$x:ident)=>`(($x:ident).mono (by decide))
local macro_rules|`(($a,$b,$c,$d,*))=>`(⟨$a,$b,$c,$d,*⟩)|`(($a,$b,$c))=>`(⟨$a,$b,$c⟩)
local macro_rules|`(abbrev $i:declId $s:optDeclSig $v:declVal)=>`(noncomputable abbrev $i:declId $s:optDeclSig $v:declVal)
local macro_rules|`(())=>`((rfl,rfl,rfl,by decide+kernel,rfl,by decide+kernel,by decide+kernel))
local macro_rules|`(#[$n:num,$b])=>`([(nat_lit $n,$b)])|`(#[$n:num,$b,$c,*])=>`((nat_lit $n,$b)::#[$c,*])
local macro_rules|`(def $i:declId $s:optDeclSig $v:declVal)=>`(noncomputable def $i:declId $s:optDeclSig $v:declVal)
local macro_rules | `(tactic| omega) => `(tactic| first | with_reducible assumption | decide | lia | omega (config := {}))
def aA:=@List.mem_map
def bA:=@List.mem_singleton
def cA:=@List.mem_cons_self
def dA:=@List.length_map
def fA:=@PySem.wpAny_bind
def gA:=@if_neg
def iA:=@if_pos
def jA:=@List.mem_append
def kA:=@List.mem_cons_of_mem
def nA:=@List.map_append
def pA:=@List.mem_cons
def qA:=@decide_eq_true
def rA:=@List.map_cons
def uA:=@List.mem_append_right
def vA:=@Nat.le_refl
def wA:=@List.map_map
def xA:=@List.length_append
def yA:=@Option.some.inj
def zA:=@Bool.false_ne_true
def AA:=@PySem.Heap.get?_push_of_some
def BA:=@PySem.wpAny_pure
def CA:=@List.mem_append_left
def DA:=@List.mem_filter
def EA:=@List.nodup_append
def FA:=@PySem.Heap.lt_size
def GA:=@List.getElem?_eq_getElem
def HA:=@decide_eq_false
def IA:=@List.map_congr_left
def JA:=@List.getElem?_eq_some_iff
def KA:=@Nat.lt_of_lt_of_le
def LA:=@List.size_toArray
def MA:=@PySem.Heap.get?_push_size
def NA:=@List.nodup_cons
def OA:=@Bool.and_eq_true
def QA:=@List.mem_of_getElem?
def SA:=@Bool.false_eq_true
def UA:=@decide_eq_true_eq
def VA:=@of_decide_eq_true
def WA:=@List.not_mem_nil
def XA:=@Nat.ne_of_lt
def YA:=@List.mem_of_find?_eq_some
def ZA:=@List.append_assoc
def aB:=@List.count_append
def bB:=@List.take_add_one
def cB:=@List.length_take
def fB:=@PySem.Heap.get?_update_other
def gB:=@List.length_cons
def iB:=@List.take_length
def jB:=@PySem.PassesOwn.leaving
def kB:=@Sum.inl.inj
def mB:=@List.filter_cons
def pB:=@List.getElem?_map
def qB:=@List.length_filter_le
def rB:=@Bool.eq_iff_iff
def sB:=@PyProof.Rows.boot_isinstance
def uB:=@List.find?_eq_none
def vB:=@Array.length_toList
def wB:=@List.filter_cons_of_neg
def xB:=@List.getD_eq_getElem?_getD
def yB:=@List.mem_range
def zB:=@List.pairwise_singleton
def AB:=@PySem.wpAny_mono
def BB:=@List.length_range
def CB:=@List.pairwise_map
def DB:=@List.pairwise_append
def EB:=@List.map_nil
def FB:=@Nat.le_trans
def GB:=@Option.map_eq_some_iff
def HB:=@if_false
def IB:=@List.length_singleton
def JB:=@List.filter_cons_of_pos
def KB:=@List.getElem?_append_right
def LB:=@List.getLast?_concat
def MB:=@List.append_nil
def NB:=@List.find?_some
def OB:=@PySem.Calls.callWith_builtin
def PB:=@PySem.BindsTo.of_defaults
def QB:=@Int.le_refl
def SB:=@Int.toNat_natCast
def UB:=@PySem.Heap.get?_update_self
def VB:=@List.length_replicate
def WB:=@List.filter_append
def XB:=@beq_iff_eq
def YB:=@List.count_singleton
def ZB:=@PySem.wpAny_holding
def aC:=@PyProof.Rows.boot_list
def bC:=@PySem.wpAny_truthy_bool
def cC:=@List.filter_eq_self
def dC:=@List.filter_sublist
def eC:=@List.replicate_succ
def fC:=@beq_eq_false_iff_ne
def gC:=@List.filter_map
def iC:=@Array.getElem?_eq_getElem
def jC:=@Array.getElem?_toList
def kC:=@PySem.tupleKind_room_in1
def lC:=@PySem.Calls.evalArgs_plain
def mC:=@PySem.wpAny_typeNameOfWhole_keyiter
def nC:=@List.filter_congr
def oC:=@List.flatten_cons
def pC:=@List.take_sublist
def qC:=@List.filterMap_cons
def rC:=@congrFun
def sC:=@Array.getD_eq_getD_getElem?
def uC:=@List.take_of_length_le
def vC:=@Nat.lt_irrefl
def wC:=@List.length_drop
def xC:=@List.lookup_cons
def yC:=@List.mem_flatten
def zC:=@Bool.false_and
def AC:=@PySem.Calls.spliced_cons
def BC:=@or_false
def CC:=@PySem.wpAny_Call_Name_kw
def DC:=@Option.map_some
local macro_rules|`(⋯)=>`(by omega)
local macro_rules|`(∅)=>`(by decide+kernel)
local macro_rules|`(tactic|rfl')=>`(tactic|walk_at "wp")
namespace Hd
open PySem PySem.W PySem.Calls PyProof.Rows
def bH (tb:String->Option Builtin) (p:Program) (w:World) (n0:Nat) (ann:Option Value):Nat->SharedT->Thread->Option SharedT
 |0,_,_=>none
 |n+1,s,t=>match through t with
  |true=>some s
  |false=>match stepOk n0 ann t with
   |false=>none
   |true=>match stepT (denote tb) p w s t with
    |some (s',t')=>bH tb p w n0 ann n s' t'
    |none=>none
theorem gc {tb:String->Option Builtin} {p:Program} {w:World} {n0:Nat} {ann:Option Value}:∀{n:Nat} {s r:SharedT} {t:Thread},bH tb p w n0 ann n s t>r->topRun tb p w n0 ann n s.abs t>r.abs
 |0,_,_,_,h=>by cases h
 |n+1,s,r,t,h=>by
  unfold bH at h;unfold topRun;cases he:through t with
  |true=>rw[he] at h;cases h;rfl
  |false=>
   rw[he] at h;cases hk:stepOk n0 ann t with
   |false=>rw[hk] at h;cases h
   |true=>
    rw[hk] at h;cases hs:stepT (denote tb) p w s t with
    |none=>rw[hs] at h;cases h
    |some x=>let(s2,t2):=x;rw[hs] at h;rw[stepT_spec hs];show gc h
def fQ:!Obj->Nat->BT->BT
 |[],_,t=>t
 |o::l,n,t=>fQ l (n+1) (t.ins n o)
def gQ (P:Params):BT:=fQ (boot_heap P).objs.toList 0 .nil
def NG (w:World) (os:OsState):SharedT:=(gQ w.params,(boot_heap w.params).objs.size,(boot_heap w.params).life, #[],boot_drawn,boot_toks,os)
theorem xm (w:World) (j:OsState):(NG w j).abs=(boot_heap w.params, #[],boot_drawn,boot_toks,j):=by kernel_rfl
theorem ym (w:World):((boot_heap w.params).isNs mainGlobals&&(#[]:Array GenState).size == 0)=true:=by kernel_rfl
abbrev DF (w:World):Option Value:=(boot_heap w.params).nsMap mainGlobals "__annotations__"
def look {α:Type} (p:Program) (Yf:Shared->α) (H0:Heap) (s:Shared):Bool×α:=
 (staticsOk (importedModules p.main.body) H0 s.heap&&namesBound p s.heap&&gensDone s&&laidKept H0 s.heap,Yf s)
def ic (p:Program) (N:Nat) (w:World) (os:OsState):Option SharedT:=bH treeTable p w (boot_heap w.params).objs.size (DF w) N (NG w os) (topStub p)
def jU {α:Type} (p:Program) (Yf:Shared->α) (N:Nat) (w:World) (os:OsState):=(ic p N w os).map λs=>look p Yf (boot_heap w.params) s.abs
def kU (p q:Program) (loose:!Str) (Xt:Shared->Bool) (N:Nat) (w:World) (os:OsState):=(ic p N w os).map λs=>openSeen q loose (importedModules p.main.body) Xt true s.abs
end Hd
namespace Hd
open PySem PySem.W
def jc:Nat->Nat->!Nat
 |0,_=>[]
 |k+1,n=>match Nat.beq n 0 with
  |true=>[]
  |false=>Nat.sub (n % 256) 1::jc k (n / 256)
def S (n:Nat):Str:=⟨⟨jc 200 n⟩⟩
def zm (P:Params) (x:Str) (t:Nat) (v:Value):DictEntry:=(PyData.keyHash P x,.str x t,v)
def dO (n:Nat) (l:!DictEntry):Obj:=(.type "dict",none,.dict ⟨l⟩ n, #[])
def tO (l:!Value):Obj:=(.type "tuple",none,.seq ⟨l⟩ 0, #[])
def cO (l:!Value):Obj:=(.type "code",none,.fields ⟨l⟩, #[])
end Hd
namespace Hd
open PySem PySem.W PySem.Calls PyProof.Rows
def yO (tb:String->Option Builtin) (p:Program) (w:World) (n0:Nat) (ann:Option Value):Nat->SharedT->Thread->Option (SharedT×Thread)
 |0,s,t=>some (s,t)
 |n+1,s,t=>match through t with
  |true=>none
  |false=>match stepOk n0 ann t with
   |false=>none
   |true=>match stepT (denote tb) p w s t with
    |some (s',t')=>yO tb p w n0 ann n s' t'
    |none=>none
theorem lc {tb:String->Option Builtin} {p:Program} {w:World} {n0:Nat} {ann:Option Value}:∀{n:Nat} {s s':SharedT} {t t':Thread},yO tb p w n0 ann n s t>(s',t')->topGo tb p w n0 ann n s.abs t>(s'.abs,t')
 |0,_,_,_,_,h=>by cases h;rfl
 |n+1,s,s',t,t',h=>by
  unfold yO at h;unfold topGo;cases he:through t with
  |true=>rw[he] at h;cases h
  |false=>
   rw[he] at h;cases hk:stepOk n0 ann t with
   |false=>rw[hk] at h;cases h
   |true=>
    rw[hk] at h;cases hs:stepT (denote tb) p w s t with
    |none=>rw[hs] at h;cases h
    |some x=>let(s2,t2):=x;rw[hs] at h;rw[stepT_spec hs];show lc h
theorem MM {F:String->Option Builtin} {p:Program} {w:World} {D:Nat} {j:Option Value} {env:Env} {q:Pos} {n N i:Nat} {s s':SharedT} {r:Shared} {l:!Stmt} {c:Code} {pos J:Pos} (h:segRunT F p w D j 1 n s (piecesOf (l.take i) env c pos [topFrame q])>(.next,(s',(c,J))))
  (k:topRun F p w D j N s'.abs (restOf (l.drop i) env c J [topFrame q])>r):topRun F p w D j (n+N) s.abs (restOf l env c pos [topFrame q])>r:=by
 have:=piece_app (segRun_of h) k;rwa[List.take_append_drop] at this
theorem Qm {p q:Program} {loose:!Str} {Xt:Shared->Bool} {F:Type} {Yf:Shared->F} {Ya:World->F} {N Nl:Nat} {S:World->OsState->SharedT} {t:Thread}
  (e:opening p=plainProg p.main.scope.names) (U:Nat.ble 600 N=true) (f:∀s,fenceModules? p s>s)
  (lQ:∀(w:World) (j:OsState) (r:Shared),topRun treeTable p w (boot_heap w.params).objs.size (DF w) Nl (S w j).abs t>r->topRun treeTable p w (boot_heap w.params).objs.size (DF w) N (NG w j).abs (topStub p)>r)
  (one:∀(w:World) (j:OsState),(bH treeTable p w (boot_heap w.params).objs.size (DF w) Nl (S w j) t).map (λs=>look p Yf (boot_heap w.params) s.abs)>(true,Ya w))
  (two:∀(w:World) (j:OsState),(bH treeTable p w (boot_heap w.params).objs.size (DF w) Nl (S w j) t).map (λs=>openSeen q loose (importedModules p.main.body) Xt true s.abs)>(openGood q loose)):LeftO p q loose Xt Yf Ya N:=λw=>by
 let((h,O,d,k,j),J,L):=GB.mp (boot_open e U f w);obtain⟨rfl,rfl,rfl,rfl⟩:h=boot_heap w.params/\O= #[]/\d=boot_drawn/\k=boot_toks:=by simpa using L
 let(D,r,l):=GB.mp (one w j);let(a0,Z,W):=GB.mp (two w j);obtain rfl:D=a0:=yA (r.symm.trans Z);let r:=lQ w j _ (gc r);rw[xm] at r;obtain⟨V,Y⟩:_/\_:=by simpa only[look,Prod.mk.injEq] using l
 let t:topFrom treeTable p w N (boot_heap w.params, #[],boot_drawn,boot_toks,j)>D.abs:=by
  unfold topFrom;dsimp only;rw[ym w,r];change (match staticsOk (importedModules p.main.body) (boot_heap w.params) D.abs.heap&&namesBound p D.abs.heap&&gensDone D.abs&&laidKept (boot_heap w.params) D.abs.heap with|true=>_|false=>_)=_;rw[V]
 unfold openEnds;rw[J];change (topFrom treeTable p w N _).map _=_;rw[t];show congrArg some (Prod.ext W Y)
end Hd
namespace Hd
open PySem PySem.W PySem.Calls PyProof.Rows
theorem tw_run:(λ(_:(String->Option Builtin)->Program->World->Nat->Option Value->Nat->SharedT->Thread->Option SharedT)=>true) bH=true:=by k_qdec
theorem tw_go:(λ(_:(String->Option Builtin)->Program->World->Nat->Option Value->Nat->SharedT->Thread->Option (SharedT×Thread))=>true) yO=true:=by k_qdec
theorem tw_boot:(λ(_:World->OsState->SharedT) (_:World->Option Value)=>true) NG DF=true:=by k_qdec
theorem tw_look:(λ(_:{α:Type}->Program->(Shared->α)->Heap->Shared->Bool×α)=>true) @look=true:=by k_qdec
theorem tw_once:(λ(_:{α:Type}->Program->(Shared->α)->Nat->World->OsState->Option (Bool×α))=>true) @jU=true:=by k_qdec
theorem tw_seen:(λ(_:Program->Program->!Str->(Shared->Bool)->Nat->World->OsState->Option _)=>true) kU=true:=by k_qdec
end Hd
namespace L2
open PySem
def FC (s:Stmt) (j:Nat):Stmt:=match s with
 |.ClassDef _ _ _ body _ _ _ _ _ _ _=>body.getD j (.Pass (0,0,0,0))
 |_=>.Pass (0,0,0,0)
def cD (s:Stmt):Arguments:=match s with
 |.FunctionDef _ a _ _ _ _ _ _ _ _=>a
 |_=>{posonlyargs:=[],args:=[],vararg:=none,kwonlyargs:=[],kw_defaults:=[],kwarg:=none,defaults:=[]}
def aD (s:Stmt):!Stmt:=match s with
 |.FunctionDef _ _ b _ _ _ _ _ _ _=>b
 |_=>[]
def EC (s:Stmt):Scope:=match s with
 |.FunctionDef _ _ _ _ _ _ sc _ _ _=>sc
 |_=>{kind:=.function,names:=[],isGenerator:=false,isCoroutine:=false}
end L2
def PySem.W.Fast.tw8259737353446948377:PySem.Program:=PySem.Challenge.pw_frameland_k54_no_room
theorem PySem.W.Fast.te8259737353446948377:PySem.Challenge.pw_frameland_k54_no_room=PySem.W.Fast.tw8259737353446948377:=rfl
namespace Pf
open PySem L2
def RC (i:Nat):Stmt:=PySem.Challenge.pw_frameland_k54_no_room.main.body.getD i (.Pass (0,0,0,0))
noncomputable section
open Hd
def z0:Nat:=693238193538106869013608157775379115729689029137841358660205
def z1:Nat:=27127582262911072
def z2:Nat:=9700865007064396754801562313776
def z3:Nat:=469986605152
def z4:Nat:=545146499936607105348423
def z5:Nat:=28835115112362063
def z6:Nat:=2037243915540886812240
def z7:Nat:=2148282720731175150147
def z8:Nat:=119247121772623
def z9:Nat:=119225645756495
def aO:Nat:=2000274411557569787472
def bO:Nat:=478459748949
def eO:Nat:=1870502957375938719823
def gO:Nat:=33048469456515151
def iO:Nat:=121429199908943
def OO:Nat:=7380678962623575146
def QO:Nat:=2055256381122481779818
def RO:Nat:=36042203234783605173055285604
def SO:Nat:=113732351258470
def UO:Nat:=7957987429399816821
def VO:Nat:=29115482190865009
def WO:Nat:=31367281986924648
def lX:Nat:=483571264869516729017965
def mX:Nat:=34807946493563893454802022513
def nX:Nat:=2360876520579034574696528942098788
def pX:Nat:=36328676245180164783460216160
def qX:Nat:=483700176494498687380832
def rX:Nat:=139510372636256701339823456
def sX:Nat:=140785078389220449424928096
def tX:Nat:=135892597258057197952331104
def XF:Nat:=455125450472104437637216
def lF:Nat:=154789842426610354947036250589871895399
def YF:Nat:=500416517772168279997240570217455712
def ZF:Nat:=140854816109632365363434125429399349832812124725344
def KJ:Nat:=116512133262362862868258912
def KL:Nat:=128047628446323
def iG:Nat:=2595807759375494792423391711955702693320880999
def mH:Nat:=1718116977
def gI:Nat:=504464894567
def QD:Nat:=1735222900
def LL:Nat:=6944679725401530464
def CH:Nat:=2054120046
def XO:Nat:=435727529576
def YS:Nat:=2165357850485127146099
def LJ:Nat:=1819239011
def ML:Nat:=6944679699547512928
def YO:Nat:=126883592042095
def vG:Nat:=531976422797234828493252396058833767
def jG:Nat:=1819566709
def ZS:Nat:=7814979509663852143
def aT:Nat:=7814979509662609254
def bT:Nat:=7813572057470887535
def cT:Nat:=2000274446712430424933
def jO:Nat:=32779080669947234
def fT:Nat:=2166657694140852363893
def iT:Nat:=2166657694140852036195
def jT:Nat:=32012811197779588502284105076
def RF:Nat:=604546409002214677880256391643558759
def ZO:Nat:=499934323313
def iI:Nat:=154722361499902317960303193115794240359
def uX:Nat:=549831755963574708759904
def vX:Nat:=526145126919991160106336
def wX:Nat:=140789800901245673238850912
def uJ:Nat:=29827101539148240018006499424
def s (n t:Nat):Value:=.str (S n) t
def i (n:Int):Value:=.int n 0
def e (P:Params) (n t:Nat) (v:Value):DictEntry:=zm P (S n) t v
def cQ' (a b t:Nat) (l n:Int) (r m:Nat):Obj:=cO [s a t,s b (t+1),s z2 (t+2),i l,i n,i 0,i 0,i 3,.ref r,.bool true,i 181,.ref (r+1),.none,.ref (r+2),.ref (r+3),.ref (r+4),i m,i l,s z2 (m+1)]
def cR' (a b t:Nat) (l:Int) (r m:Nat):Obj:=cO [s a t,s b (t+1),s z2 (t+2),i l,i 0,i 0,i 0,i 0,.ref r,.bool false,i 181,.ref (r+1),.none,.none,.none,.none,i m,i l,s z2 (m+1)]
def fO (a b:String) (x:Stmt) (m r:Value):Obj:=(.type "function",none,.func (W.fnOf (Str.ofString a) (Str.ofString b) (cD x) (aD x) (EC x) .none .none .none m none r .none), #[])
def kP' (n:String) (b m:!Value) (d:Nat) (u:!Value) (x y v w:Nat):Obj:=(.type "type",none,.cls {name:=Str.ofString n,bases:=b,mro:=m,ns:=d,qualname:=Str.ofString n,hasDict:=true,slotNames:=[],subclasses:=u,abstract:=false,collection:=none,hasDel:=false}, #[none,none,some (s x y),some (s v w),some (.builtin "object.__new__"),some (.bool true)])
def fP' (a:String) (x:Stmt) (m:Value) (r:Nat):Obj:=fO a a x m (.ref r)
def o2:Obj:=(.none,none,.dict ⟨[]⟩ 0, #[])
def o3 (P:Params):Obj:=dO 53 [e P 6944663249689206880 165 (s z0 1234),e P z1 166 .none,e P 116512114954948911152848992 167 .none,e P 455126385231797511086176 168 (.builtin "__main__.__loader__#opaque"),e P 6944661016558198880 169 .none,e P 500416834696884185539869749159288928 170 (.ref 6),e P 29827167671303893903271485536 171 (.ref 4),e P 6944663245527933024 173 (s z2 172),e P 455125376429887381069920 174 .none,e P z3 193 (.ref 21),e P 1161971283 195 (.int (1) 194),e P 302078645080 197 (.int (2) 196),e P z4 217 (.ref 31),e P z5 233 (.ref 44),e P z6 249 (.ref 56),e P z7 265 (.ref 68),e P z8 281 (.ref 80),e P z9 297 (.ref 92),e P aO 313 (.ref 104),e P bO 329 (.ref 116),e P eO 345 (.ref 128),e P gO 361 (.ref 140),e P iO 377 (.ref 152),e P OO 386 (.ref 161),e P QO 395 (.ref 168),e P 101952521820057743536705614 399 (.int (3) 398),e P RO 406 (.ref 175),e P SO 413 (.ref 182),e P UO 422 (.ref 189),e P VO 432 (.ref 196),e P WO 440 (.ref 203),e P 111490630316139 450 (.ref 210),e P 2147201852470124049748 605 (.ref 327),e P 23616678805231350591419338830 609 (.int (64) 608),e P lX 617 (.ref 338),e P 440040583241 828 (.ref 494),e P 500069068883 1095 (.ref 689),e P 380423630684598931079812568447209550 1099 (.int (64) 1098),e P mX 1108 (.ref 700),e P nX 1117 (.ref 707),e P 439988939092 1233 (.ref 794),e P pX 1243 (.ref 805),e P 2166583389145247411552 1253 (.ref 812),e P qX 1261 (.ref 819),e P rX 1272 (.ref 826),e P 8819856081844071776 1280 (.ref 833),e P sX 1286 (.ref 838),e P 2000566622136419118432 1296 (.ref 845),e P tX 1306 (.ref 852),e P 2165720945418559450464 1318 (.ref 859),e P 2054967305178938764640 1324 (.ref 864),e P 2055908558600570826080 1330 (.ref 869),e P 7889517 1336 (.ref 874)]
def NC:Obj:=tO []
def di:Obj:=tO [s 108 190]
def ei:Obj:=cQ' z3 z3 187 1 1 15 191
def fi:Obj:=fP' "_wall" (RC 0) (s 6944673128113922144 164) 20
def gi:Obj:=((.type "tuple"),none,.seq #[(.type "ValueError")] 0, #[])
def zG:Obj:=((.type "tuple"),none,.seq #[] 0, #[])
def ii (P:Params):Obj:=dO 3 [e P XF 207 (s lF 198),e P YF 211 (.int (7) 210),e P ZF 212 (.ref 29),e P KJ 214 (.ref 32),e P z1 215 .none]
def ji:Obj:=((.type "type"),none,.cls {name:=(Str.ofString "FrameError"),bases:=[(.type "ValueError")],mro:=[.ref 31,(.type "ValueError"),(.type "Exception"),(.type "BaseException"),(.type "object")],ns:=30,qualname:=(Str.ofString "FrameError"),hasDict:=true,slotNames:=[],subclasses:=[.ref 44,.ref 56,.ref 68,.ref 80,.ref 92,.ref 104,.ref 116,.ref 128,.ref 140,.ref 152],abstract:=false,collection:=none,hasDel:=false}, #[(some (.ref 22)),none,(some (s z4 200)),(some (s z4 208)),(some (.builtin "ValueError.__new__")),(some (.bool true))])
def ki:Obj:=((.type "getset_descriptor"),none,.fields ⟨[s KJ 213,.ref 31,(.builtin "ExceptionGroup.__weakref__"),.none]⟩, #[])
def RG:Obj:=((.type "tuple"),none,.seq #[.ref 31] 0, #[])
def li (P:Params):Obj:=dO 2 [e P XF 225 (s lF 198),e P YF 229 (.int (9) 228),e P ZF 230 (.ref 42),e P z1 231 .none]
def mi:Obj:=((.type "type"),none,.cls {name:=(Str.ofString "NoShape"),bases:=[.ref 31],mro:=[.ref 44,.ref 31,(.type "ValueError"),(.type "Exception"),(.type "BaseException"),(.type "object")],ns:=43,qualname:=(Str.ofString "NoShape"),hasDict:=true,slotNames:=[],subclasses:=[],abstract:=false,collection:=none,hasDel:=false}, #[(some (.ref 35)),none,(some (s z5 218)),(some (s z5 226)),(some (.builtin "ValueError.__new__")),(some (.bool true))])
def ni (P:Params):Obj:=dO 2 [e P XF 241 (s lF 198),e P YF 245 (.int (11) 244),e P ZF 246 (.ref 54),e P z1 247 .none]
def oi:Obj:=((.type "type"),none,.cls {name:=(Str.ofString "OutOfRoom"),bases:=[.ref 31],mro:=[.ref 56,.ref 31,(.type "ValueError"),(.type "Exception"),(.type "BaseException"),(.type "object")],ns:=55,qualname:=(Str.ofString "OutOfRoom"),hasDict:=true,slotNames:=[],subclasses:=[],abstract:=false,collection:=none,hasDel:=false}, #[(some (.ref 47)),none,(some (s z6 234)),(some (s z6 242)),(some (.builtin "ValueError.__new__")),(some (.bool true))])
def qi (P:Params):Obj:=dO 2 [e P XF 257 (s lF 198),e P YF 261 (.int (13) 260),e P ZF 262 (.ref 66),e P z1 263 .none]
def si:Obj:=((.type "type"),none,.cls {name:=(Str.ofString "BadRights"),bases:=[.ref 31],mro:=[.ref 68,.ref 31,(.type "ValueError"),(.type "Exception"),(.type "BaseException"),(.type "object")],ns:=67,qualname:=(Str.ofString "BadRights"),hasDict:=true,slotNames:=[],subclasses:=[],abstract:=false,collection:=none,hasDel:=false}, #[(some (.ref 59)),none,(some (s z7 250)),(some (s z7 258)),(some (.builtin "ValueError.__new__")),(some (.bool true))])
def ui (P:Params):Obj:=dO 2 [e P XF 273 (s lF 198),e P YF 277 (.int (15) 276),e P ZF 278 (.ref 78),e P z1 279 .none]
def vi:Obj:=((.type "type"),none,.cls {name:=(Str.ofString "NoTask"),bases:=[.ref 31],mro:=[.ref 80,.ref 31,(.type "ValueError"),(.type "Exception"),(.type "BaseException"),(.type "object")],ns:=79,qualname:=(Str.ofString "NoTask"),hasDict:=true,slotNames:=[],subclasses:=[],abstract:=false,collection:=none,hasDel:=false}, #[(some (.ref 71)),none,(some (s z8 266)),(some (s z8 274)),(some (.builtin "ValueError.__new__")),(some (.bool true))])
def xi (P:Params):Obj:=dO 2 [e P XF 289 (s lF 198),e P YF 293 (.int (17) 292),e P ZF 294 (.ref 90),e P z1 295 .none]
def yi:Obj:=((.type "type"),none,.cls {name:=(Str.ofString "NoBank"),bases:=[.ref 31],mro:=[.ref 92,.ref 31,(.type "ValueError"),(.type "Exception"),(.type "BaseException"),(.type "object")],ns:=91,qualname:=(Str.ofString "NoBank"),hasDict:=true,slotNames:=[],subclasses:=[],abstract:=false,collection:=none,hasDel:=false}, #[(some (.ref 83)),none,(some (s z9 282)),(some (s z9 290)),(some (.builtin "ValueError.__new__")),(some (.bool true))])
def bR (P:Params):Obj:=dO 2 [e P XF 305 (s lF 198),e P YF 309 (.int (19) 308),e P ZF 310 (.ref 102),e P z1 311 .none]
def cR:Obj:=((.type "type"),none,.cls {name:=(Str.ofString "OutOfBank"),bases:=[.ref 31],mro:=[.ref 104,.ref 31,(.type "ValueError"),(.type "Exception"),(.type "BaseException"),(.type "object")],ns:=103,qualname:=(Str.ofString "OutOfBank"),hasDict:=true,slotNames:=[],subclasses:=[],abstract:=false,collection:=none,hasDel:=false}, #[(some (.ref 95)),none,(some (s aO 298)),(some (s aO 306)),(some (.builtin "ValueError.__new__")),(some (.bool true))])
def dR (P:Params):Obj:=dO 2 [e P XF 321 (s lF 198),e P YF 325 (.int (21) 324),e P ZF 326 (.ref 114),e P z1 327 .none]
def eR:Obj:=((.type "type"),none,.cls {name:=(Str.ofString "Taken"),bases:=[.ref 31],mro:=[.ref 116,.ref 31,(.type "ValueError"),(.type "Exception"),(.type "BaseException"),(.type "object")],ns:=115,qualname:=(Str.ofString "Taken"),hasDict:=true,slotNames:=[],subclasses:=[],abstract:=false,collection:=none,hasDel:=false}, #[(some (.ref 107)),none,(some (s bO 314)),(some (s bO 322)),(some (.builtin "ValueError.__new__")),(some (.bool true))])
def fR (P:Params):Obj:=dO 2 [e P XF 337 (s lF 198),e P YF 341 (.int (23) 340),e P ZF 342 (.ref 126),e P z1 343 .none]
def gR:Obj:=((.type "type"),none,.cls {name:=(Str.ofString "NotMapped"),bases:=[.ref 31],mro:=[.ref 128,.ref 31,(.type "ValueError"),(.type "Exception"),(.type "BaseException"),(.type "object")],ns:=127,qualname:=(Str.ofString "NotMapped"),hasDict:=true,slotNames:=[],subclasses:=[],abstract:=false,collection:=none,hasDel:=false}, #[(some (.ref 119)),none,(some (s eO 330)),(some (s eO 338)),(some (.builtin "ValueError.__new__")),(some (.bool true))])
def iR (P:Params):Obj:=dO 2 [e P XF 353 (s lF 198),e P YF 357 (.int (25) 356),e P ZF 358 (.ref 138),e P z1 359 .none]
def jR:Obj:=((.type "type"),none,.cls {name:=(Str.ofString "NoRight"),bases:=[.ref 31],mro:=[.ref 140,.ref 31,(.type "ValueError"),(.type "Exception"),(.type "BaseException"),(.type "object")],ns:=139,qualname:=(Str.ofString "NoRight"),hasDict:=true,slotNames:=[],subclasses:=[],abstract:=false,collection:=none,hasDel:=false}, #[(some (.ref 131)),none,(some (s gO 346)),(some (s gO 354)),(some (.builtin "ValueError.__new__")),(some (.bool true))])
def kR (P:Params):Obj:=dO 2 [e P XF 369 (s lF 198),e P YF 373 (.int (27) 372),e P ZF 374 (.ref 150),e P z1 375 .none]
def lR:Obj:=((.type "type"),none,.cls {name:=(Str.ofString "NoRoom"),bases:=[.ref 31],mro:=[.ref 152,.ref 31,(.type "ValueError"),(.type "Exception"),(.type "BaseException"),(.type "object")],ns:=151,qualname:=(Str.ofString "NoRoom"),hasDict:=true,slotNames:=[],subclasses:=[],abstract:=false,collection:=none,hasDel:=false}, #[(some (.ref 143)),none,(some (s iO 362)),(some (s iO 370)),(some (.builtin "ValueError.__new__")),(some (.bool true))])
def mR:Obj:=tO [s 448545843573 383]
def nR:Obj:=cQ' OO OO 380 30 1 155 384
def pR:Obj:=fP' "is_whole" (RC 16) (s 154722281479463014256600682153103225703 378) 160
def qR:Obj:=tO [s 448545843573 390,s 7893101 391,s 1768450665 392]
def rR:Obj:=cQ' QO QO 387 32 3 162 393
def sR:Obj:=fP' "is_within" (RC 17) (s 154722281479463014256600682153103225703 378) 167
def tR:Obj:=tO [s KL 403]
def uR:Obj:=cQ' RO RO 400 36 1 169 404
def vR:Obj:=fP' "check_rights" (RC 20) (s iG 396) 174
def wR:Obj:=tO [s 7304819 410]
def xR:Obj:=cQ' SO SO 407 39 1 176 411
def yR:Obj:=fP' "end_of" (RC 21) (s iG 396) 181
def zR:Obj:=tO [s 7304819 417,s mH 418,s 6711925 419]
def AR:Obj:=cQ' UO UO 414 41 2 183 420
def DR:Obj:=fP' "tie_from" (RC 22) (s iG 396) 188
def ER:Obj:=tO [s 7304819 426,s 7893101 427,s 1768450665 428,s gI 429]
def FR:Obj:=cQ' VO VO 423 46 3 190 430
def GR:Obj:=fP' "part_of" (RC 23) (s iG 396) 195
def HR:Obj:=tO [s 7304819 436,s 495640207981 437]
def IR:Obj:=cQ' WO WO 433 49 2 197 438
def JR:Obj:=fP' "goes_on" (RC 24) (s iG 396) 202
def xX:Obj:=tO [s 1953461875 444,s 495640405607 445,s 7304819 446,s 1970561645 447]
def yX:Obj:=cQ' 111490630316139 111490630316139 441 51 1 204 448
def zX:Obj:=fP' "joined" (RC 25) (s iG 396) 209
def AX:Obj:=tO [s QD 466]
def BX:Obj:=cQ' LL 8395602628992143088491004079736651362039124 463 62 1 218 467
def DX:Obj:=fO "__init__" "Stretches.__init__" (FC (RC 26) 0) (s iG 396) (.ref 223)
def EX:Obj:=((.type "tuple"),none,.seq #[.none] 0, #[])
def FX:Obj:=tO [s QD 473,s gI 474,s CH 475,s KL 476,s 6711925 477]
def GX:Obj:=cQ' 7698033 9306351078043889216994357245268 470 65 5 226 478
def HX:Obj:=((.type "function"),none,.func (W.fnOf (Str.ofString "put") (Str.ofString "Stretches.put") (cD (FC (RC 26) 1)) (aD (FC (RC 26) 1)) (EC (FC (RC 26) 1)) (.ref 225) .none .none (s iG 396) none (.ref 231) .none), #[])
def IX:Obj:=tO [s QD 484,s gI 485,s CH 486]
def JX:Obj:=cQ' 7698020 9306335362008234226815086064980 481 71 3 233 487
def LX:Obj:=fO "cut" "Stretches.cut" (FC (RC 26) 2) (s iG 396) (.ref 238)
def MX:Obj:=tO [s QD 493,s gI 494,s CH 495,s KL 496]
def NX:Obj:=cQ' XO 526762260821547473070605117598954836 490 75 4 240 497
def OX:Obj:=fO "guard" "Stretches.guard" (FC (RC 26) 3) (s iG 396) (.ref 245)
def PX:Obj:=tO [s QD 503,s gI 504,s CH 505]
def QX:Obj:=cQ' 516757173630863403280740 624721089673430778640529783835705258327388943700 500 78 3 247 506
def RX:Obj:=fO "check_full" "Stretches.check_full" (FC (RC 26) 4) (s iG 396) (.ref 252)
def SX:Obj:=tO [s QD 512,s mH 513,s 1970496113 514]
def TX:Obj:=cQ' YS 2617757014156703991004303271023538183198700884 509 82 2 254 515
def UX:Obj:=fO "rights_at" "Stretches.rights_at" (FC (RC 26) 5) (s iG 396) (.ref 259)
def VX:Obj:=tO [s QD 521,s mH 522,s 1970496113 523]
def WX:Obj:=cQ' 129065384569461 156030475824513176713048584412386784596 518 86 2 261 524
def XX:Obj:=fO "tie_at" "Stretches.tie_at" (FC (RC 26) 6) (s iG 396) (.ref 266)
def YX:Obj:=tO [s QD 530,s gI 531,s CH 532]
def ZX:Obj:=cQ' 28823093466133610 34844981892374637606343691086821957268820 527 90 3 268 533
def aY:Obj:=fO "is_free" "Stretches.is_free" (FC (RC 26) 7) (s iG 396) (.ref 273)
def bY:Obj:=cO [s 30801127769404522 536,s 37236278633682276866180525579755284821332 537,s z2 538,i 93,i 3,i 0,i 0,i 3,.ref 275,(.bool true),i 181,.ref 276,.none,.none,.none,.ref 277,i 539,i 93,s z2 540]
def cY:Obj:=fO "is_full" "Stretches.is_full" (FC (RC 26) 8) (s iG 396) (.ref 278)
def dY:Obj:=tO [s QD 545,s LJ 546]
def eY:Obj:=cQ' 28541580069598314 34504653078735706780555045640184744080724 542 96 2 280 547
def fY:Obj:=fO "is_tied" "Stretches.is_tied" (FC (RC 26) 9) (s iG 396) (.ref 285)
def gY:Obj:=tO [s QD 553]
def iY:Obj:=cQ' 1701671029 2057194043672392837723022735668564 550 99 1 287 554
def jY:Obj:=fO "told" "Stretches.told" (FC (RC 26) 10) (s iG 396) (.ref 292)
def kY:Obj:=tO [s QD 560,s 495639426416 561]
def lY:Obj:=cQ' 111490546888804 134783800776830844550708368151093146964 557 102 1 294 562
def mY:Obj:=fO "copied" "Stretches.copied" (FC (RC 26) 11) (s iG 396) (.ref 299)
def nY:Obj:=tO [s QD 568,s mH 569,s 7893101 570,s 1768450665 571,s 112620038613614 572]
def oY:Obj:=cQ' 31392679273066234308940950897 37951420520090778506602714804950266613495697467733332 565 107 2 301 573
def pY:Obj:=fO "place_behind" "Stretches.place_behind" (FC (RC 26) 12) (s iG 396) (.ref 306)
def qY:Obj:=cO [s 478922323667592571740785 576,s 578981562671587066094221509702201825946659681620 577,s z2 578,i 118,i 3,i 0,i 0,i 3,.ref 308,(.bool true),i 181,.ref 309,.none,.none,.none,.ref 310,i 579,i 118,s z2 580]
def rY:Obj:=fO "parts_amid" "Stretches.parts_amid" (FC (RC 26) 13) (s iG 396) (.ref 311)
def sY:Obj:=tO [s QD 585,s mH 586,s 500186702449 587]
def tY:Obj:=cQ' 33040738702025329 39943802116018770004276114331333133825364 582 123 2 313 588
def uY:Obj:=fO "part_at" "Stretches.part_at" (FC (RC 26) 14) (s iG 396) (.ref 318)
def vY:Obj:=cO [s 7307774714166534765 591,s 8834557535882840484900534439152844413302100 592,s z2 593,i 127,i 4,i 0,i 0,i 3,.ref 320,(.bool true),i 181,.ref 321,.none,.none,.none,.ref 322,i 594,i 127,s z2 595]
def wY:Obj:=fO "lay_amid" "Stretches.lay_amid" (FC (RC 26) 15) (s iG 396) (.ref 323)
def xY:Obj:=((.type "tuple"),none,.seq #[(.str "runs" 597)] 0, #[])
def yY (P:Params):Obj:=dO 4 [e P XF 458 (s iG 396),e P YF 462 (.int (60) 461),e P LL 469 (.ref 224),e P 7698033 480 (.ref 232),e P 7698020 489 (.ref 239),e P XO 499 (.ref 246),e P 516757173630863403280740 508 (.ref 253),e P YS 517 (.ref 260),e P 129065384569461 526 (.ref 267),e P 28823093466133610 535 (.ref 274),e P 30801127769404522 541 (.ref 279),e P 28541580069598314 549 (.ref 286),e P 1701671029 556 (.ref 293),e P 111490546888804 564 (.ref 300),e P 31392679273066234308940950897 575 (.ref 307),e P 478922323667592571740785 581 (.ref 312),e P 33040738702025329 590 (.ref 319),e P 7307774714166534765 596 (.ref 324),e P ZF 598 (.ref 325),e P ML 600 (.ref 328),e P KJ 602 (.ref 329),e P z1 603 .none]
def zY:Obj:=kP' "Stretches" [(.type "object")] [.ref 327,(.type "object")] 326 [] 2147201852470124049748 451 2147201852470124049748 459
def AY:Obj:=((.type "getset_descriptor"),none,.fields ⟨[s ML 599,.ref 327,(.builtin "function.__dict__"),(.builtin "function.__dict__#set")]⟩, #[])
def BY:Obj:=((.type "getset_descriptor"),none,.fields ⟨[s KJ 601,.ref 327,(.builtin "ExceptionGroup.__weakref__"),.none]⟩, #[])
def CY:Obj:=tO [s 32777980890478191 613,s YO 614]
def DY:Obj:=cQ' lX lX 610 137 1 332 615
def EY:Obj:=fP' "least_free" (RC 29) (s vG 606) 337
def FY:Obj:=tO [s QD 633,s 439988939124 634]
def GY:Obj:=cQ' LL 1954753563970360692704735984513097 630 144 2 346 635
def HY:Obj:=fO "__init__" "House.__init__" (FC (RC 30) 0) (s vG 606) (.ref 351)
def IY:Obj:=tO [s QD 641,s jG 642]
def JY:Obj:=cQ' ZS 2199721175476886628490265163624521 638 149 1 353 643
def KY:Obj:=fO "new_task" "House.new_task" (FC (RC 30) 1) (s vG 606) (.ref 358)
def LY:Obj:=tO [s QD 649,s jG 650,s 495639426416 651]
def MY:Obj:=cQ' 1819504743 512145055212970217730121 646 154 2 360 652
def NY:Obj:=fO "fork" "House.fork" (FC (RC 30) 2) (s vG 606) (.ref 365)
def OY:Obj:=tO [s QD 658,s jG 659]
def PY:Obj:=cQ' aT 2199721175476536786337936233099337 655 160 2 367 660
def QY:Obj:=fO "end_task" "House.end_task" (FC (RC 30) 3) (s vG 606) (.ref 372)
def RY:Obj:=tO [s QD 666,s CH 667,s LJ 668]
def SY:Obj:=cQ' bT 2199325012903650553738972299161673 663 164 2 374 669
def TY:Obj:=fO "new_bank" "House.new_bank" (FC (RC 30) 4) (s vG 606) (.ref 379)
def UY:Obj:=tO [s QD 675,s LJ 676]
def VY:Obj:=cQ' cT 563027203303301669962607049756274761 672 171 2 381 677
def WY:Obj:=fO "drop_bank" "House.drop_bank" (FC (RC 30) 5) (s vG 606) (.ref 386)
def XY:Obj:=((.type "tuple"),none,.seq #[.none,(.int (0) 680)] 0, #[])
def YY:Obj:=tO [s QD 684,s jG 685,s gI 686,s CH 687,s KL 688,s LJ 689,s 504447006068 690,s 6711925 691]
def ZY:Obj:=cQ' 8020589 2257595154097830785097 681 174 7 389 692
def aZ:Obj:=((.type "function"),none,.func (W.fnOf (Str.ofString "lay") (Str.ofString "House.lay") (cD (FC (RC 30) 6)) (aD (FC (RC 30) 6)) (EC (FC (RC 30) 6)) (.ref 388) .none .none (s vG 606) none (.ref 394) .none), #[])
def bZ:Obj:=tO [s QD 698,s jG 699,s gI 700,s CH 701]
def cZ:Obj:=cQ' 1969711725 554424561973198142730313 695 183 4 396 702
def dZ:Obj:=fO "lift" "House.lift" (FC (RC 30) 7) (s vG 606) (.ref 401)
def eZ:Obj:=tO [s QD 708,s jG 709,s gI 710,s CH 711,s KL 712]
def fZ:Obj:=cQ' XO 122646396239648390521450569 705 187 5 403 713
def gZ:Obj:=fO "guard" "House.guard" (FC (RC 30) 8) (s vG 606) (.ref 408)
def iZ:Obj:=tO [s QD 719,s jG 720,s jO 721,s 1970233976 722,s 500186702449 723,s KL 724]
def jZ:Obj:=cQ' 435510080610 122585189797007784293068873 716 190 4 410 725
def kZ:Obj:=fO "asked" "House.asked" (FC (RC 30) 9) (s vG 606) (.ref 415)
def lZ:Obj:=tO [s QD 731]
def mZ:Obj:=cQ' fT 609859923998260050033739136169832521 728 200 1 417 732
def nZ:Obj:=fO "task_list" "House.task_list" (FC (RC 30) 10) (s vG 606) (.ref 422)
def oZ:Obj:=tO [s QD 738]
def pZ:Obj:=cQ' iT 609859923998259957794952218041282633 735 203 1 424 739
def qZ:Obj:=fO "bank_list" "House.bank_list" (FC (RC 30) 11) (s vG 606) (.ref 429)
def rZ:Obj:=tO [s QD 745,s LJ 746]
def sZ:Obj:=cQ' 1890460943890055651939 532117450153858173809377884935450697 742 206 2 431 747
def tZ:Obj:=fO "bank_size" "House.bank_size" (FC (RC 30) 12) (s vG 606) (.ref 436)
def uZ:Obj:=tO [s QD 753,s jG 754]
def vZ:Obj:=cQ' jT 9010805286337637281539545668179908239978569 750 209 2 438 755
def wZ:Obj:=fO "stretches_of" "House.stretches_of" (FC (RC 30) 13) (s vG 606) (.ref 443)
def xZ:Obj:=tO [s QD 761,s jG 762,s mH 763]
def yZ:Obj:=cQ' YS 609494050535537300399575152849219657 758 213 3 445 764
def zZ:Obj:=fO "rights_at" "House.rights_at" (FC (RC 30) 14) (s vG 606) (.ref 450)
def AZ:Obj:=tO [s QD 770,s jG 771,s mH 772]
def BZ:Obj:=cQ' 129065384569461 36328676115840947361617965129 767 217 3 452 773
def CZ:Obj:=fO "tie_at" "House.tie_at" (FC (RC 30) 15) (s vG 606) (.ref 457)
def DZ:Obj:=cO [s 7453563436348760689 776,s 2097991594657664520040000427290697 777,s z2 778,i 221,i 2,i 0,i 0,i 3,.ref 459,(.bool true),i 181,.ref 460,.none,.none,.none,.ref 461,i 779,i 221,s z2 780]
def EZ:Obj:=fO "pages_of" "House.pages_of" (FC (RC 30) 16) (s vG 606) (.ref 462)
def FZ:Obj:=tO [s QD 785,s jG 786]
def GZ:Obj:=cQ' 512162497145278640318820 144160926956038725368327681379818434633 782 227 2 464 787
def HZ:Obj:=fO "check_task" "House.check_task" (FC (RC 30) 17) (s vG 606) (.ref 469)
def IZ:Obj:=tO [s QD 793,s LJ 794]
def JZ:Obj:=cQ' 512070258358360511768932 144134964045639125973426952214381228105 790 231 2 471 795
def KZ:Obj:=fO "check_bank" "House.check_bank" (FC (RC 30) 18) (s vG 606) (.ref 476)
def LZ:Obj:=tO [s QD 801,s jG 802,s gI 803,s CH 804]
def MZ:Obj:=cQ' 8350047493112005182606836918628 2350329423656573175351140194157426667259588681 798 235 4 478 805
def NZ:Obj:=fO "check_stretch" "House.check_stretch" (FC (RC 30) 19) (s vG 606) (.ref 483)
def OZ:Obj:=tO [s QD 811,s LJ 812,s 504447006068 813,s CH 814]
def PZ:Obj:=cQ' 9446029003694613325605449134053798776826212 2658820793823122384803673107998479853226123854532207603785 808 240 4 485 815
def QZ:Obj:=fO "check_part_of_bank" "House.check_part_of_bank" (FC (RC 30) 20) (s vG 606) (.ref 490)
def RZ:Obj:=((.type "tuple"),none,.seq #[(.str "banks" 818),(.str "shape" 819),(.str "tasks" 820)] 0, #[])
def SZ (P:Params):Obj:=dO 4 [e P XF 625 (s vG 606),e P YF 629 (.int (142) 628),e P LL 637 (.ref 352),e P ZS 645 (.ref 359),e P 1819504743 654 (.ref 366),e P aT 662 (.ref 373),e P bT 671 (.ref 380),e P cT 679 (.ref 387),e P 8020589 694 (.ref 395),e P 1969711725 704 (.ref 402),e P XO 715 (.ref 409),e P 435510080610 727 (.ref 416),e P fT 734 (.ref 423),e P iT 741 (.ref 430),e P 1890460943890055651939 749 (.ref 437),e P jT 757 (.ref 444),e P YS 766 (.ref 451),e P 129065384569461 775 (.ref 458),e P 7453563436348760689 781 (.ref 463),e P 512162497145278640318820 789 (.ref 470),e P 512070258358360511768932 797 (.ref 477),e P 8350047493112005182606836918628 807 (.ref 484),e P 9446029003694613325605449134053798776826212 817 (.ref 491),e P ZF 821 (.ref 492),e P ML 823 (.ref 495),e P KJ 825 (.ref 496),e P z1 826 .none]
def TZ:Obj:=kP' "House" [(.type "object")] [.ref 494,(.type "object")] 493 [] 440040583241 618 440040583241 626
def UZ:Obj:=((.type "getset_descriptor"),none,.fields ⟨[s ML 822,.ref 494,(.builtin "function.__dict__"),(.builtin "function.__dict__#set")]⟩, #[])
def VZ:Obj:=((.type "getset_descriptor"),none,.fields ⟨[s KJ 824,.ref 494,(.builtin "ExceptionGroup.__weakref__"),.none]⟩, #[])
def WZ:Obj:=tO [s QD 846,s 439988939124 847,s 1970565230 848]
def XZ:Obj:=cQ' LL 1954753563970360692704796012998739 843 247 3 506 849
def YZ:Obj:=fO "__init__" "Rooms.__init__" (FC (RC 32) 0) (s RF 829) (.ref 511)
def ZZ:Obj:=tO [s QD 855,s jG 856]
def d0:Obj:=cQ' ZS 2199721175476886628490325192110163 852 257 1 513 857
def i0:Obj:=fO "new_task" "Rooms.new_task" (FC (RC 32) 1) (s RF 829) (.ref 518)
def u0:Obj:=tO [s QD 863,s jG 864,s 495639426416 865,s YO 866]
def O0:Obj:=cQ' 1819504743 512145055213030246215763 860 262 2 520 867
def P0:Obj:=fO "fork" "Rooms.fork" (FC (RC 32) 2) (s RF 829) (.ref 525)
def Q0:Obj:=tO [s QD 873,s jG 874]
def S0:Obj:=cQ' aT 2199721175476536786337996261584979 870 269 2 527 875
def T0:Obj:=fO "end_task" "Rooms.end_task" (FC (RC 32) 3) (s RF 829) (.ref 532)
def U0:Obj:=tO [s QD 881,s CH 882,s LJ 883]
def V0:Obj:=cQ' bT 2199325012903650553739032327647315 878 273 2 534 884
def W0:Obj:=fO "new_bank" "Rooms.new_bank" (FC (RC 32) 4) (s RF 829) (.ref 539)
def X0:Obj:=tO [s QD 890,s LJ 891]
def Y0:Obj:=cQ' cT 563027203303301669962607109784760403 887 278 2 541 892
def Z0:Obj:=fO "drop_bank" "Rooms.drop_bank" (FC (RC 32) 5) (s RF 829) (.ref 546)
def j1:Obj:=((.type "tuple"),none,.seq #[.none,(.int (0) 895)] 0, #[])
def O1:Obj:=tO [s QD 899,s jG 900,s gI 901,s CH 902,s KL 903,s LJ 904,s 504447006068 905]
def P1:Obj:=cQ' 8020589 2257595154157859270739 896 281 7 549 906
def Q1:Obj:=((.type "function"),none,.func (W.fnOf (Str.ofString "lay") (Str.ofString "Rooms.lay") (cD (FC (RC 32) 6)) (aD (FC (RC 32) 6)) (EC (FC (RC 32) 6)) (.ref 548) .none .none (s RF 829) none (.ref 554) .none), #[])
def S1:Obj:=tO [s QD 912,s jG 913,s gI 914,s CH 915,s mH 916]
def T1:Obj:=cQ' 1969711725 554424561973258171215955 909 284 4 556 917
def U1:Obj:=fO "lift" "Rooms.lift" (FC (RC 32) 7) (s RF 829) (.ref 561)
def V1:Obj:=tO [s QD 923,s jG 924,s gI 925,s CH 926,s KL 927]
def W1:Obj:=cQ' XO 122646396239648450549936211 920 289 5 563 928
def X1:Obj:=fO "guard" "Rooms.guard" (FC (RC 32) 8) (s RF 829) (.ref 568)
def Y1:Obj:=tO [s QD 934,s jG 935,s jO 936,s 500186702449 937]
def Z1:Obj:=cQ' 1700947571 478774177985449008590931 931 292 3 570 938
def j2:Obj:=fO "read" "Rooms.read" (FC (RC 32) 9) (s RF 829) (.ref 575)
def O2:Obj:=tO [s QD 944,s jG 945,s jO 946,s 440073544311 947,s 500186702449 948]
def P2:Obj:=cQ' 440056574840 123864914154512226205069395 941 296 4 577 949
def Q2:Obj:=fO "write" "Rooms.write" (FC (RC 32) 10) (s RF 829) (.ref 582)
def S2:Obj:=tO [s QD 955]
def T2:Obj:=cQ' 1701671015 478977809368500472410195 952 300 1 584 956
def U2:Obj:=fO "fold" "Rooms.fold" (FC (RC 32) 11) (s RF 829) (.ref 589)
def V2:Obj:=tO [s QD 962]
def W2:Obj:=cQ' fT 609859923998260050033739196198318163 959 303 1 591 963
def X2:Obj:=fO "task_list" "Rooms.task_list" (FC (RC 32) 12) (s RF 829) (.ref 596)
def Y2:Obj:=tO [s QD 969]
def Z2:Obj:=cQ' iT 609859923998259957794952278069768275 966 306 1 598 970
def i3:Obj:=fO "bank_list" "Rooms.bank_list" (FC (RC 32) 13) (s RF 829) (.ref 603)
def j3:Obj:=tO [s QD 976,s jG 977]
def O3:Obj:=cQ' jT 9010805286337637281539545668179968268464211 973 309 2 605 978
def P3:Obj:=fO "stretches_of" "Rooms.stretches_of" (FC (RC 32) 14) (s RF 829) (.ref 610)
def Q3:Obj:=cO [s 34449212995692148 981,s 9696591425662875424532162703443 982,s z2 983,i 312,i 2,i 0,i 0,i 3,.ref 612,(.bool true),i 181,.ref 613,.none,.none,.none,.ref 614,i 984,i 312,s z2 985]
def R3:Obj:=fO "seen_by" "Rooms.seen_by" (FC (RC 32) 15) (s RF 829) (.ref 615)
def S3:Obj:=tO [s QD 990]
def T3:Obj:=cQ' 140789800901245672938236525 39628805929776020909669620356470931484755 987 315 1 617 991
def U3:Obj:=fO "live_sheets" "Rooms.live_sheets" (FC (RC 32) 16) (s RF 829) (.ref 622)
def V3:Obj:=tO [s QD 997,s jG 998,s mH 999,s 6711925 1000,s ZO 1001,s YO 1002]
def W3:Obj:=cQ' 478762002804 134759523589255099684253779 994 318 4 624 1003
def X3:Obj:=fO "shown" "Rooms.shown" (FC (RC 32) 17) (s RF 829) (.ref 629)
def Y3:Obj:=tO [s QD 1009]
def Z3:Obj:=cQ' 32780192883044463 9226804028325751835527849472083 1006 323 1 631 1010
def d4:Obj:=fO "noughts" "Rooms.noughts" (FC (RC 32) 18) (s RF 829) (.ref 636)
def i4:Obj:=tO [s QD 1016,s jG 1017,s mH 1018,s 6711925 1019]
def j4:Obj:=cQ' 8032497800187927056105972590964 2260947131236292320297530778482347951583686739 1013 326 3 638 1020
def l4:Obj:=fO "sheet_to_read" "Rooms.sheet_to_read" (FC (RC 32) 19) (s RF 829) (.ref 643)
def o4:Obj:=tO [s QD 1026,s jG 1027,s mH 1028,s ZO 1029,s YO 1030]
def w4:Obj:=cQ' 2078108419592612597865299602467188 584935519007048777795440555185823689555525529683 1023 332 3 645 1031
def O4:Obj:=fO "sheet_to_write" "Rooms.sheet_to_write" (FC (RC 32) 20) (s RF 829) (.ref 650)
def P4:Obj:=tO [s QD 1037,s ZO 1038,s mH 1039]
def Q4:Obj:=cQ' 123855394913203706996877684 34862194398683115037494871830585806975059 1034 340 3 652 1040
def R4:Obj:=fO "sheet_there" "Rooms.sheet_there" (FC (RC 32) 21) (s RF 829) (.ref 657)
def S4:Obj:=tO [s QD 1046,s ZO 1047,s 2360878370155222899437929793546855 1048]
def T4:Obj:=cQ' 549683601607383713673319 154722178960667841812885269966685761619 1043 345 3 659 1049
def U4:Obj:=fO "fold_pages" "Rooms.fold_pages" (FC (RC 32) 22) (s RF 829) (.ref 664)
def V4:Obj:=tO [s QD 1055,s 499935440995 1056,s YO 1057]
def W4:Obj:=cQ' 2165647757612066301551 609575652137340752373089254486601811 1052 348 2 666 1058
def X4:Obj:=fO "new_sheet" "Rooms.new_sheet" (FC (RC 32) 23) (s RF 829) (.ref 671)
def Y4:Obj:=tO [s QD 1064,s ZO 1065,s mH 1066,s YO 1067]
def Z4:Obj:=cQ' 135892596177744215321962093 38250365344281133571179105536106176737363 1061 357 3 673 1068
def d5:Obj:=fO "let_page_go" "Rooms.let_page_go" (FC (RC 32) 24) (s RF 829) (.ref 678)
def i5:Obj:=tO [s QD 1074,s ZO 1075,s mH 1076]
def j5:Obj:=cQ' 530830455795135452374637 149415490182242660767447924803577606227 1071 366 2 680 1077
def l5:Obj:=fO "let_all_go" "Rooms.let_all_go" (FC (RC 32) 25) (s RF 829) (.ref 685)
def o5:Obj:=((.type "tuple"),none,.seq #[(.str "banked" 1080),(.str "havers" 1081),(.str "house" 1082),(.str "made" 1083),(.str "most" 1084),(.str "private" 1085),(.str "shape" 1086),(.str "sheets" 1087)] 0, #[])
def p5 (P:Params):Obj:=dO 4 [e P XF 838 (s RF 829),e P YF 842 (.int (245) 841),e P LL 851 (.ref 512),e P ZS 859 (.ref 519),e P 1819504743 869 (.ref 526),e P aT 877 (.ref 533),e P bT 886 (.ref 540),e P cT 894 (.ref 547),e P 8020589 908 (.ref 555),e P 1969711725 919 (.ref 562),e P XO 930 (.ref 569),e P 1700947571 940 (.ref 576),e P 440056574840 951 (.ref 583),e P 1701671015 958 (.ref 590),e P fT 965 (.ref 597),e P iT 972 (.ref 604),e P jT 980 (.ref 611),e P 34449212995692148 986 (.ref 616),e P 140789800901245672938236525 993 (.ref 623),e P 478762002804 1005 (.ref 630),e P 32780192883044463 1012 (.ref 637),e P 8032497800187927056105972590964 1022 (.ref 644),e P 2078108419592612597865299602467188 1033 (.ref 651),e P 123855394913203706996877684 1042 (.ref 658),e P 549683601607383713673319 1051 (.ref 665),e P 2165647757612066301551 1060 (.ref 672),e P 135892596177744215321962093 1070 (.ref 679),e P 530830455795135452374637 1079 (.ref 686),e P ZF 1088 (.ref 687),e P ML 1090 (.ref 690),e P KJ 1092 (.ref 691),e P z1 1093 .none]
def u5:Obj:=kP' "Rooms" [(.type "object")] [.ref 689,(.type "object")] 688 [] 500069068883 831 500069068883 839
def x5:Obj:=((.type "getset_descriptor"),none,.fields ⟨[s ML 1089,.ref 689,(.builtin "function.__dict__"),(.builtin "function.__dict__#set")]⟩, #[])
def O5:Obj:=((.type "getset_descriptor"),none,.fields ⟨[s KJ 1091,.ref 689,(.builtin "ExceptionGroup.__weakref__"),.none]⟩, #[])
def P5:Obj:=tO [s 8462094853666339174 1103,s 495640408177 1104,s 7525350520412074085 1105]
def Q5:Obj:=cQ' mX mX 1100 371 1 694 1106
def R5:Obj:=fP' "power_of_two" (RC 35) (s iI 1096) 699
def S5:Obj:=tO [s 128013219358317 1112,s 7299687 1113,s 478526206824 1114]
def T5:Obj:=cQ' nX nX 1109 376 3 701 1115
def U5:Obj:=fP' "check_measures" (RC 36) (s iI 1096) 706
def V5:Obj:=tO [s QD 1133,s 128013219358317 1134,s 7299687 1135,s 478526206824 1136]
def W5:Obj:=cQ' LL 1954753563970360692704735932868948 1130 385 4 715 1137
def X5:Obj:=fO "__init__" "Shape.__init__" (FC (RC 37) 0) (s iI 1096) (.ref 720)
def Y5:Obj:=tO [s QD 1143]
def Z5:Obj:=cQ' 483958001635892750870900 136222067239398530400517607478345754964 1140 394 1 722 1144
def b6:Obj:=fO "sheet_size" "Shape.sheet_size" (FC (RC 37) 1) (s iI 1096) (.ref 727)
def d6:Obj:=tO [s QD 1150]
def f6:Obj:=cQ' 554573001519589315076721 156098422687084996958981798045893683540 1147 397 1 729 1151
def i6:Obj:=fO "page_count" "Shape.page_count" (FC (RC 37) 2) (s iI 1096) (.ref 734)
def j6:Obj:=tO [s QD 1157,s mH 1158]
def k6:Obj:=cQ' 7379256228535624297 2077075975069028078541421527853396 1154 400 2 736 1159
def l6:Obj:=fO "has_page" "Shape.has_page" (FC (RC 37) 3) (s iI 1096) (.ref 741)
def m6:Obj:=tO [s QD 1165,s mH 1166]
def p6:Obj:=cQ' 483606936193276347574628 136123251102114162142305122687958280532 1162 403 2 743 1167
def r6:Obj:=fO "check_page" "Shape.check_page" (FC (RC 37) 4) (s iI 1096) (.ref 748)
def t6:Obj:=tO [s QD 1173,s jO 1174]
def u6:Obj:=cQ' 140785079470369141693899369 39627476965130008305525577047426929420628 1170 407 2 750 1175
def w6:Obj:=fO "has_address" "Shape.has_address" (FC (RC 37) 5) (s iI 1096) (.ref 755)
def x6:Obj:=tO [s QD 1181,s jO 1182]
def y6:Obj:=cQ' 111490731565681 31381851070904111347232041300 1178 410 2 757 1183
def O6:Obj:=fO "parted" "Shape.parted" (FC (RC 37) 6) (s iI 1096) (.ref 762)
def P6:Obj:=tO [s QD 1189,s mH 1190,s 7958627 1191]
def Q6:Obj:=cQ' jO 9226490968170112016115440970068 1186 415 3 764 1192
def R6:Obj:=fO "address" "Shape.address" (FC (RC 37) 7) (s iI 1096) (.ref 769)
def S6:Obj:=tO [s QD 1198,s mH 1199]
def T6:Obj:=cQ' 500118746484 140770912519198489320778068 1195 421 2 771 1200
def U6:Obj:=fO "steps" "Shape.steps" (FC (RC 37) 8) (s iI 1096) (.ref 776)
def V6:Obj:=tO [s QD 1206,s 500118746484 1207]
def W6:Obj:=cQ' 29115481938485873 8195279600554836563607700007252 1203 424 2 778 1208
def X6:Obj:=fO "page_of" "Shape.page_of" (FC (RC 37) 9) (s iI 1096) (.ref 783)
def Y6:Obj:=tO [s QD 1214,s gI 1215,s CH 1216]
def Z6:Obj:=cQ' 1953852007 549960448218510519331156 1211 427 3 785 1217
def a7:Obj:=fO "fits" "Shape.fits" (FC (RC 37) 10) (s iI 1096) (.ref 790)
def b7:Obj:=((.type "tuple"),none,.seq #[(.str "boxes" 1220),(.str "fan" 1221),(.str "grain" 1222),(.str "levels" 1223),(.str "pages" 1224),(.str "ways" 1225)] 0, #[])
def d7 (P:Params):Obj:=dO 4 [e P XF 1125 (s iI 1096),e P YF 1129 (.int (383) 1128),e P LL 1139 (.ref 721),e P 483958001635892750870900 1146 (.ref 728),e P 554573001519589315076721 1153 (.ref 735),e P 7379256228535624297 1161 (.ref 742),e P 483606936193276347574628 1169 (.ref 749),e P 140785079470369141693899369 1177 (.ref 756),e P 111490731565681 1185 (.ref 763),e P jO 1194 (.ref 770),e P 500118746484 1202 (.ref 777),e P 29115481938485873 1210 (.ref 784),e P 1953852007 1219 (.ref 791),e P ZF 1226 (.ref 792),e P ML 1228 (.ref 795),e P KJ 1230 (.ref 796),e P z1 1231 .none]
def f7:Obj:=kP' "Shape" [(.type "object")] [.ref 794,(.type "object")] 793 [] 439988939092 1118 439988939092 1126
def i7:Obj:=((.type "getset_descriptor"),none,.fields ⟨[s ML 1227,.ref 794,(.builtin "function.__dict__"),(.builtin "function.__dict__#set")]⟩, #[])
def j7:Obj:=((.type "getset_descriptor"),none,.fields ⟨[s KJ 1229,.ref 794,(.builtin "ExceptionGroup.__weakref__"),.none]⟩, #[])
def k7:Obj:=tO [s 141979911977246466280418656 1239,s 119161592376672 1240]
def l7:Obj:=cQ' pX pX 1236 430 2 799 1241
def o7:Obj:=fP' "_law_cell_at" (RC 39) (s z0 1234) 804
def p7:Obj:=tO [s 2018578202597599112544 1247,s 483533148109722095873376 1248,s 2258528875839108574560 1249,s 483718193700061355076960 1250]
def t7:Obj:=cQ' 2166583389145247411552 2166583389145247411552 1244 434 3 806 1251
def u7:Obj:=fP' "_law_part" (RC 40) (s z0 1234) 811
def O7:Obj:=tO [s 479015137796973828140384 1257,s 7383200104131489120 1258]
def P7:Obj:=cQ' qX qX 1254 437 2 813 1259
def Q7:Obj:=fP' "_law_whole" (RC 41) (s z0 1234) 818
def R7:Obj:=tO [s uX 1265,s 2000634754473945886048 1266,s 36040980344414500273705348448 1267,s 483865979046955610959200 1268,s 102 1269]
def S7:Obj:=cQ' rX rX 1262 439 4 820 1270
def T7:Obj:=fP' "_law_answer" (RC 42) (s z0 1234) 825
def V7:Obj:=tO [s 2000634754473945886048 1276,s 1889089594505186930016 1277]
def W7:Obj:=cQ' 8819856081844071776 8819856081844071776 1273 448 2 827 1278
def X7:Obj:=fP' "_law_key" (RC 43) (s z0 1234) 832
def Y7:Obj:=cO [s sX 1281,s sX 1282,s z2 1283,i 452,i 7,i 0,i 0,i 3,.ref 834,(.bool true),i 181,.ref 835,.none,.none,.none,.ref 836,i 1284,i 452,s z2 1285]
def Z7:Obj:=fP' "_law_access" (RC 44) (s z0 1234) 837
def a8:Obj:=tO [s uX 1290,s vX 1291,s wX 1292,s 8116987160646205798091361250656 1293]
def b8:Obj:=cQ' 2000566622136419118432 2000566622136419118432 1287 467 3 839 1294
def d8:Obj:=fP' "_law_fork" (RC 45) (s z0 1234) 844
def i8:Obj:=tO [s vX 1300,s wX 1301,s 1889597928417521724768 1302,s 8116987160646205798091361250656 1303]
def j8:Obj:=cQ' tX tX 1297 473 3 846 1304
def l8:Obj:=fP' "_law_let_go" (RC 46) (s z0 1234) 851
def o8:Obj:=tO [s uX 1310,s vX 1311,s wX 1312,s 122585281814624614255586656 1313,s 2000634754473945886048 1314,s 1889089594505186930016 1315]
def p8:Obj:=cQ' 2165720945418559450464 2165720945418559450464 1307 478 6 853 1316
def r8:Obj:=fP' "_law_lift" (RC 47) (s z0 1234) 858
def t8:Obj:=cO [s 2054967305178938764640 1319,s 2054967305178938764640 1320,s z2 1321,i 490,i 4,i 0,i 0,i 3,.ref 860,(.bool true),i 181,.ref 861,.none,.none,.none,.ref 862,i 1322,i 490,s z2 1323]
def u8:Obj:=fP' "_law_seen" (RC 48) (s z0 1234) 863
def v8:Obj:=cO [s 2055908558600570826080 1325,s 2055908558600570826080 1326,s z2 1327,i 499,i 7,i 0,i 0,i 3,.ref 865,(.bool true),i 181,.ref 866,.none,.none,.none,.ref 867,i 1328,i 499,s z2 1329]
def w8:Obj:=fP' "_law_turn" (RC 49) (s z0 1234) 868
def x8:Obj:=cO [s 7889517 1331,s 7889517 1332,s z2 1333,i 518,i 1,i 0,i 0,i 3,.ref 870,(.bool true),i 181,.ref 871,.none,.none,.none,.ref 872,i 1334,i 518,s z2 1335]
def y8:Obj:=fP' "law" (RC 50) (s z0 1234) 873
def Kf:Params->W.Frag:=λP=>#[2,o2,3,o3 P,15,NC,17,di,18,NC,20,ei,21,fi,22,gi,29,zG,30,ii P,31,ji,32,ki,35,RG,42,zG,43,li P,44,mi,47,RG,54,zG,55,ni P,56,oi,59,RG,66,zG,67,qi P,68,si,71,RG,78,zG,79,ui P,80,vi,83,RG,90,zG,91,xi P,92,yi,95,RG,102,zG,103,bR P,104,cR,107,RG,114,zG,115,dR P,116,eR,119,RG,126,zG,127,fR P,128,gR,131,RG,138,zG,139,iR P,140,jR,143,RG,150,zG,151,kR P,152,lR,155,NC,157,mR,158,NC,160,nR,161,pR,162,NC,164,qR,165,NC,167,rR,168,sR,169,NC,171,tR,172,NC,174,uR,175,vR,176,NC,178,wR,179,NC,181,xR,182,yR,183,NC,185,zR,186,NC,188,AR,189,DR,190,NC,192,ER,193,NC,195,FR,196,GR,197,NC,199,HR,200,NC,202,IR,203,JR,204,NC,206,xX,207,NC,209,yX,210,zX,218,NC,220,AX,221,NC,223,BX,224,DX,225,EX,226,NC,228,FX,229,NC,231,GX,232,HX,233,NC,235,IX,236,NC,238,JX,239,LX,240,NC,242,MX,243,NC,245,NX,246,OX,247,NC,249,PX,250,NC,252,QX,253,RX,254,NC,256,SX,257,NC,259,TX,260,UX,261,NC,263,VX,264,NC,266,WX,267,XX,268,NC,270,YX,271,NC,273,ZX,274,aY,275,NC,278,bY,279,cY,280,NC,282,dY,283,NC,285,eY,286,fY,287,NC,289,gY,290,NC,292,iY,293,jY,294,NC,296,kY,297,NC,299,lY,300,mY,301,NC,303,nY,304,NC,306,oY,307,pY,308,NC,311,qY,312,rY,313,NC,315,sY,316,NC,318,tY,319,uY,320,NC,323,vY,324,wY,325,xY,326,yY P,327,zY,328,AY,329,BY,332,NC,334,CY,335,NC,337,DY,338,EY,346,NC,348,FY,349,NC,351,GY,352,HY,353,NC,355,IY,356,NC,358,JY,359,KY,360,NC,362,LY,363,NC,365,MY,366,NY,367,NC,369,OY,370,NC,372,PY,373,QY,374,NC,376,RY,377,NC,379,SY,380,TY,381,NC,383,UY,384,NC,386,VY,387,WY,388,XY,389,NC,391,YY,392,NC,394,ZY,395,aZ,396,NC,398,bZ,399,NC,401,cZ,402,dZ,403,NC,405,eZ,406,NC,408,fZ,409,gZ,410,NC,412,iZ,413,NC,415,jZ,416,kZ,417,NC,419,lZ,420,NC,422,mZ,423,nZ,424,NC,426,oZ,427,NC,429,pZ,430,qZ,431,NC,433,rZ,434,NC,436,sZ,437,tZ,438,NC,440,uZ,441,NC,443,vZ,444,wZ,445,NC,447,xZ,448,NC,450,yZ,451,zZ,452,NC,454,AZ,455,NC,457,BZ,458,CZ,459,NC,462,DZ,463,EZ,464,NC,466,FZ,467,NC,469,GZ,470,HZ,471,NC,473,IZ,474,NC,476,JZ,477,KZ,478,NC,480,LZ,481,NC,483,MZ,484,NZ,485,NC,487,OZ,488,NC,490,PZ,491,QZ,492,RZ,493,SZ P,494,TZ,495,UZ,496,VZ,506,NC,508,WZ,509,NC,511,XZ,512,YZ,513,NC,515,ZZ,516,NC,518,d0,519,i0,520,NC,522,u0,523,NC,525,O0,526,P0,527,NC,529,Q0,530,NC,532,S0,533,T0,534,NC,536,U0,537,NC,539,V0,540,W0,541,NC,543,X0,544,NC,546,Y0,547,Z0,548,j1,549,NC,551,O1,552,NC,554,P1,555,Q1,556,NC,558,S1,559,NC,561,T1,562,U1,563,NC,565,V1,566,NC,568,W1,569,X1,570,NC,572,Y1,573,NC,575,Z1,576,j2,577,NC,579,O2,580,NC,582,P2,583,Q2,584,NC,586,S2,587,NC,589,T2,590,U2,591,NC,593,V2,594,NC,596,W2,597,X2,598,NC,600,Y2,601,NC,603,Z2,604,i3,605,NC,607,j3,608,NC,610,O3,611,P3,612,NC,615,Q3,616,R3,617,NC,619,S3,620,NC,622,T3,623,U3,624,NC,626,V3,627,NC,629,W3,630,X3,631,NC,633,Y3,634,NC,636,Z3,637,d4,638,NC,640,i4,641,NC,643,j4,644,l4,645,NC,647,o4,648,NC,650,w4,651,O4,652,NC,654,P4,655,NC,657,Q4,658,R4,659,NC,661,S4,662,NC,664,T4,665,U4,666,NC,668,V4,669,NC,671,W4,672,X4,673,NC,675,Y4,676,NC,678,Z4,679,d5,680,NC,682,i5,683,NC,685,j5,686,l5,687,o5,688,p5 P,689,u5,690,x5,691,O5,694,NC,696,P5,697,NC,699,Q5,700,R5,701,NC,703,S5,704,NC,706,T5,707,U5,715,NC,717,V5,718,NC,720,W5,721,X5,722,NC,724,Y5,725,NC,727,Z5,728,b6,729,NC,731,d6,732,NC,734,f6,735,i6,736,NC,738,j6,739,NC,741,k6,742,l6,743,NC,745,m6,746,NC,748,p6,749,r6,750,NC,752,t6,753,NC,755,u6,756,w6,757,NC,759,x6,760,NC,762,y6,763,O6,764,NC,766,P6,767,NC,769,Q6,770,R6,771,NC,773,S6,774,NC,776,T6,777,U6,778,NC,780,V6,781,NC,783,W6,784,X6,785,NC,787,Y6,788,NC,790,Z6,791,a7,792,b7,793,d7 P,794,f7,795,i7,796,j7,799,NC,801,k7,802,NC,804,l7,805,o7,806,NC,808,p7,809,NC,811,t7,812,u7,813,NC,815,O7,816,NC,818,P7,819,Q7,820,NC,822,R7,823,NC,825,S7,826,T7,827,NC,829,V7,830,NC,832,W7,833,X7,834,NC,837,Y7,838,Z7,839,NC,841,a8,842,NC,844,b8,845,d8,846,NC,848,i8,849,NC,851,j8,852,l8,853,NC,855,o8,856,NC,858,p8,859,r8,860,NC,863,t8,864,u8,865,NC,868,v8,869,w8,870,NC,873,x8,874,y8]
def Kc (P:Params):!(Option Obj):=(Kf P).map λp=>some p.2
def MJ:!Addr:=[2,3,15,17,18,20,21,22,29,30,31,32,35,42,43,44,47,54,55,56,59,66,67,68,71,78,79,80,83,90,91,92,95,102,103,104,107,114,115,116,119,126,127,128,131,138,139,140,143,150,151,152,155,157,158,160,161,162,164,165,167,168,169,171,172,174,175,176,178,179,181,182,183,185,186,188,189,190,192,193,195,196,197,199,200,202,203,204,206,207,209,210,218,220,221,223,224,225,226,228,229,231,232,233,235,236,238,239,240,242,243,245,246,247,249,250,252,253,254,256,257,259,260,261,263,264,266,267,268,270,271,273,274,275,278,279,280,282,283,285,286,287,289,290,292,293,294,296,297,299,300,301,303,304,306,307,308,311,312,313,315,316,318,319,320,323,324,325,326,327,328,329,332,334,335,337,338,346,348,349,351,352,353,355,356,358,359,360,362,363,365,366,367,369,370,372,373,374,376,377,379,380,381,383,384,386,387,388,389,391,392,394,395,396,398,399,401,402,403,405,406,408,409,410,412,413,415,416,417,419,420,422,423,424,426,427,429,430,431,433,434,436,437,438,440,441,443,444,445,447,448,450,451,452,454,455,457,458,459,462,463,464,466,467,469,470,471,473,474,476,477,478,480,481,483,484,485,487,488,490,491,492,493,494,495,496,506,508,509,511,512,513,515,516,518,519,520,522,523,525,526,527,529,530,532,533,534,536,537,539,540,541,543,544,546,547,548,549,551,552,554,555,556,558,559,561,562,563,565,566,568,569,570,572,573,575,576,577,579,580,582,583,584,586,587,589,590,591,593,594,596,597,598,600,601,603,604,605,607,608,610,611,612,615,616,617,619,620,622,623,624,626,627,629,630,631,633,634,636,637,638,640,641,643,644,645,647,648,650,651,652,654,655,657,658,659,661,662,664,665,666,668,669,671,672,673,675,676,678,679,680,682,683,685,686,687,688,689,690,691,694,696,697,699,700,701,703,704,706,707,715,717,718,720,721,722,724,725,727,728,729,731,732,734,735,736,738,739,741,742,743,745,746,748,749,750,752,753,755,756,757,759,760,762,763,764,766,767,769,770,771,773,774,776,777,778,780,781,783,784,785,787,788,790,791,792,793,794,795,796,799,801,802,804,805,806,808,809,811,812,813,815,816,818,819,820,822,823,825,826,827,829,830,832,833,834,837,838,839,841,842,844,845,846,848,849,851,852,853,855,856,858,859,860,863,864,865,868,869,870,873,874]
def _root_.PySem.W.Fast.tw2978598463251682248:Params->W.Frag:=Kf
theorem _root_.PySem.W.Fast.te2978598463251682248:@Eq (Params->W.Frag) Kf _root_.PySem.W.Fast.tw2978598463251682248:=rfl
def _root_.PySem.W.Fast.tw178197174607172993:!Addr:=MJ
theorem _root_.PySem.W.Fast.te178197174607172993:@Eq (!Addr) MJ _root_.PySem.W.Fast.tw178197174607172993:=rfl
theorem KR (P:Params):MJ=(Kf P).map (·.1):=by kernel_rfl
theorem LR (P:Params):Kc P=(Kf P).map λp=>some p.2:=rfl
def vw:Program:=W.view PySem.Challenge.pw_frameland_k54_no_room [0,1,2,4,5,6,7,8,9,10,11,12,13,14,16,17,19,20,21,22,23,24,25,26,28,29,30,32,34,35,36,37,39,40,41,42,43,44,45,46,47,48,49,50]
def GG:Obj:=(.none,none,.fields ⟨[]⟩, #[])
def O8:Obj:=cR' 4568459227289382461 4568459227289382461 182 1 11 185
def P8:Obj:=((.type "frame"),none,.plain, #[(some (.ref 13)),(some (.ref 3)),(some (.ref 3)),none,(some (s 6944673128113922144 164)),none,(some (.ref 0))])
section
variable (P:Params)
def Vs:W.BT:=.node (W.boot_o_7 P) .nil .nil
def Ws (P:Params):W.BT:=.node NC .nil .nil
def Xs:W.BT:=.node (W.boot_o_9 P) .nil .nil
def Ys (P:Params):W.BT:=.node O8 .nil .nil
def Zs:W.BT:=.node (W.boot_o_8 P) .nil .nil
def dt (P:Params):W.BT:=.node GG .nil .nil
def ft:W.BT:=.node (W.boot_o_10 P) .nil .nil
def jt (P:Params):W.BT:=.node P8 .nil .nil
def ot:W.BT:=.node (W.boot_o_0 P) (.node (W.boot_o_1 P) (.node (W.boot_o_3 P) (Vs P) (Ws P)) (.node (W.boot_o_5 P) (Xs P) (Ys P))) (.node (W.boot_o_2 P) (.node (W.boot_o_4 P) (Zs P) (dt P)) (.node (W.boot_o_6 P) (ft P) (jt P)))
end
def aP (w:World) (os:OsState):W.SharedT:=(ot w.params,15,(W.boot_heap w.params).life, #[],W.boot_drawn,187,os)
def _root_.PySem.W.Fast.tw14493010579495800908:World->OsState->W.SharedT:=aP
theorem _root_.PySem.W.Fast.te14493010579495800908:@Eq (World->OsState->W.SharedT) aP _root_.PySem.W.Fast.tw14493010579495800908:=rfl
section
variable (P:Params)
def qt:W.BT:=.node (W.boot_o_7 P) .nil .nil
def ut (P:Params):W.BT:=.node NC .nil .nil
def vt:W.BT:=.node (W.boot_o_9 P) .nil .nil
def wt (P:Params):W.BT:=.node O8 .nil .nil
def xt:W.BT:=.node (W.boot_o_8 P) .nil .nil
def yt (P:Params):W.BT:=.node GG .nil .nil
def zt:W.BT:=.node (W.boot_o_10 P) .nil .nil
def Pt (P:Params):W.BT:=.node P8 .nil .nil
def Qt:W.BT:=.node (W.boot_o_0 P) (.node (W.boot_o_1 P) (.node (W.boot_o_3 P) (qt P) (ut P)) (.node (W.boot_o_5 P) (vt P) (wt P))) (.node (W.boot_o_2 P) (.node (W.boot_o_4 P) (xt P) (yt P)) (.node (W.boot_o_6 P) (zt P) (Pt P)))
end
def bP (w:World) (os:OsState):W.SharedT:=(Qt w.params,15,(W.boot_heap w.params).life, #[],W.boot_drawn,187,os)
def _root_.PySem.W.Fast.tw4081698580280887237:World->OsState->W.SharedT:=bP
theorem _root_.PySem.W.Fast.te4081698580280887237:@Eq (World->OsState->W.SharedT) bP _root_.PySem.W.Fast.tw4081698580280887237:=rfl
def kO (P:Params):Obj:=dO 31 [e P 6944663249689206880 165 (s iG 396),e P z1 166 .none,e P 116512114954948911152848992 167 .none,e P 455126385231797511086176 168 (.builtin "__main__.__loader__#opaque"),e P 6944661016558198880 169 .none,e P 500416834696884185539869749159288928 170 (.ref 6),e P 29827167671303893903271485536 171 (.ref 4),e P 6944663245527933024 173 (s z2 172),e P 455125376429887381069920 174 .none,e P z3 193 (.ref 21),e P 1161971283 195 (.int (1) 194),e P 302078645080 197 (.int (2) 196),e P z4 217 (.ref 31),e P z5 233 (.ref 44),e P z6 249 (.ref 56),e P z7 265 (.ref 68),e P z8 281 (.ref 80),e P z9 297 (.ref 92),e P aO 313 (.ref 104),e P bO 329 (.ref 116),e P eO 345 (.ref 128),e P gO 361 (.ref 140),e P iO 377 (.ref 152),e P OO 386 (.ref 161),e P QO 395 (.ref 168),e P 101952521820057743536705614 399 (.int (3) 398),e P RO 406 (.ref 175),e P SO 413 (.ref 182),e P UO 422 (.ref 189),e P VO 432 (.ref 196),e P WO 440 (.ref 203)]
def Rt:Obj:=(.none,none,.fields ⟨[i 1,i 0,.ref 20,i 7,i 0,.ref 27,i 9,i 0,.ref 40,i 11,i 0,.ref 52,i 13,i 0,.ref 64,i 15,i 0,.ref 76,i 17,i 0,.ref 88,i 19,i 0,.ref 100,i 21,i 0,.ref 112,i 23,i 0,.ref 124,i 25,i 0,.ref 136,i 27,i 0,.ref 148,i 30,i 0,.ref 160,i 32,i 0,.ref 167,i 36,i 0,.ref 174,i 39,i 0,.ref 181,i 41,i 0,.ref 188,i 46,i 0,.ref 195,i 49,i 0,.ref 202]⟩, #[])
def Tt:Obj:=(.none,none,.func {name:=(S z3),qualname:=(S z3),params:=cD (RC 0),body:=.stmts (aD (RC 0)),scope:=EC (RC 0),globals:=0,closure:=[],defaults:=.none,kwdefaults:=.none,doc:=.none,pyModule:=.none,annotations:=none,code:=.none,closureTuple:=.none,builtins:=0}, #[])
def vJ:Obj:=((.type "builtin_function_or_method"),none,.fields ⟨[(.builtin "type.__prepare__"),(.type "type")]⟩, #[])
def Ut (P:Params):Obj:=dO 4 [e P XF 207 (s lF 198),e P uJ 209 (s z4 208),e P YF 211 (.int (7) 210),e P ZF 212 (.ref 29)]
def Vt:Obj:=cR' z4 z4 202 7 25 205
def Wt:Obj:=((.type "frame"),none,.plain, #[(some (.ref 27)),(some (.ref 3)),(some (.ref 24)),none,(some (s lF 198)),none,(some (.ref 0))])
def Yt:Obj:=((.type "super"),none,.fields ⟨[.ref 31,.ref 31,.ref 31]⟩, #[])
def Zt:Obj:=((.type "builtin_function_or_method"),none,.fields ⟨[(.builtin "object.__init_subclass__"),.ref 31]⟩, #[])
def au (P:Params):Obj:=dO 4 [e P XF 225 (s lF 198),e P uJ 227 (s z5 226),e P YF 229 (.int (9) 228),e P ZF 230 (.ref 42)]
def cu:Obj:=cR' z5 z5 220 9 38 223
def du:Obj:=((.type "frame"),none,.plain, #[(some (.ref 40)),(some (.ref 3)),(some (.ref 37)),none,(some (s lF 198)),none,(some (.ref 0))])
def eu:Obj:=((.type "super"),none,.fields ⟨[.ref 44,.ref 44,.ref 44]⟩, #[])
def fu:Obj:=((.type "builtin_function_or_method"),none,.fields ⟨[(.builtin "object.__init_subclass__"),.ref 44]⟩, #[])
def gu (P:Params):Obj:=dO 4 [e P XF 241 (s lF 198),e P uJ 243 (s z6 242),e P YF 245 (.int (11) 244),e P ZF 246 (.ref 54)]
def iu:Obj:=cR' z6 z6 236 11 50 239
def ju:Obj:=((.type "frame"),none,.plain, #[(some (.ref 52)),(some (.ref 3)),(some (.ref 49)),none,(some (s lF 198)),none,(some (.ref 0))])
def ku:Obj:=((.type "super"),none,.fields ⟨[.ref 56,.ref 56,.ref 56]⟩, #[])
def lu:Obj:=((.type "builtin_function_or_method"),none,.fields ⟨[(.builtin "object.__init_subclass__"),.ref 56]⟩, #[])
def nu (P:Params):Obj:=dO 4 [e P XF 257 (s lF 198),e P uJ 259 (s z7 258),e P YF 261 (.int (13) 260),e P ZF 262 (.ref 66)]
def ou:Obj:=cR' z7 z7 252 13 62 255
def qu:Obj:=((.type "frame"),none,.plain, #[(some (.ref 64)),(some (.ref 3)),(some (.ref 61)),none,(some (s lF 198)),none,(some (.ref 0))])
def tu:Obj:=((.type "super"),none,.fields ⟨[.ref 68,.ref 68,.ref 68]⟩, #[])
def uu:Obj:=((.type "builtin_function_or_method"),none,.fields ⟨[(.builtin "object.__init_subclass__"),.ref 68]⟩, #[])
def wu (P:Params):Obj:=dO 4 [e P XF 273 (s lF 198),e P uJ 275 (s z8 274),e P YF 277 (.int (15) 276),e P ZF 278 (.ref 78)]
def xu:Obj:=cR' z8 z8 268 15 74 271
def yu:Obj:=((.type "frame"),none,.plain, #[(some (.ref 76)),(some (.ref 3)),(some (.ref 73)),none,(some (s lF 198)),none,(some (.ref 0))])
def zu:Obj:=((.type "super"),none,.fields ⟨[.ref 80,.ref 80,.ref 80]⟩, #[])
def Qu:Obj:=((.type "builtin_function_or_method"),none,.fields ⟨[(.builtin "object.__init_subclass__"),.ref 80]⟩, #[])
def Ru (P:Params):Obj:=dO 4 [e P XF 289 (s lF 198),e P uJ 291 (s z9 290),e P YF 293 (.int (17) 292),e P ZF 294 (.ref 90)]
def Su:Obj:=cR' z9 z9 284 17 86 287
def Tu:Obj:=((.type "frame"),none,.plain, #[(some (.ref 88)),(some (.ref 3)),(some (.ref 85)),none,(some (s lF 198)),none,(some (.ref 0))])
def Uu:Obj:=((.type "super"),none,.fields ⟨[.ref 92,.ref 92,.ref 92]⟩, #[])
def Vu:Obj:=((.type "builtin_function_or_method"),none,.fields ⟨[(.builtin "object.__init_subclass__"),.ref 92]⟩, #[])
def Wu (P:Params):Obj:=dO 4 [e P XF 305 (s lF 198),e P uJ 307 (s aO 306),e P YF 309 (.int (19) 308),e P ZF 310 (.ref 102)]
def Xu:Obj:=cR' aO aO 300 19 98 303
def Yu:Obj:=((.type "frame"),none,.plain, #[(some (.ref 100)),(some (.ref 3)),(some (.ref 97)),none,(some (s lF 198)),none,(some (.ref 0))])
def Zu:Obj:=((.type "super"),none,.fields ⟨[.ref 104,.ref 104,.ref 104]⟩, #[])
def av:Obj:=((.type "builtin_function_or_method"),none,.fields ⟨[(.builtin "object.__init_subclass__"),.ref 104]⟩, #[])
def gv (P:Params):Obj:=dO 4 [e P XF 321 (s lF 198),e P uJ 323 (s bO 322),e P YF 325 (.int (21) 324),e P ZF 326 (.ref 114)]
def jv:Obj:=cR' bO bO 316 21 110 319
def mv:Obj:=((.type "frame"),none,.plain, #[(some (.ref 112)),(some (.ref 3)),(some (.ref 109)),none,(some (s lF 198)),none,(some (.ref 0))])
def qv:Obj:=((.type "super"),none,.fields ⟨[.ref 116,.ref 116,.ref 116]⟩, #[])
def vv:Obj:=((.type "builtin_function_or_method"),none,.fields ⟨[(.builtin "object.__init_subclass__"),.ref 116]⟩, #[])
def wv (P:Params):Obj:=dO 4 [e P XF 337 (s lF 198),e P uJ 339 (s eO 338),e P YF 341 (.int (23) 340),e P ZF 342 (.ref 126)]
def xv:Obj:=cR' eO eO 332 23 122 335
def yv:Obj:=((.type "frame"),none,.plain, #[(some (.ref 124)),(some (.ref 3)),(some (.ref 121)),none,(some (s lF 198)),none,(some (.ref 0))])
def zv:Obj:=((.type "super"),none,.fields ⟨[.ref 128,.ref 128,.ref 128]⟩, #[])
def Qv:Obj:=((.type "builtin_function_or_method"),none,.fields ⟨[(.builtin "object.__init_subclass__"),.ref 128]⟩, #[])
def Rv (P:Params):Obj:=dO 4 [e P XF 353 (s lF 198),e P uJ 355 (s gO 354),e P YF 357 (.int (25) 356),e P ZF 358 (.ref 138)]
def Sv:Obj:=cR' gO gO 348 25 134 351
def Tv:Obj:=((.type "frame"),none,.plain, #[(some (.ref 136)),(some (.ref 3)),(some (.ref 133)),none,(some (s lF 198)),none,(some (.ref 0))])
def Uv:Obj:=((.type "super"),none,.fields ⟨[.ref 140,.ref 140,.ref 140]⟩, #[])
def Vv:Obj:=((.type "builtin_function_or_method"),none,.fields ⟨[(.builtin "object.__init_subclass__"),.ref 140]⟩, #[])
def Wv (P:Params):Obj:=dO 4 [e P XF 369 (s lF 198),e P uJ 371 (s iO 370),e P YF 373 (.int (27) 372),e P ZF 374 (.ref 150)]
def Xv:Obj:=cR' iO iO 364 27 146 367
def Yv:Obj:=((.type "frame"),none,.plain, #[(some (.ref 148)),(some (.ref 3)),(some (.ref 145)),none,(some (s lF 198)),none,(some (.ref 0))])
def Zv:Obj:=((.type "super"),none,.fields ⟨[.ref 152,.ref 152,.ref 152]⟩, #[])
def aw:Obj:=((.type "builtin_function_or_method"),none,.fields ⟨[(.builtin "object.__init_subclass__"),.ref 152]⟩, #[])
def bw:Obj:=(.none,none,.func {name:=(S OO),qualname:=(S OO),params:=cD (RC 16),body:=.stmts (aD (RC 16)),scope:=EC (RC 16),globals:=0,closure:=[],defaults:=.none,kwdefaults:=.none,doc:=.none,pyModule:=.none,annotations:=none,code:=.none,closureTuple:=.none,builtins:=0}, #[])
def dw:Obj:=(.none,none,.func {name:=(S QO),qualname:=(S QO),params:=cD (RC 17),body:=.stmts (aD (RC 17)),scope:=EC (RC 17),globals:=0,closure:=[],defaults:=.none,kwdefaults:=.none,doc:=.none,pyModule:=.none,annotations:=none,code:=.none,closureTuple:=.none,builtins:=0}, #[])
def fw:Obj:=(.none,none,.func {name:=(S RO),qualname:=(S RO),params:=cD (RC 20),body:=.stmts (aD (RC 20)),scope:=EC (RC 20),globals:=0,closure:=[],defaults:=.none,kwdefaults:=.none,doc:=.none,pyModule:=.none,annotations:=none,code:=.none,closureTuple:=.none,builtins:=0}, #[])
def gw:Obj:=(.none,none,.func {name:=(S SO),qualname:=(S SO),params:=cD (RC 21),body:=.stmts (aD (RC 21)),scope:=EC (RC 21),globals:=0,closure:=[],defaults:=.none,kwdefaults:=.none,doc:=.none,pyModule:=.none,annotations:=none,code:=.none,closureTuple:=.none,builtins:=0}, #[])
def iw:Obj:=(.none,none,.func {name:=(S UO),qualname:=(S UO),params:=cD (RC 22),body:=.stmts (aD (RC 22)),scope:=EC (RC 22),globals:=0,closure:=[],defaults:=.none,kwdefaults:=.none,doc:=.none,pyModule:=.none,annotations:=none,code:=.none,closureTuple:=.none,builtins:=0}, #[])
def jw:Obj:=(.none,none,.func {name:=(S VO),qualname:=(S VO),params:=cD (RC 23),body:=.stmts (aD (RC 23)),scope:=EC (RC 23),globals:=0,closure:=[],defaults:=.none,kwdefaults:=.none,doc:=.none,pyModule:=.none,annotations:=none,code:=.none,closureTuple:=.none,builtins:=0}, #[])
def mw:Obj:=(.none,none,.func {name:=(S WO),qualname:=(S WO),params:=cD (RC 24),body:=.stmts (aD (RC 24)),scope:=EC (RC 24),globals:=0,closure:=[],defaults:=.none,kwdefaults:=.none,doc:=.none,pyModule:=.none,annotations:=none,code:=.none,closureTuple:=.none,builtins:=0}, #[])
section
variable (P:Params)
def sw:W.BT:=.node GG (.node (fR P) .nil .nil) (.node GG .nil .nil)
def tw (P:Params):W.BT:=.node RG (.node bw .nil .nil) .nil
def uw:W.BT:=.node (ui P) (.node RG .nil .nil) .nil
def ww (P:Params):W.BT:=.node GG (.node vR .nil .nil) .nil
def yw (P:Params):W.BT:=.node RG (.node GG .nil .nil) (.node HR .nil .nil)
def zw:W.BT:=.node (bR P) (.node rR .nil .nil) .nil
def Qw:W.BT:=.node GG (.node (kR P) .nil .nil) .nil
def Rw (P:Params):W.BT:=.node RG (.node NC .nil .nil) .nil
def Sw:W.BT:=.node (W.boot_o_7 P) (.node NC (.node ji (sw P) (tw P)) (.node RG (uw P) (ww P))) (.node vJ (.node GG (yw P) (zw P)) (.node (ni P) (Qw P) (Rw P)))
def Tw:W.BT:=.node (qi P) (.node RG .nil .nil) (.node FR .nil .nil)
def Uw (P:Params):W.BT:=.node GG (.node GG .nil .nil) .nil
def Vw (P:Params):W.BT:=.node RG (.node GG .nil .nil) .nil
def Ww:W.BT:=.node (dR P) (.node NC .nil .nil) .nil
def Xw:W.BT:=.node GG (.node (iR P) .nil .nil) (.node JR .nil .nil)
def Yw (P:Params):W.BT:=.node RG (.node tR .nil .nil) .nil
def Zw:W.BT:=.node (xi P) (.node NC .nil .nil) .nil
def ax (P:Params):W.BT:=.node GG (.node iw .nil .nil) .nil
def bx:W.BT:=.node NC (.node Tt (.node RG (Tw P) (Uw P)) (.node GG (Vw P) (Ww P))) (.node Vt (.node (li P) (Xw P) (Yw P)) (.node RG (Zw P) (ax P)))
def gx (P:Params):W.BT:=.node qu (.node zv .nil .nil) (.node NC .nil .nil)
def jx:W.BT:=.node (Wu P) (.node pR .nil .nil) .nil
def kx:W.BT:=.node zu (.node (Wv P) .nil .nil) .nil
def lx (P:Params):W.BT:=.node mv (.node GG .nil .nil) .nil
def ox:W.BT:=.node (wu P) (.node Tv .nil .nil) (.node mw .nil .nil)
def qx (P:Params):W.BT:=.node Zu (.node NC .nil .nil) .nil
def vx (P:Params):W.BT:=.node Tu (.node Zv .nil .nil) .nil
def wx:W.BT:=.node (wv P) (.node zR .nil .nil) .nil
def xx:W.BT:=.node (W.boot_o_9 P) (.node di (.node Yt (gx P) (jx P)) (.node (gu P) (kx P) (lx P))) (.node NC (.node du (ox P) (qx P)) (.node ku (vx P) (wx P)))
def yx:W.BT:=.node tu (.node (Rv P) .nil .nil) (.node NC .nil .nil)
def zx (P:Params):W.BT:=.node Yu (.node NC .nil .nil) .nil
def Ox:W.BT:=.node (Ru P) (.node Yv .nil .nil) .nil
def Px (P:Params):W.BT:=.node qv (.node xR .nil .nil) .nil
def Qx (P:Params):W.BT:=.node yu (.node Uv .nil .nil) .nil
def Rx:W.BT:=.node (gv P) (.node fw .nil .nil) .nil
def Sx (P:Params):W.BT:=.node Uu (.node mR .nil .nil) .nil
def Tx (P:Params):W.BT:=.node yv (.node DR .nil .nil) .nil
def Ux:W.BT:=.node O8 (.node fi (.node (au P) (yx P) (zx P)) (.node ju (Ox P) (Px P))) (.node zG (.node eu (Qx P) (Rx P)) (.node (nu P) (Sx P) (Tx P)))
def Vx (P:Params):W.BT:=.node ou (.node gR .nil .nil) (.node ER .nil .nil)
def Wx (P:Params):W.BT:=.node vJ (.node nR .nil .nil) .nil
def Xx (P:Params):W.BT:=.node vi (.node vJ .nil .nil) .nil
def Yx (P:Params):W.BT:=.node jv (.node NC .nil .nil) .nil
def Zx (P:Params):W.BT:=.node vJ (.node Sv .nil .nil) (.node NC .nil .nil)
def ay (P:Params):W.BT:=.node cR (.node sR .nil .nil) .nil
def cy (P:Params):W.BT:=.node Su (.node lR .nil .nil) .nil
def gy (P:Params):W.BT:=.node vJ (.node GG .nil .nil) .nil
def iy:W.BT:=.node (W.boot_o_8 P) (.node GG (.node ki (Vx P) (Wx P)) (.node vJ (Xx P) (Yx P))) (.node (Ut P) (.node cu (Zx P) (ay P)) (.node oi (cy P) (gy P)))
def jy (P:Params):W.BT:=.node si (.node vJ .nil .nil) (.node GR .nil .nil)
def my (P:Params):W.BT:=.node Xu (.node qR .nil .nil) .nil
def ny (P:Params):W.BT:=.node vJ (.node Xv .nil .nil) .nil
def oy (P:Params):W.BT:=.node eR (.node gw .nil .nil) .nil
def qy (P:Params):W.BT:=.node xu (.node jR .nil .nil) .nil
def uy (P:Params):W.BT:=.node vJ (.node NC .nil .nil) .nil
def wy (P:Params):W.BT:=.node yi (.node GG .nil .nil) .nil
def xy (P:Params):W.BT:=.node xv (.node AR .nil .nil) .nil
def yy:W.BT:=.node Rt (.node ei (.node vJ (jy P) (my P)) (.node iu (ny P) (oy P))) (.node Wt (.node mi (qy P) (uy P)) (.node vJ (wy P) (xy P)))
def zy (P:Params):W.BT:=.node zG (.node Qv .nil .nil) (.node jw .nil .nil)
def Oy (P:Params):W.BT:=.node NC (.node NC .nil .nil) .nil
def Py (P:Params):W.BT:=.node Qu (.node NC .nil .nil) .nil
def Qy (P:Params):W.BT:=.node zG (.node wR .nil .nil) .nil
def Ry (P:Params):W.BT:=.node NC (.node zG .nil .nil) (.node IR .nil .nil)
def Sy (P:Params):W.BT:=.node av (.node GG .nil .nil) .nil
def Uy (P:Params):W.BT:=.node zG (.node aw .nil .nil) .nil
def Vy (P:Params):W.BT:=.node NC (.node NC .nil .nil) .nil
def Wy:W.BT:=.node (W.boot_o_10 P) (.node NC (.node Zt (zy P) (Oy P)) (.node NC (Py P) (Qy P))) (.node GG (.node zG (Ry P) (Sy P)) (.node lu (Uy P) (Vy P)))
def Xy (P:Params):W.BT:=.node uu (.node NC .nil .nil) (.node GG .nil .nil)
def Yy (P:Params):W.BT:=.node zG (.node dw .nil .nil) .nil
def Zy (P:Params):W.BT:=.node NC (.node zG .nil .nil) .nil
def az (P:Params):W.BT:=.node vv (.node yR .nil .nil) .nil
def bz (P:Params):W.BT:=.node zG (.node Vv .nil .nil) .nil
def cz (P:Params):W.BT:=.node NC (.node uR .nil .nil) .nil
def dz (P:Params):W.BT:=.node Vu (.node NC .nil .nil) .nil
def fz (P:Params):W.BT:=.node zG (.node NC .nil .nil) .nil
def gz:W.BT:=.node P8 (.node gi (.node NC (Xy P) (Yy P)) (.node zG (Zy P) (az P))) (.node (ii P) (.node fu (bz P) (cz P)) (.node NC (dz P) (fz P)))
def iz:W.BT:=.node (W.boot_o_0 P) (.node (W.boot_o_1 P) (.node (kO P) (Sw P) (bx P)) (.node (W.boot_o_5 P) (xx P) (Ux P))) (.node (W.boot_o_2 P) (.node (W.boot_o_4 P) (iy P) (yy P)) (.node (W.boot_o_6 P) (Wy P) (gz P)))
end
def TH (w:World) (os:OsState):W.SharedT:=(iz w.params,204,(W.boot_heap w.params).life, #[],W.boot_drawn,441,os)
def _root_.PySem.W.Fast.tw15629318191200633153:World->OsState->W.SharedT:=TH
theorem _root_.PySem.W.Fast.te15629318191200633153:@Eq (World->OsState->W.SharedT) TH _root_.PySem.W.Fast.tw15629318191200633153:=rfl
def bs:!Stmt:=W.behindTheImports PySem.Challenge.pw_frameland_k54_no_room
def env:Env:={scope:=PySem.Challenge.pw_frameland_k54_no_room.main.scope,locals:=mainNs,globals:=mainNs,cells:=[],code:=(.ref 13),frame:=some 14}
def L0 (w:World) (os:OsState):=yO treeTable PySem.Challenge.pw_frameland_k54_no_room w (W.boot_heap w.params).objs.size (DF w) 12 (NG w os) (W.topStub PySem.Challenge.pw_frameland_k54_no_room)
def R0 (w:World) (os:OsState):=some (aP w os,((denote treeTable (Code.body bs env),(Code.body bs env),(0,0,0,0),[W.topFrame (0,0,0,0)]):Thread))
def L1 (w:World) (os:OsState):=W.segRunT treeTable PySem.Challenge.pw_frameland_k54_no_room w (W.boot_heap w.params).objs.size (DF w) 1 1 (aP w os) (W.blockOf bs env (Code.body bs env) (0,0,0,0) [W.topFrame (0,0,0,0)])
def R1 (w:World) (os:OsState):=some (Flow.next,(bP w os,((Code.body bs env),((0,0,0,0):Pos))))
def L2 (w:World) (os:OsState):=W.segRunT treeTable PySem.Challenge.pw_frameland_k54_no_room w (W.boot_heap w.params).objs.size (DF w) 1 2611 (bP w os) (W.piecesOf ((bs).take 25) env (Code.body bs env) (0,0,0,0) [W.topFrame (0,0,0,0)])
def R2 (w:World) (os:OsState):=some (Flow.next,(TH w os,((Code.body bs env),((49,0,50,99):Pos))))
def lhs (w:World) (os:OsState):=(bH treeTable PySem.Challenge.pw_frameland_k54_no_room w (W.boot_heap w.params).objs.size (DF w) 6450 (TH w os) (W.restOf ((bs).drop 25) env (Code.body bs env) (49,0,50,99) [W.topFrame (0,0,0,0)])).map (λs=>look PySem.Challenge.pw_frameland_k54_no_room (λs=>MJ.map s.heap.get?) (W.boot_heap w.params) s.abs)
def rhs (w:World):=some (true,Kc w.params)
def lht (w:World) (os:OsState):=(bH treeTable PySem.Challenge.pw_frameland_k54_no_room w (W.boot_heap w.params).objs.size (DF w) 6450 (TH w os) (W.restOf ((bs).drop 25) env (Code.body bs env) (49,0,50,99) [W.topFrame (0,0,0,0)])).map (λs=>W.openSeen vw [] (PySem.importedModules PySem.Challenge.pw_frameland_k54_no_room.main.body) (λs=>W.xlAt vw [] s&&W.recOk (W.RowW.records (PySem.Challenge.rw_frameland_k54_no_room).row.toRowW) s) true s.abs)
def rht:=some (W.openGood vw [])
theorem twins0:(λ(_ _:World->OsState->_)=>true) L0 R0=true:=by k_qdec
theorem Q8:∀(w:World) (j:OsState),PySem.W.Fast.tw6480634986709459259 w j=PySem.W.Fast.tw3368112316094526086 w j:=by intro w j;kernel_rfl
theorem h0 (w:World) (j:OsState):yO treeTable PySem.Challenge.pw_frameland_k54_no_room w (W.boot_heap w.params).objs.size (DF w) 12 (NG w j) (W.topStub PySem.Challenge.pw_frameland_k54_no_room)>(aP w j,((denote treeTable (Code.body bs env),(Code.body bs env),(0,0,0,0),[W.topFrame (0,0,0,0)]):Thread)):=(rC (rC PySem.W.Fast.te6480634986709459259 w) j).trans ((Q8 w j).trans (rC (rC PySem.W.Fast.te3368112316094526086 w) j).symm)
theorem twins1:(λ(_ _:World->OsState->_)=>true) L1 R1=true:=by k_qdec
theorem R8:∀(w:World) (j:OsState),PySem.W.Fast.tw6549898218072122711 w j=PySem.W.Fast.tw8138977323033037049 w j:=by intro w j;kernel_rfl
theorem h1 (w:World) (j:OsState):W.segRunT treeTable PySem.Challenge.pw_frameland_k54_no_room w (W.boot_heap w.params).objs.size (DF w) 1 1 (aP w j) (W.blockOf bs env (Code.body bs env) (0,0,0,0) [W.topFrame (0,0,0,0)])>(Flow.next,(bP w j,((Code.body bs env),((0,0,0,0):Pos)))):=(rC (rC PySem.W.Fast.te6549898218072122711 w) j).trans ((R8 w j).trans (rC (rC PySem.W.Fast.te8138977323033037049 w) j).symm)
theorem twins2:(λ(_ _:World->OsState->_)=>true) L2 R2=true:=by k_qdec
theorem S8:∀(w:World) (j:OsState),PySem.W.Fast.tw5255168214638199525 w j=PySem.W.Fast.tw18023110596874490952 w j:=by intro w j;kernel_rfl
theorem h2 (w:World) (j:OsState):W.segRunT treeTable PySem.Challenge.pw_frameland_k54_no_room w (W.boot_heap w.params).objs.size (DF w) 1 2611 (bP w j) (W.piecesOf ((bs).take 25) env (Code.body bs env) (0,0,0,0) [W.topFrame (0,0,0,0)])>(Flow.next,(TH w j,((Code.body bs env),((49,0,50,99):Pos)))):=(rC (rC PySem.W.Fast.te5255168214638199525 w) j).trans ((S8 w j).trans (rC (rC PySem.W.Fast.te18023110596874490952 w) j).symm)
theorem twins:(λ(_:World->OsState->_) (_:World->_) (_:World->OsState->_) (_:Option _)=>true) lhs rhs lht rht=true:=by k_qdec
theorem jz:∀(w:World) (j:OsState),PySem.W.Fast.tw7128866508377749982 w j=PySem.W.Fast.tw12590348191598281069 w:=by intro w j;kernel_rfl
theorem kz:∀(w:World) (j:OsState),PySem.W.Fast.tw7374437481920917934 w j=PySem.W.Fast.tw10733892774512676622:=by intro w j;kernel_rfl
theorem left:W.LeftO PySem.Challenge.pw_frameland_k54_no_room vw [] (λs=>W.xlAt vw [] s&&W.recOk (W.RowW.records (PySem.Challenge.rw_frameland_k54_no_room).row.toRowW) s) (λs=>MJ.map s.heap.get?) (λw=>(Kf w.params).map λp=>some p.2) (12+(1+(2611+(6450)))):=by
 show Qm (Nl:=6450) (S:=TH) (t:=(W.restOf ((bs).drop 25) env (Code.body bs env) (49,0,50,99) [W.topFrame (0,0,0,0)])) (by kernel_rfl) (by kernel_rfl) (by intro s;kernel_rfl) (λw j r k=>W.go_top (n:=12) (N:=1+(2611+(6450))) (lc (h0 w j)) (W.piece_block (n:=1) (N:=2611+(6450)) (W.segRun_of (h1 w j)) (MM (n:=2611) (N:=6450) (h2 w j) k))) (λw j=>?_) λw j=>?_
 .rw[<-LR];show (rC (rC PySem.W.Fast.te7128866508377749982 w) j).trans ((jz w j).trans (rC PySem.W.Fast.te12590348191598281069 w).symm)
 .show (rC (rC PySem.W.Fast.te7374437481920917934 w) j).trans ((kz w j).trans PySem.W.Fast.te10733892774512676622.symm)
end
end Pf
namespace L2
open PySem PySem.Spec PyProof.Rows
abbrev Key:=Sum Int Str
def HG:Key->Value->Bool
 |.inl k,v=>Value.isInt k v
 |.inr x,v=>Value.isStrOf x v
def kT (w:World):Key->Int
 |.inl k=>hashInt k
 |.inr x=>hashStr w x
theorem wJ:∀{k:Key} {v:Value},HG k v=true->(∃i t,k=inl i/\v=Value.int i t)\/(∃x t,k=inr x/\v=Value.str x t)
 |.inl i,v,h=>by
  let(t,e):=Value.isInt_shape (k:=i) (v:=v) h;show .inl (i,t,rfl,e)
 |.inr x,v,h=>by
  let(t,e):=Value.isStrOf_shape (x:=x) (v:=v) h;show .inr (x,t,rfl,e)
theorem zi (i:Int) (t:Tok):HG (.inl i) (.int i t)=true:=by simp[HG,Value.isInt]
theorem Pi (x:Str) (t:Tok):HG (.inr x) (.str x t)=true:=by simp[HG,Value.isStrOf]
theorem NL (a b:Int):decide ((inl a:Key)=inl b)=(a == b):=by
 by_cases e:a=b
 .subst e;simp
 .let h:¬(inl a:Key)=inl b:=λq=>e (kB q);rw[HA h];show (fC.mpr e).symm
theorem OL (a b:Str):decide ((inr a:Key)=inr b)=decide (a=b):=by
 by_cases e:a=b
 .subst e;simp
 .let h:¬(inr a:Key)=inr b:=λq=>e (Sum.inr.inj q);rw[HA h,HA e]
theorem PL (a:Int) (b:Str):decide ((inl a:Key)=inr b)=false:=HA nofun
theorem QL (a:Str) (b:Int):decide ((inr a:Key)=inl b)=false:=HA nofun
def lD (prog:Program) (w:World):PySem.KeyKind prog w Key where
 is:=HG
 hash:=kT w
 inj:=λv a b ha hb=>by
  let(i,t,rfl,rfl)||(x,t,rfl,rfl):=wJ ha
  .let(j,u,rfl,e)||(y,u,rfl,e):=wJ hb
   .injection e with e1 _;rw[e1]
   .show nomatch e
  .let(j,u,rfl,e)||(y,u,rfl,e):=wJ hb
   .show nomatch e
   .injection e with e1 _;rw[e1]
 byValue:=λk v h=>by
  let(i,t,rfl,rfl)||(x,t,rfl,rfl):=wJ h<;>rfl
 pyHash:=λhv h=>by
  let(i,t,rfl,rfl)||(x,t,rfl,rfl):=wJ hv
  .show wpAny_pyHash_int h
  .show wpAny_pyHash_str h
 eqBool:=λhu hv h=>by
  let(i,t,rfl,rfl)||(x,t,rfl,rfl):=wJ hu
  .let(j,u,rfl,rfl)||(y,u,rfl,rfl):=wJ hv
   .rw[NL] at h;show wpAny_eqBool_int h
   .rw[PL] at h;show SeqAt.EqAt.int_str i t y u _ _ _ _ h
  .let(j,u,rfl,rfl)||(y,u,rfl,rfl):=wJ hv
   .rw[QL] at h;show SeqAt.EqAt.str_int x t j u _ _ _ _ h
   .rw[OL] at h;show wpAny_eqBool_str h
 «strs» :=λk x t v h=>by
  let(i,u,rfl,e)||(y,u,rfl,e):=wJ h
  .show nomatch e
  .injection e with e1 _;subst e1;cases v<;>rfl
theorem Qi (prog:Program) (w:World) (i:Int) (t:Tok):(lD prog w).is (.inl i) (.int i t)=true:=zi i t
theorem Ri (prog:Program) (w:World) (x:Str) (t:Tok):(lD prog w).is (.inr x) (.str x t)=true:=Pi x t
inductive V where
 |non|bl (b:Bool)|int (i:Int)|str (x:Str)|byt (b:Array UInt8)|flt (b:UInt64)|ref (a:Addr)|ty (n:String)
 deriving DecidableEq
def SC:V->Value->Prop
 |.non,u=>u=Value.none
 |.bl b,u=>u=Value.bool b
 |.int i,u=>∃t,u=Value.int i t
 |.str x,u=>∃t,u=Value.str x t
 |.byt b,u=>∃t,u=Value.bytes b t
 |.flt b,u=>∃t,u=Value.float b t
 |.ref a,u=>u=Value.ref a
 |.ty n,u=>u=Value.type n
abbrev VC:!V->!Value->Prop:=Paired SC
theorem VC.length {xs:!V} {us:!Value} (r:VC xs us):xs.length=us.length:=Paired.length r
theorem VC.get:∀{xs:!V} {us:!Value} {i:Nat} {x:V},VC xs us->xs[i]?>x->∃u,us[i]?>u/\SC x u
 |_,_,_,_,.nil,e=>by simp at e
 |_,_,0,_,.cons r _,e=>by simp at e;subst e;show(_,rfl,r)
 |_,_,i+1,x,.cons _ t,e=>by
  let(u,h1,h2):=VC.get (i:=i) (x:=x) t (by simpa using e);show(u,by simpa using h1,h2)
theorem VC.set {x:V} {u:Value} (r:SC x u):∀{xs:!V} {us:!Value} (i:Nat),VC xs us->VC (xs.set i x) (us.set i u)
 |_,_,_,.nil=>.nil
 |_,_,0,.cons _ t=>.cons r t
 |_,_,i+1,.cons q t=>.cons q (VC.set r i t)
theorem VC.append:∀{xs ys:!V} {us ws:!Value},VC xs us->VC ys ws->VC (xs++ys) (us++ws)
 |_,_,_,_,.nil,s=>s
 |_,_,_,_,.cons r t,s=>.cons r (VC.append t s)
theorem VC.take:∀{xs:!V} {us:!Value} (n:Nat),VC xs us->VC (xs.take n) (us.take n)
 |_,_,0,_=>.nil
 |_,_,_+1,.nil=>.nil
 |_,_,n+1,.cons r t=>.cons r (VC.take n t)
theorem VC.drop:∀{xs:!V} {us:!Value} (n:Nat),VC xs us->VC (xs.drop n) (us.drop n)
 |_,_,0,r=>r
 |_,_,_+1,.nil=>.nil
 |_,_,n+1,.cons _ t=>VC.drop n t
def SE:Option V->Option Value->Prop
 |some v,some u=>SC v u
 |none,none=>True
 |_,_=>False
def KV {κ:Type}:!(κ×V)->!(κ×Value)->Prop:=Paired λ(p:κ×V) (q:κ×Value)=>p.1=q.1/\SC p.2 q.2
def kV:Key->V
 |.inl i=>.int i
 |.inr x=>.str x
inductive HO where
 |lst (xs:!V)
 |tup (xs:!V)
 |dK (kvs:!(Key×V))|dT (kvs:!(!Key×V))
 |set (S:Int->Bool) (n:Nat)
 |ins (C dx:Addr) (fs:!(Str×V))
 |own (x:Addr)
 |xd (fs:!(Str×V))
 |met (f x:Addr)
 |rng (lo hi:Int)
 |frz (o:Obj) (u:HO)
 |tbl (ps:Array Value)
 |ext (φ:Heap->Prop)
abbrev Hp:=Addr->Option HO
def JC (H:Hp) (a:Addr) (o:HO):Hp:=λb=>if b=a then some o else H b
theorem nD {H:Hp} {a:Addr} {o:HO}:JC H a o a>o:=by unfold JC;rw[iA rfl]
theorem WC {H:Hp} {a b:Addr} {o:HO} (h:b≠a):JC H a o b=H b:=by unfold JC;rw[gA h]
theorem Si {H:Hp} {a:Addr} {o u:HO}:JC (JC H a o) a u=JC H a u:=by
 funext b;unfold JC;split<;>rfl
theorem uD {H:Hp} {a b:Addr} {o u:HO} (h:H a>o) (h':H b>u) (d:o≠u):a≠b:=by
 intro e;subst e;rw[h] at h';show d (yA h')
theorem FD {H:Hp} {a b:Addr} {o:HO} (h:H a>o) (h':H b=none):a≠b:=by
 intro e;subst e;rw[h] at h';cases h'
section
variable (P:Program) (w:World)
def tD (H:Hp) (h:Heap) (a:Addr):HO->Prop
 |.lst xs=>xs.length<=sizeLine/\∃(its:!Value) (n:Nat),VC xs its/\h.get? a>{cls:=.type "list",data:=.seq its.toArray n}
 |.tup xs=>xs.length<=sizeLine/\∃its:!Value,VC xs its/\IsTup h a its.toArray
 |.dK kvs=>kvs.length<=sizeLine/\(a == sysModules)=false/\∃vs,KV kvs vs/\h.DictOf (lD P w) a vs
 |.dT kvs=>kvs.length<=sizeLine/\(a == sysModules)=false/\∃xs:!(!Key×Addr×Value),
  Paired (λ(p:!Key×V) (q:!Key×Addr×Value)=>p.1=q.1/\H q.2.1>(.tup (p.1.map kV))/\SC p.2 q.2.2) kvs xs/\
  ∃o es ep,h.get? a>o/\o.ExactDict/\o.data=.dict es ep/\es.toList=xs.map (entryOfKey (tupleKind (lD P w)))/\(xs.map (·.1)).Nodup
 |.set S n=>h.SetOf (intKind P w) a S n
 |.ins C dx fs=>H dx>(.own a)/\fs.length<=1000/\dx≠a/\h.get? a>(PySem.W.instObj C dx)/\
  ∃mA,h.Ns1 dx mA/\(∀f,SE (fs.lookup f) (mA f))/\PySem.Within mA (fs.map (·.1))
 |.own _=>∃o,h.get? a>o
 |.xd fs=>∃mA,h.Ns1 a mA/\∀f,SE (fs.lookup f) (mA f)
 |.rng lo hi=>∃t u v,h.get? a>{cls:=.type "range",data:=.fields #[.int lo t,.int hi u,.int 1 v]}
 |.frz o u=>h.get? a>o/\tD H h a u
 |.tbl ps=>h.get? a>{cls:=.none,data:=.fields ps}
 |.met f x=>h.get? a>(PySem.W.methodObj (.ref f) (.ref x))
 |.ext φ=>φ h/\(∃o,h.get? a>o)/\∀h1 h2:Heap,φ h1->(∀o,h1.get? a>o->h2.get? a>o)->φ h2
def YE (H:Hp) (h:Heap):Prop:=∀a o,H a>o->tD P w H h a o
end
section
variable {P:Program} {w:World} {H H':Hp} {h h':Heap} {a:Addr} {o:HO}
theorem tD.lt (x:tD P w H h a o):a < h.objs.size:=by
 cases o with
 |lst xs=>let(_,_,_,_,e):=x;show FA e
 |tup xs=>let(_,_,_,p):=x;show p.lt
 |dK kvs=>let(_,_,_,_,o,_,_,e,_):=x;show FA e
 |dT kvs=>let(_,_,_,_,o,_,_,e,_):=x;show FA e
 |set S n=>let(o,_,_,_,e,_):=x;show FA e
 |ins C j fs=>let(_,_,_,e,_):=x;show FA e
 |own y=>let(_,e):=x;show FA e
 |xd fs=>let(_,(_,_,_,e,_),_):=x;show FA e
 |rng lo hi=>let(_,_,_,e):=x;show FA e
 |frz D u=>let(e,_):=x;show FA e
 |tbl ps=>show FA (show h.get? a>_ from x)
 |met f y=>show FA (show h.get? a>_ from x)
 |ext F=>let(_,(_,e),_):=x;show FA e
theorem Paired.mapP {α β:Type} {F G:α->β->Prop}:∀{l₁:!α} {l₂:!β},Paired F l₁ l₂->(∀a b,F a b->G a b)->Paired G l₁ l₂
 |_,_,.nil,_=>.nil
 |_,_,.cons r t,f=>.cons (f _ _ r) (Paired.mapP t f)
theorem tD.stay (x:tD P w H h a o) (k:∀b u,(b=a\/H b>(.own a))->h.get? b>u->h'.get? b>u)
  (ho:∀b,H b>(.own a)->H' b>(.own a)) (O:∀b xs,H b>(.tup xs)->H' b>(.tup xs)):tD P w H' h' a o:=by
 induction o with
 |lst xs=>let(j,F,n,r,e):=x;show(j,F,n,r,k _ _ (.inl rfl) e)
 |tup xs=>let(j,F,r,D,e,c):=x;show(j,F,r,D,k _ _ (.inl rfl) e,c)
 |dK kvs=>let(j,y,vs,r,D,es,ep,e,c):=x;show(j,y,vs,r,D,es,ep,k _ _ (.inl rfl) e,c)
 |dT kvs=>
  let(j,y,xs,r,D,es,ep,e,c):=x;show(j,y,xs,Paired.mapP r λp q j=>(j.1,O _ _ j.2.1,j.2.2),D,es,ep,k _ _ (.inl rfl) e,c)
 |set S n=>let(D,es,ep,t,e,c):=x;show(D,es,ep,t,k _ _ (.inl rfl) e,c)
 |ins C W fs=>
  let(d,j,V,e,J,(L,es,ep,N,c),r):=x;show(ho _ d,j,V,k _ _ (.inl rfl) e,J,(L,es,ep,k _ _ (.inr d) N,c),r)
 |own y=>let(D,e):=x;show⟨D,k _ _ (.inl rfl) e⟩
 |xd fs=>let(J,(L,es,ep,e,c),r):=x;show(J,(L,es,ep,k _ _ (.inl rfl) e,c),r)
 |rng lo hi=>let(t,u,v,e):=x;show(t,u,v,k _ _ (.inl rfl) e)
 |frz D u U=>let(e,q):=x;show⟨k _ _ (.inl rfl) e,U q⟩
 |tbl ps=>
  let e:h.get? a>{cls:=.none,data:=.fields ps}:=x;change h'.get? a>{cls:=.none,data:=.fields ps};show k a _ (.inl rfl) e
 |met f y=>
  let e:h.get? a>(PySem.W.methodObj (.ref f) (.ref y)):=x;change h'.get? a>(PySem.W.methodObj (.ref f) (.ref y));show k a _ (.inl rfl) e
 |ext Y=>let(p,(o,e),st):=x;show(st _ _ p λo q=>k _ _ (.inl rfl) q,⟨o,k _ _ (.inl rfl) e⟩,st)
theorem YE.lt (x:YE P w H h) (e:H a>o):a < h.objs.size:=(x a o e).lt
theorem YE.fresh (x:YE P w H h) (e:h.objs.size<=a):H a=none:=by
 cases q:H a with
 |none=>rfl
 |some u=>show absurd (KA (x.lt q) e) (vC _)
theorem YE.kept (x:YE P w H h) (k:∀b u,h.get? b>u->h'.get? b>u):YE P w H h':=λa o e=>
 (x a o e).stay (λb u ο q=>k b u q) (λο q=>q) λο ο q=>q
theorem YE.laid (x:YE P w H h) (k:∀b u,h.get? b>u->h'.get? b>u) (F:h.objs.size<=a) (J:tD P w (JC H a o) h' a o):YE P w (JC H a o) h':=λb u e=>by
 let D:=x.fresh F;by_cases j:b=a
 .subst j;rw[nD] at e;cases e;show J
 .rw[WC j] at e;show (x b u e).stay (λc v ο q=>k c v q) (λc q=>by rw[WC (FD q D)];show q) λc xs q=>by rw[WC (FD q D)];show q
end
def Rd (H:Hp) (a:Addr) (u:HO):Prop:=H a>u\/∃o,H a>(.frz o u)
theorem Rd.of {H:Hp} {a:Addr} {u:HO} (h:H a>u):Rd H a u:=.inl h
theorem Rd.ok {P:Program} {w:World} {H:Hp} {h:Heap} {a:Addr} {u:HO} (r:Rd H a u) (x:YE P w H h):tD P w H h a u:=by
 let r||(o,r):=r
 .show x a u r
 .let(_,q):=x a _ r;show q
def cP:Option HO->Prop
 |some (.lst _)=>True
 |some (.dK _)=>True
 |some (.dT _)=>True
 |some (.set _ _)=>True
 |some (.ins _ _ _)=>True
 |some (.ext _)=>True
 |_=>False
section
variable {P:Program} {w:World} {H:Hp} {h h':Heap} {x e:Addr} {o':HO}
theorem YE.write (ok:YE P w H h) (L:cP (H x)) (N:e=x\/H e>(.own x)) (k:∀b u,b≠e->h.get? b>u->h'.get? b>u) (V:∃u,h'.get? e>u)
  (Y:tD P w (JC H x o') h' x o'):YE P w (JC H x o') h':=λb u q=>by
 let O:∀c y,H c>(.own y)->c≠x:=λc y r j=>by subst j;rw[r] at L;show L
 let Z:∀c xs,H c>(.tup xs)->c≠x:=λc xs r j=>by subst j;rw[r] at L;show L
 by_cases D:b=x
 .subst D;rw[nD] at q;cases q;show Y
 .rw[WC D] at q;by_cases F:b=e
  .let U:H b>(.own x):=by
    let j||j:=N
    .show absurd (F.trans j) D
    .rw[F];show j
   rw[q] at U;cases U;let(v,W):=V;show⟨v,by rw[F];show W⟩
  .show (ok b u q).stay (λc v J r=>k c v ?_ r) (λc r=>by rw[WC (O c b r)];show r) λc xs r=>by rw[WC (Z c xs r)];show r
   let rfl||J:=J
   .show F
   .rintro rfl;let j||j:=N
    .show O c b J j
    .rw[J] at j;cases j;show D rfl
end
structure Un (fs ex:!Addr) (H H':Hp) (h h':Heap):Prop where
 keep:∀b o,h.get? b>o->H b=none->b∉fs->b∉ex->h'.get? b>o
 slot:∀b o,h.get? b>o->H b=none->b∈fs->b∉ex->∃sl,h'.get? b>{o with slots:=sl}
 free:∀b o,h.get? b>o->H b=none->b∉ex->H' b=none
 there:∀b o,h.get? b>o->b∉ex->∃o',h'.get? b>o'
 tups:∀b xs,H b>(.tup xs)->H' b>(.tup xs)
 frzs:∀b o u,H b>(.frz o u)->H' b>(.frz o u)
 tbls:∀b ps,H b>(.tbl ps)->∃more,H' b>(.tbl (ps++more))
section
variable {fs fs' ex ex':!Addr} {H H1 H2:Hp} {h h1 h2 h':Heap} {a x e:Addr} {o:HO}
theorem Un.any (u:Un fs ex H H1 h h1) {b:Addr} {j:Obj} (q:h.get? b>j) (n:H b=none) (F:b∉ex):∃sl,h1.get? b>{j with slots:=sl}:=by
 by_cases D:b∈fs
 .show u.slot b j q n D F
 .show⟨j.slots,u.keep b j q n D F⟩
theorem Un.trans (a:Un fs ex H H1 h h1) (b:Un fs ex H1 H2 h1 h2):Un fs ex H H2 h h2 where
 keep:=λc D q n J j=>b.keep c D (a.keep c D q n J j) (a.free c D q n j) J j
 slot:=λc D q n J j=>by
  let(sl,F):=a.slot c D q n J j;let(V,L):=b.slot c _ F (a.free c D q n j) J j;show⟨V,L⟩
 free:=λc D q n j=>by
  let(N,F):=a.there c D q j;show b.free c N F (a.free c D q n j) j
 there:=λc D q j=>by
  let(N,F):=a.there c D q j;show b.there c N F j
 tups:=λc xs q=>b.tups c xs (a.tups c xs q)
 frzs:=λc D xs q=>b.frzs c D xs (a.frzs c D xs q)
 tbls:=λc ps q=>by
  let(O,F):=a.tbls c ps q;let(U,L):=b.tbls c _ F;show⟨O++U,by rw[L,Array.append_assoc]⟩
theorem Un.kept (k:∀b u,h.get? b>u->h'.get? b>u):Un fs ex H H h h':=
 (λb j q ο ο ο=>k b j q,λb j q ο ο ο=>⟨j.slots,k b j q⟩,λο ο ο n ο=>n,λb j q ο=>⟨j,k b j q⟩,λο ο q=>q,λο ο ο q=>q,λο ps q=>⟨#[],by rw[q];simp⟩)
theorem Un.refl:Un fs ex H H h h:=Un.kept λο ο q=>q
theorem Un.laid (k:∀b u,h.get? b>u->h'.get? b>u) (D:h.objs.size<=a) (j:H a=none):Un fs ex H (JC H a o) h h' where
 keep:=λb u q ο ο ο=>k b u q
 slot:=λb u q ο ο ο=>⟨u.slots,k b u q⟩
 free:=λb u q n ο=>by rw[WC (XA (KA (FA q) D))];show n
 there:=λb u q ο=>⟨u,k b u q⟩
 tups:=λb xs q=>by rw[WC (FD q j)];show q
 frzs:=λb u xs q=>by rw[WC (FD q j)];show q
 tbls:=λb ps q=>⟨#[],by rw[WC (FD q j),q];simp⟩
theorem Un.write (D:cP (H x)) (O:e=x\/H e>(.own x)) (k:∀b u,b≠e->h.get? b>u->h'.get? b>u) (U:∃u,h'.get? e>u):Un fs ex H (JC H x o) h h':=by
 let N:∀b,H b=none->b≠x:=λb n j=>by subst j;rw[n] at D;show D
 let J:∀b,H b=none->b≠e:=λb n j=>by
  subst j;let r||r:=O
  .show N b n r
  .rw[n] at r;cases r
 let F:∀b u,H b>u->¬cP (some u)->b≠x:=λb u q nm j=>by subst j;rw[q] at D;show nm D
 show(λb u q n ο ο=>k b u (J b n) q,λb u q n ο ο=>⟨u.slots,k b u (J b n) q⟩,λb u q n ο=>by rw[WC (N b n)];show n,λb u q ο=>?_,
  λb xs q=>by rw[WC (F b _ q λj=>j)];show q,λb u xs q=>by rw[WC (F b _ q λj=>j)];show q,λb ps q=>⟨#[],by rw[WC (F b _ q λj=>j),q];simp⟩)
 by_cases L:b=e
 .subst L;show U
 .show⟨u,k b u L q⟩
end
def trk (h:Heap) (H:Hp):!Addr:=(List.range h.objs.size).filter λa=>(H a).isSome
def SG (h:Heap) (H:Hp):Heap:=PySem.W.hideAll h (trk h H)
theorem Ti (h:Heap) (H:Hp):(SG h H).objs.size=h.objs.size:=PySem.W.hideAll_size _ _
theorem Ui {h:Heap} {H:Hp} {b:Addr} {o:Obj} (e:h.get? b>o) (n:H b=none):(SG h H).get? b>o:=
 PySem.W.hideAll_get _ e λj=>by
  let q:(H b).isSome=true:=(DA.mp j).2;rw[n] at q;simp at q
theorem Vi {h:Heap} {H:Hp} {b:Addr} {o:Obj} (e:(SG h H).get? b>o):h.get? b>o/\H b=none:=by
 let j:h.get? b>o:=PySem.W.of_hideAll (trk h H) e;show⟨j,?_⟩;cases q:H b with
 |none=>rfl
 |some x=>
  let D:b∈trk h H:=DA.mpr ⟨yB.mpr (FA j),by simp[q]⟩;let F:(SG h H).get? b=none:=PySem.W.hideAll_none (trk h H) D;rw[F] at e;cases e
def NJ (g h:Heap) (L:Addr):!(Addr×Obj):=(List.range h.objs.size).filterMap λa=>if a=L\/(g.get? a).isSome=true then none else (h.get? a).map λo=>(a,o)
def rest (g h:Heap) (L d:Addr):!(Addr×Obj):=(NJ g h L).filter λp=>decide (p.1≠d)
structure Mod (K:PySem.W.Frag) (mg:Str->Option Value) (base:Heap):Prop where
 kin:K.In base
 glob:base.Ns mainGlobals mg
 blt:∃mb,base.Ns builtinsNs mb/\∀x:Str,x≠"__name__"->mb x=bootBuiltins x
 nolimit:base.NoLimit
set_option genInjectivity false in
structure Cx where
 prog:Program
 w:World
 K:PySem.W.Frag
 mg:Str->Option Value
 base:Heap
 A:Around
 N:!Str
 s₀:Shared
 H₀:Hp
 env:Env
 outer:!Env
 stack:!Env
 ex:!Addr
 fn:Str->Bool
 calm:Bool
 pn:!(Addr×Obj)
 xe:Value->Shared->Prop
def xE (l:!Env):!Addr:=l.filterMap (·.frame)
abbrev Cx.fs (X:Cx):!Addr:=xE X.outer
def MR (sc:Scope) (x:Str):Prop:=sc.names.lookup x>.local\/sc.names.lookup x>.cell\/sc.names.lookup x>.free
def NR (sc:Scope) (x:Str):Prop:=sc.names.lookup x>.local\/sc.names.lookup x>.cell
def lT (env:Env) (h:Heap) (m:Str->Option Value) (x:Str) (u:Value):Prop:=
 (env.kindOf x>.local/\m x>u)\/((env.kindOf x>.cell\/env.kindOf x>.free)/\∃c,env.cells.lookup x>c/\h.IsCell c (some u))
structure Cx.Ok (X:Cx):Prop where
 mod:Mod X.K X.mg X.base
 kind:X.env.scope.kind=.function
 glob:X.env.globals=mainGlobals
 blt:X.env.builtins=builtinsNs
 above:X.s₀.heap.objs.size<=X.env.locals
 inj:∀x y c,X.env.cells.lookup x>c->X.env.cells.lookup y>c->x=y
 has:∀x,(X.env.kindOf x>.cell\/X.env.kindOf x>.free)->∃c,X.env.cells.lookup x>c
 cab:∀x c,X.fn x=true->X.env.cells.lookup x>c->X.s₀.heap.objs.size<=c
 hd:X.calm=true->X.A.handled=none
 frames:X.A.frames>X.stack
 stk:X.stack=X.outer\/(X.stack=X.env::X.outer/\X.env.frame>X.env.locals)
 exf:∀b∈X.ex,b≠X.env.locals/\∀x c,X.env.cells.lookup x>c->c≠b
 bs:∀b o,X.base.get? b>o->X.s₀.heap.get? b>o/\X.H₀ b=none
 bsz:X.base.objs.size<=X.s₀.heap.objs.size
 noex:∀b o,X.base.get? b>o->b∉X.ex
 exfs:∀b∈X.ex,b∉X.fs
 funs:X.s₀.heap.FunFrames X.base X.outer
 frf:∀b∈X.fs,X.H₀ b=none
structure LC (X:Cx) (pins:!(Addr×Obj)) (σ:!(Option V)) (H:Hp) (s:Shared):Prop where
 ok:X.Ok
 os:s.os=X.s₀.os
 bare:AllBare s.gens
 base:Un X.fs X.ex X.H₀ H X.s₀.heap s.heap
 loc:∃m,s.heap.Ns X.env.locals m/\∀(i:Nat) (x:Str) (v:V),X.N[i]?>x->σ[i]?>(some v)->MR X.env.scope x->∃u,SC v u/\lT X.env s.heap m x u
 cell:∀x c,X.env.cells.lookup x>c->∃v,s.heap.IsCell c v
 free:H X.env.locals=none
 freeC:∀x c,X.env.cells.lookup x>c->H c=none
 pin:∀p∈X.pn++pins,s.heap.get? p.1>p.2/\H p.1=none/\p.1≠X.env.locals/\p.1∉X.fs/\∀v,p.2.data≠.cell v
 hok:YE X.prog X.w H s.heap
 len:σ.length=X.N.length
section
variable {X:Cx} {pins:!(Addr×Obj)} {σ:!(Option V)} {H H':Hp} {s:Shared} {h':Heap}
theorem Cx.Ok.nofr (ok:X.Ok) {b:Addr} {o:Obj} (e:X.base.get? b>o):b∉X.fs:=λj=>by
 have:=(ok.funs.mem j).1;rw[e] at this;cases this
theorem LC.bs (I:LC X pins σ H s):∀b o,X.base.get? b>o->s.heap.get? b>o/\H b=none:=λb o e=>
 ⟨I.base.keep b o (I.ok.bs b o e).1 (I.ok.bs b o e).2 (I.ok.nofr e) (I.ok.noex b o e),I.base.free b o (I.ok.bs b o e).1 (I.ok.bs b o e).2 (I.ok.noex b o e)⟩
theorem LC.bk (I:LC X pins σ H s):∀b o,X.base.get? b>o->s.heap.get? b>o:=λb o e=>(I.bs b o e).1
theorem LC.mod (I:LC X pins σ H s):Mod X.K X.mg X.base:=I.ok.mod
theorem LC.kIn (I:LC X pins σ H s):X.K.In s.heap:=I.ok.mod.kin.keeps I.bk
theorem LC.fr (I:LC X pins σ H s):∃m,Fr X.base X.env.locals s.heap m:=
 let ⟨m,hn,_⟩:=I.loc
 (m,hn,I.bk,FB I.ok.bsz I.ok.above)
theorem LC.lt (I:LC X pins σ H s):X.env.locals < s.heap.objs.size:=let ⟨_,hn,_⟩:=I.loc;hn.lt
theorem LC.sz (I:LC X pins σ H s):X.s₀.heap.objs.size<=s.heap.objs.size:=FB I.ok.above (Nat.le_of_lt I.lt)
theorem LC.nofs (j:LC X pins σ H s) {a:Addr} (h:s.heap.objs.size<=a):a∉X.fs:=λD=>by
 let(_,o,ho,_):=j.ok.funs.mem D;show absurd (KA (FA ho) (FB j.sz h)) (vC _)
theorem LC.cne (j:LC X pins σ H s):∀x c,X.env.cells.lookup x>c->c≠X.env.locals:=λx c e J=>by
 let(v,o,ho,hd):=j.cell x c e;let(m,(L,es,ep,F,D,_),_):=j.loc;rw[J,F] at ho;cases ho;rw[D] at hd;cases hd
theorem LC.funs (j:LC X pins σ H s):s.heap.FunFrames X.base X.outer:=by
 let all:∀(l:!Env),(∀b∈xE l,b∈X.fs)->X.s₀.heap.FunFrames X.base l->s.heap.FunFrames X.base l:=by
  intro l
  induction l with
  |nil=>intro _ _;trivial
  |cons env r W=>
   intro N O;let(hk,(L,o,J,U,ho,hd),V):=O;let D:L∈X.fs:=N L (by unfold xE;rw[qC,J];show cA);let(sl,e):=j.base.slot L o ho (j.ok.frf L D) D λY=>j.ok.exfs L Y D;show(hk,(L,_,J,U,e,hd),W (λb F=>N b (by unfold xE;rw[qC,J];show kA _ F)) V)
 show all X.outer (λο F=>F) j.ok.funs
theorem LC.stack (j:LC X pins σ H s):s.heap.FunFrames X.base X.stack:=by
 let e||(e,D):=j.ok.stk
 .rw[e];show j.funs
 .rw[e];let(m,F,_):=j.loc;show .cons (by rw[j.ok.kind];decide) D F ?_ j.funs;show Heap.get?_none_of_le (FB j.ok.bsz j.ok.above)
theorem LC.stkSub (D:LC X pins σ H s):∀b∈xE X.stack,b∈X.env.locals::X.fs:=λb j=>by
 let e||(e,F):=D.ok.stk
 .rw[e] at j;show kA _ j
 .rw[e] at j;unfold xE at j;rw[qC,F] at j;show j
theorem LC.stkFree (j:LC X pins σ H s):∀b∈xE X.stack,H b=none:=λb D=>by
 let e||D:=pA.mp (j.stkSub b D)
 .rw[e];show j.free
 .let(_,o,ho,_):=j.ok.funs.mem D;show j.base.free b o ho (j.ok.frf b D) λF=>j.ok.exfs b F D
theorem LC.step {g':Array GenState} {t':Nat} {d':Drawn} {ch:!Addr} (j:LC X pins σ H s)
  (O:∀b∈ch,(b∈X.ex\/X.s₀.heap.objs.size<=b)/\b≠X.env.locals/\(∀x c,X.env.cells.lookup x>c->c≠b)/\∀p∈X.pn++pins,p.1≠b)
  (keep:∀b o,b≠X.env.locals->b∉X.fs->b∉ch->s.heap.get? b>o->H b=none->h'.get? b>o)
  (a4:∀b o,b≠X.env.locals->b∈X.fs->b∉ch->s.heap.get? b>o->H b=none->∃sl,h'.get? b>{o with slots:=sl}) (free:∀b o,b∉ch->s.heap.get? b>o->H b=none->H' b=none)
  (b1:∀b o,b∉ch->s.heap.get? b>o->∃V,h'.get? b>V)
  (b2:∀b xs,H b>(.tup xs)->H' b>(.tup xs)) (a6:∀b o u,H b>(.frz o u)->H' b>(.frz o u)) (b0:∀b ps,H b>(.tbl ps)->∃more,H' b>(.tbl (ps++more)))
  (ns:∀m,s.heap.Ns X.env.locals m->h'.Ns X.env.locals m) (ad:YE X.prog X.w H' h') (a9:AllBare g'):
  LC X pins σ H' {s with heap:=h',gens:=g',drawn:=d',toks:=t'}:=by
 let a2:∀b o,X.s₀.heap.get? b>o->b≠X.env.locals:=λb o e=>XA (KA (FA e) j.ok.above);let W:∀b o,X.s₀.heap.get? b>o->b∉X.ex->b∉ch:=λb o e D L=>by
  let F||F:=(O b L).1
  .show D F
  .show absurd (KA (FA e) F) (vC _)
 let Y:∀x c,X.env.cells.lookup x>c->∀v,s.heap.IsCell c v->h'.IsCell c v:=λx c e v ⟨o,ho,hd⟩=>by
  let U:c∉ch:=λF=>(O c F).2.2.1 x c e rfl;by_cases Z:c∈X.fs
  .let(sl,q):=a4 c o (j.cne x c e) Z U ho (j.freeC x c e);show(_,q,hd)
  .show(o,keep c o (j.cne x c e) Z U ho (j.freeC x c e),hd)
 show(j.ok,j.os,a9,(λb o e n L D=>?_,λb o e n L D=>?_,λb o e n D=>?_,λb o e D=>?_,λb xs e=>b2 b xs (j.base.tups b xs e),λb o xs e=>a6 b o xs (j.base.frzs b o xs e),λb ps e=>?_),?_,λx c e=>?_,?_,λx c e=>?_,λp a0=>?_,ad,j.len)
 .show keep b o (a2 b o e) L (W b o e D) (j.base.keep b o e n L D) (j.base.free b o e n D)
 .let(sl,J):=j.base.slot b o e n L D;let(am,N):=a4 b _ (a2 b o e) L (W b o e D) J (j.base.free b o e n D);show⟨am,N⟩
 .let(V,J):=j.base.there b o e D;show free b V (W b o e D) J (j.base.free b o e n D)
 .let(V,J):=j.base.there b o e D;show b1 b V (W b o e D) J
 .let(ah,J):=j.base.tbls b ps e;let(al,N):=b0 b _ J;show⟨ah++al,by rw[N,Array.append_assoc]⟩
 .let(m,ac,ab):=j.loc;show(m,ns m ac,λi x v J N a5=>?_);let(u,r,l):=ab i x v J N a5;show(u,r,?_);let l||(k,c,e,F):=l
  .show .inl l
  .show .inr (k,c,e,Y x c e _ F)
 .let(v,F):=j.cell x c e;show⟨v,Y x c e v F⟩
 .let(m,(o,_,_,ho,_),_):=j.loc;show free _ o (λF=>(O _ F).2.1 rfl) ho j.free
 .let(v,o,ho,hd):=j.cell x c e;show free c o (λF=>(O c F).2.2.1 x c e rfl) ho (j.freeC x c e)
 .let(e,n,a1,a3,d):=j.pin p a0;let U:p.1∉ch:=λF=>(O p.1 F).2.2.2 p a0 rfl;show(keep p.1 p.2 a1 a3 U e n,free p.1 p.2 U e n,a1,a3,d)
theorem LC.un {t':Nat} (j:LC X pins σ H s) (u:Un X.fs [] H H' s.heap h') (U:YE X.prog X.w H' h'):LC X pins σ H' {s with heap:=h',toks:=t'}:=by
 let(m,(o,es,ep,ho,r),_):=id j.loc;let(sl,N):=u.any ho j.free (by simp);show j.step (g':=s.gens) (d':=s.drawn) (ch:=[]) (λο W=>nomatch W) (λb o ο D ο e n=>u.keep b o e n D (by simp)) (λb o ο D ο e n=>u.slot b o e n D (by simp)) (λb o ο e n=>u.free b o e n (by simp)) (λb o ο e=>u.there b o e (by simp)) u.tups u.frzs u.tbls (λY O=>by
  let(Z,L,J,F,V):=O;rw[ho] at F;cases F;show(_,L,J,N,V)) U j.bare
theorem LC.call {g':Array GenState} {t':Nat} {d':Drawn} {ch:!Addr} (D:LC X pins σ H s) (u:Un (xE X.stack) ch H H' s.heap h') (Z:YE X.prog X.w H' h') (W:AllBare g')
  (L:∀b∈ch,(b∈X.ex\/X.s₀.heap.objs.size<=b)/\b≠X.env.locals/\(∀x c,X.env.cells.lookup x>c->c≠b)/\∀p∈X.pn++pins,p.1≠b):
  LC X pins σ H' {s with heap:=h',gens:=g',drawn:=d',toks:=t'}:=by
 let(m,(o,es,ep,ho,r),_):=id D.loc;let(sl,F):=u.any ho D.free λJ=>(L _ J).2.1 rfl;show D.step (ch:=ch) L (λb o F V j e n=>u.keep b o e n (λJ=>(pA.mp (D.stkSub b J)).elim F V) j) (λb o ο ο j e n=>u.any e n j) (λb o j e n=>u.free b o e n j) (λb o j e=>u.there b o e j) u.tups u.frzs u.tbls (λa1 Y=>by
  let(a2,U,O,N,a0):=Y;rw[ho] at N;cases N;show(_,U,O,F,a0)) Z W
theorem LC.turned {t':Nat} {D:Addr} (J:LC X pins σ H s) (k:∀b o,b≠D->s.heap.get? b>o->h'.get? b>o) (W:H D=none) (L:D≠X.env.locals)
  (h1:D∈X.ex\/X.s₀.heap.objs.size<=D) (h2:∀x c,X.env.cells.lookup x>c->c≠D) (O:∀p∈X.pn++pins,p.1≠D):LC X pins σ H {s with heap:=h',toks:=t'}:=by
 let N:∀b u,H b>u->b≠D:=λb u e j=>by rw[j,W] at e;cases e
 show J.step (g':=s.gens) (d':=s.drawn) (ch:=[D]) (λb U=>?_) (λb o ο ο F e ο=>k b o (λj=>F (by simp[j])) e) (λb o ο ο F e ο=>⟨o.slots,k b o (λj=>F (by simp[j])) e⟩) (λο ο ο ο n=>n)
  (λb o F e=>⟨o,k b o (λj=>F (by simp[j])) e⟩) (λο ο e=>e) (λο ο ο e=>e) (λb ps e=>⟨#[],by rw[e];simp⟩) (λm V=>?_) (λb u e=>?_) J.bare
 .let e:b=D:=by simpa using U
  subst e;show(h1,L,h2,O)
 .let(o,es,ep,ho,r):=V;show(o,es,ep,k _ o (Ne.symm L) ho,r)
 .show (J.hok b u e).stay (λc v F q=>k c v ?_ q) (λο q=>q) λο ο q=>q;let j||j:=F
  .rw[j];show N b u e
  .show N c _ j
theorem LC.tok (I:LC X pins σ H s) (t:Nat):LC X pins σ H {s with toks:=t}:=I.un (h':=s.heap) (t':=t) Un.refl I.hok
theorem LC.kept {t':Nat} (I:LC X pins σ H s) (k:∀b u,s.heap.get? b>u->h'.get? b>u):LC X pins σ H {s with heap:=h',toks:=t'}:=I.un (Un.kept k) (I.hok.kept k)
theorem LC.laid {a:Addr} {o:HO} {t':Nat} (j:LC X pins σ H s) (k:∀b u,s.heap.get? b>u->h'.get? b>u) (D:s.heap.objs.size<=a) (F:tD X.prog X.w (JC H a o) h' a o):
 LC X pins σ (JC H a o) {s with heap:=h',toks:=t'}:=j.un (Un.laid k D (j.hok.fresh D)) (j.hok.laid k D F)
theorem LC.write {x e:Addr} {o:HO} {t':Nat} (j:LC X pins σ H s) (J:cP (H x)) (D:e=x\/H e>(.own x)) (k:∀b u,b≠e->s.heap.get? b>u->h'.get? b>u) (F:∃u,h'.get? e>u)
 (L:tD X.prog X.w (JC H x o) h' x o):LC X pins σ (JC H x o) {s with heap:=h',toks:=t'}:=j.un (Un.write J D k F) (j.hok.write J D k F L)
theorem LC.pins_of {D:!(Addr×Obj)} (j:LC X pins σ H s) (h:∀p∈D,s.heap.get? p.1>p.2/\H p.1=none/\p.1≠X.env.locals/\p.1∉X.fs/\∀v,p.2.data≠.cell v):LC X D σ H s:=
 (j.ok,j.os,j.bare,j.base,j.loc,j.cell,j.free,j.freeC,λp F=>(jA.mp F).elim (λJ=>j.pin p (CA _ J)) (h p),j.hok,j.len)
theorem mT {N:!Str} (J:N.Nodup) {i j:Nat} {x:Str} (a:N[i]?>x) (b:N[j]?>x):i=j:=by
 let(h1,D):=JA.mp a;let(h2,F):=JA.mp b;show (List.getElem_inj J).mp (D.trans F.symm)
theorem T8 {M:Model} {A:Around} {b9:Value->Shared->Prop} {i:Nat} {x:Str} {v:V} {u:Value} {Q:Unit->Shared->Prop} (D:LC X pins σ H s) (ah:X.N.Nodup) (hi:X.N[i]?>x) (N:NR X.env.scope x) (r:SC v u)
  (h:∀s',LC X pins (σ.set i (some v)) H s'->(∃a,Heap.SameBut a s.heap s'.heap/\(a=X.env.locals\/X.env.cells.lookup x>a))->Q ⟨⟩ s') (bd:X.fn x=true\/X.env.scope.names.lookup x>.local:=by first|exact .inl rfl|exact .inr rfl|assumption):wpAny M A (storeName X.env x u) Q b9 s:=by
 let(m,a4,b2):=id D.loc;let bc:(X.env.scope.kind == .class || (X.env.scope.kind == .module&&X.env.locals != X.env.globals))=false:=by rw[D.ok.kind];rfl
 let b1:i < σ.length:=by rw[D.len];show (JA.mp hi).1
 let cne:=D.cne;let b5:∀{a:Addr} {h':Heap},(∃o,s.heap.get? a>o/\H a=none)->Heap.SameBut a s.heap h'->YE X.prog X.w H h':=λ{a h'} bb F b bn e=>by
  let(_,_,b0):=bb;show (D.hok b bn e).stay (λc a1 L q=>(F.2 c ?_).trans q) (λο q=>q) λο ο q=>q;rintro rfl;let rfl||L:=L
  .rw[b0] at e;cases e
  .rw[b0] at L;cases L
 let hk||hk:=N
 .show wpAny_storeName_local hk a4 (λh' be F=>?_) bc;let(bm,_,_,bh,_):=id a4;show h _ (D.ok,D.os,D.bare,(λb o e n W N=>?_,λb o e n W N=>?_,D.base.free,λb o e N=>?_,D.base.tups,D.base.frzs,D.base.tbls),(_,be,λj y ad J U a2=>?_),λy c e=>?_,D.free,D.freeC,λp a5=>?_,b5 (bm,bh,D.free) F,by simpa using D.len) (_,F,.inl rfl)
  .show (F.2 b (XA (KA (FA e) D.ok.above))).trans (D.base.keep b o e n W N)
  .let(sl,J):=D.base.slot b o e n W N;show⟨sl,(F.2 b (XA (KA (FA e) D.ok.above))).trans J⟩
  .let(a9,J):=D.base.there b o e N;show⟨a9,(F.2 b (XA (KA (FA e) D.ok.above))).trans J⟩
  .by_cases Y:j=i
   .subst Y;rw[hi] at J;cases J;rw[List.getElem?_set_self b1] at U;cases U;show(u,r,.inl ⟨hk,by simp⟩)
   .rw[List.getElem?_set_ne (Ne.symm Y)] at U;let(ac,ab,q):=b2 j y ad J U a2;show(ac,ab,?_);let(k,e)||(k,c,e,O):=q
    .show .inl ⟨k,?_⟩;have:y≠x:=λe=>Y (mT ah J (e ▸ hi));simp[this,e]
    .show .inr (k,c,e,O.sameBut F (cne y c e))
  .let(a1,O):=D.cell y c e;show⟨a1,O.sameBut F (cne y c e)⟩
  .let(e,n,a0,a6,d):=D.pin p a5;show((F.2 p.1 a0).trans e,n,a0,a6,d)
 .let a3:X.fn x=true:=by
   let O||O:=bd
   .show O
   .rw[O] at hk;cases hk
  let(c,L):=D.ok.has x (.inl hk);let(a1,O):=D.cell x c L;show wpAny_storeName_cell D.ok.kind hk L O (λh' al F=>?_);let(b4,b3,bl):=id O;show h {s with heap:=h'} (D.ok,D.os,D.bare,(λb o e n W N=>?_,λb o e n W N=>?_,D.base.free,λb o e N=>?_,D.base.tups,D.base.frzs,D.base.tbls),(m,a4.sameBut F (Ne.symm (cne x c L)),λj y ad J U a2=>?_),λy Z e=>?_,D.free,D.freeC,λp a5=>?_,b5 (b4,b3,D.freeC x c L) F,by simpa using D.len) (c,F,.inr L)
  .show (F.2 b (XA (KA (FA e) (D.ok.cab x c a3 L)))).trans (D.base.keep b o e n W N)
  .let(sl,J):=D.base.slot b o e n W N;show⟨sl,(F.2 b (XA (KA (FA e) (D.ok.cab x c a3 L)))).trans J⟩
  .let(a9,J):=D.base.there b o e N;show⟨a9,(F.2 b (XA (KA (FA e) (D.ok.cab x c a3 L)))).trans J⟩
  .by_cases Y:j=i
   .subst Y;rw[hi] at J;cases J;rw[List.getElem?_set_self b1] at U;cases U;show(u,r,.inr (.inl hk,c,L,al))
   .rw[List.getElem?_set_ne (Ne.symm Y)] at U;let(ac,ab,q):=b2 j y ad J U a2;show(ac,ab,?_);let q||(k,Z,e,c0):=q
    .show .inl q
    .show .inr (k,Z,e,c0.sameBut F ?_);rintro rfl;show Y (mT ah J (D.ok.inj _ _ _ e L ▸ hi))
  .by_cases am:Z=c
   .subst am;show⟨_,al⟩
   .let(bt,z2):=D.cell y Z e;show⟨bt,z2.sameBut F am⟩
  .let(e,n,a0,a6,d):=D.pin p a5;show((F.2 p.1 ?_).trans e,n,a0,a6,d);intro q;rw[q,b3] at e;let bo:b4=p.2:=yA e;show d a1 (by rw[<-bo];show bl)
theorem pT {M:Model} {A:Around} {j:Value->Shared->Prop} {i:Nat} {x:Str} {v:V} {u:Value} {Q:Unit->Shared->Prop} (D:LC X pins σ H s) (J:X.N.Nodup) (hi:X.N[i]?>x) (N:NR X.env.scope x) (r:SC v u)
  (h:∀s',LC X pins (σ.set i (some v)) H s'->Q ⟨⟩ s') (L:X.fn x=true\/X.env.scope.names.lookup x>.local:=by first|exact .inl rfl|exact .inr rfl|assumption):wpAny M A (storeName X.env x u) Q j s:=
 T8 D J hi N r (λs' F ο=>h s' F) L
theorem LC.call' {s':Shared} {ch:!Addr} (j:LC X pins σ H s) (ho:s'.os=s.os) (u:Un (xE X.stack) ch H H' s.heap s'.heap) (J:YE X.prog X.w H' s'.heap) (F:AllBare s'.gens)
  (D:∀b∈ch,(b∈X.ex\/X.s₀.heap.objs.size<=b)/\b≠X.env.locals/\(∀x c,X.env.cells.lookup x>c->c≠b)/\∀p∈X.pn++pins,p.1≠b):LC X pins σ H' s':=by
 let(h',g',d',t',L):=s';let e:L=s.os:=ho;subst e;show j.call (g':=g') (t':=t') (d':=d') u J F D
end
abbrev XK:=Value->Option Addr->Hp->Prop
abbrev St:=!(Option V)
abbrev VK:=V->Hp->Prop
abbrev TE:=St->Hp->VK->Prop
abbrev TT:=St->Hp->(Bool->Hp->Prop)->Prop
abbrev TA:=St->Hp->(!V->Hp->Prop)->Prop
set_option genInjectivity false in
structure ZE where
 nx:St->Hp->Prop
 rt:VK
 bk:St->Hp->Prop:=λο ο=>False
 ct:St->Hp->Prop:=λο ο=>False
abbrev TS:=ZE->St->Hp->Prop
def EP (X:Cx) (pins:!(Addr×Obj)) (σ:St) (Q:VK) (u:Value) (s':Shared):Prop:=∃v H',LC X pins σ H' s'/\SC v u/\Q v H'
def TP (X:Cx) (pins:!(Addr×Obj)) (σ:St) (Q:Bool->Hp->Prop) (b:Bool) (s':Shared):Prop:=∃H',LC X pins σ H' s'/\Q b H'
def AP (X:Cx) (pins:!(Addr×Obj)) (σ:St) (Q:!V->Hp->Prop) (us:!Value) (s':Shared):Prop:=∃vs H',LC X pins σ H' s'/\VC vs us/\Q vs H'
def SP (X:Cx) (pins:!(Addr×Obj)) (D:ZE) (f:Flow) (s':Shared):Prop:=
 match f with
 |.next=>∃σ' H',LC X pins σ' H' s'/\D.nx σ' H'
 |.brk=>∃σ' H',LC X pins σ' H' s'/\D.bk σ' H'
 |.cont=>∃σ' H',LC X pins σ' H' s'/\D.ct σ' H'
 |.ret u=>∃v σ' H',LC X pins σ' H' s'/\SC v u/\D.rt v H'
def PE (X:Cx) (e:Expr) (t:TE):Prop:=
 ∀(pins:!(Addr×Obj)) (s:Shared) (σ:St) (H:Hp) (Q:VK),LC X pins σ H s->t σ H Q->wpAny (model X.prog X.w) X.A (eval e X.env) (EP X pins σ Q) X.xe s
def PT (X:Cx) (e:Expr) (t:TT):Prop:=
 ∀(pins:!(Addr×Obj)) (s:Shared) (σ:St) (H:Hp) (Q:Bool->Hp->Prop),LC X pins σ H s->t σ H Q->wpAny (model X.prog X.w) X.A (isTrue e X.env (eval e X.env)) (TP X pins σ Q) X.xe s
def PW (X:Cx) (e:Expr) (t:TT):Prop:=
 ∀(nG:Sem Value) (pins:!(Addr×Obj)) (s:Shared) (σ:St) (H:Hp) (Q:Bool->Hp->Prop),LC X pins σ H s->t σ H Q->wpAny (model X.prog X.w) X.A (isTrue e X.env nG) (TP X pins σ Q) X.xe s
theorem PW.pt {X:Cx} {e:Expr} {t:TT} (h:PW X e t):PT X e t:=h _
def PA (X:Cx) (es:!Expr) (t:TA):Prop:=
 ∀(pos:Pos) (pins:!(Addr×Obj)) (s:Shared) (σ:St) (H:Hp) (Q:!V->Hp->Prop),LC X pins σ H s->t σ H Q->wpAny (model X.prog X.w) X.A (spliced (backTo pos (starEach es X.env))) (AP X pins σ Q) X.xe s
def PS (X:Cx) (st:Stmt) (t:TS):Prop:=
 ∀(pins:!(Addr×Obj)) (s:Shared) (σ:St) (H:Hp) (D:ZE),LC X pins σ H s->t D σ H->wpAny (model X.prog X.w) X.A (exec st X.env) (SP X pins D) X.xe s
def AG (X:Cx) (st:!Stmt) (t:TS):Prop:=
 ∀(pins:!(Addr×Obj)) (s:Shared) (σ:St) (H:Hp) (D:ZE),LC X pins σ H s->t D σ H->wpAny (model X.prog X.w) X.A (execs st X.env) (SP X pins D) X.xe s
theorem wD {F:Type} {t:Sem F} {Q D:F->Shared->Prop} {M:Model} {A:Around} {j:Value->Shared->Prop} {s:Shared} (h:wpAny M A t Q j s) (J:∀a s,Q a s->D a s):wpAny M A t D j s:=AB h J λο ο x=>x
section
variable {X:Cx}
def OJ (i:Nat):TE:=λσ H Q=>∃v,σ[i]?>(some v)/\Q v H
def tC (v:V):TE:=λο H Q=>Q v H
theorem U8 {i:Nat} {x:Str} {pos:Pos} (L:X.N[i]?>x) (W:MR X.env.scope x) (hd:(x == ("__debug__":Str))=false:=by decide) (N:(x == ("__classdict__":Str))=false:=by decide):PE X (.Name x pos) (OJ i):=by
 intro Y s Z H Q j h;let(v,e,h):=h;let(m,V,O):=j.loc;let(u,r,l):=O i x v L e W;let D:EP X Y Z Q u s:=(v,H,j,r,h)
 let(hk,U)||(hk,c,F,J):=l
 .show wpAny_Name (wpAny_loadName_local j.ok.kind hk V U D) hd
 .let hk||hk:=hk
  .show wpAny_Name (wpAny_loadName_cell j.ok.kind hk F J D) hd
  .show wpAny_Name (wpAny_loadName_free j.ok.kind hk F J D N) hd
theorem ZC {i j pos}:PE X (.Constant (.int i) j pos) (tC (.int i)):=λο ο ο H ο I h=>wpAny_Constant_int (.int i,H,I.tok _,⟨_,rfl⟩,h)
theorem xJ {b j pos}:PE X (.Constant (.bool b) j pos) (tC (.bl b)):=λο ο ο H ο I h=>Constant_bool (.bl b,H,I,rfl,h)
theorem IG {j pos}:PE X (.Constant .none j pos) (tC .non):=λο ο ο H ο I h=>Constant_none (.non,H,I,rfl,h)
theorem kG {x j pos}:PE X (.Constant (.str x) j pos) (tC (.str x)):=λο ο ο H ο I h=>Calls.Constant_str (.str x,H,I.tok _,⟨_,rfl⟩,h)
def Gl (X:Cx) (x:Str):Prop:=X.env.kindOf x>.globalImplicit
theorem lO {D:Value->Shared->Prop} {L:!(Addr×Obj)} {s:Shared} {N:St} {H:Hp} {x:Str} {u:Value} {pos:Pos} {Q:Value->Shared->Prop} (j:LC X L N H s) (F:Gl X x) (J:X.mg x>u) (h:Q u s)
  (hd:(x == ("__debug__":Str))=false:=by decide):wpAny (model X.prog X.w) X.A (eval (.Name x pos) X.env) Q D s:=
 Calls.Name_function_global j.ok.kind F (Calls.loadGlobal_global (by rw[j.ok.glob];show j.mod.glob.keeps j.bk) J h) hd
theorem mO {D:Value->Shared->Prop} {O:!(Addr×Obj)} {s:Shared} {U:St} {H:Hp} {x:Str} {u:Value} {pos:Pos} {Q:Value->Shared->Prop} (j:LC X O U H s) (F:Gl X x) (J:X.mg x=none) (N:bootBuiltins x>u) (h:Q u s)
  (L:x≠"__name__":=by decide) (hd:(x == ("__debug__":Str))=false:=by decide):wpAny (model X.prog X.w) X.A (eval (.Name x pos) X.env) Q D s:=by
 let(V,h1,h2):=j.mod.blt;show Calls.Name_function_global j.ok.kind F (Calls.loadGlobal_builtin (by rw[j.ok.glob];show j.mod.glob.keeps j.bk) J (by rw[j.ok.blt];show h1.keeps j.bk) ((h2 x L).trans N) h) hd
theorem Wi {x:Str} {v:V} {u:Value} {pos:Pos} (D:Gl X x) (F:X.mg x>u) (r:SC v u) (hd:(x == ("__debug__":Str))=false:=by decide):PE X (.Name x pos) (tC v):=
 λο ο ο H ο j h=>lO j D F (v,H,j,r,h) hd
theorem Xi {x:Str} {v:V} {u:Value} {pos:Pos} (D:Gl X x) (F:X.mg x=none) (L:bootBuiltins x>u) (r:SC v u) (J:x≠"__name__":=by decide) (hd:(x == ("__debug__":Str))=false:=by decide):PE X (.Name x pos) (tC v):=
 λο ο ο H ο j h=>mO j D F L (v,H,j,r,h) J hd
variable {a b:Expr} {ta tb:TE} {pos:Pos}
def PC (X:Cx) (op:CmpOp) (a b:Expr) (t:TE):Prop:=
 ∀(pins:!(Addr×Obj)) (s:Shared) (σ:St) (H:Hp) (Q:VK),LC X pins σ H s->t σ H Q->
  wpAny (model X.prog X.w) X.A (eval a X.env) (λv s₁=>wpAny (model X.prog X.w) X.A (eval b X.env) (λu s₂=>wpAny (model X.prog X.w) X.A (compareOp op v u) (EP X pins σ Q) X.xe s₂) X.xe s₁) X.xe s
theorem nH (b:Expr) {j:CmpOp} (h:j≠.In) (h2:j≠.NotIn):behindInMarks j b=false:=by
 let D:(j == CmpOp.In)=false:=by cases j<;>first|rfl|exact absurd rfl h
 let F:(j == CmpOp.NotIn)=false:=by cases j<;>first|rfl|exact absurd rfl h2
 cases b<;>simp[behindInMarks,D,F]
def tB (t:TE):TT:=λσ H Q=>t σ H λx H1=>∃c,x=.bl c/\Q c H1
theorem RL {j:CmpOp} {t:TE} (h:PC X j a b t) (h1:behindInMarks j b=false:=by first|exact nH _ (by decide) (by decide)|rfl):PE X (.Compare a [j] [b] pos) t:=λJ s L H Q D F=>wpAny_Compare1 (h J s L H Q D F) h1
theorem yJ {j:CmpOp} {t:TE} (h:PC X j a b t) (h1:behindInMarks j b=false:=by first|exact nH _ (by decide) (by decide)|rfl):PT X (.Compare a [j] [b] pos) (tB t):=by
 intro N s W H Q F L;show wpAny_isTrue_Compare1 (wD (h N s W H _ F L) λv Y h1=>wD h1 λu Z h2=>wD h2 λc a0 V=>?_) h1;let(x,D,J,U,O):=V;let(d,rfl,q):=O;cases U;show bC (D,J,q)
theorem iH {e:Expr} {t:TE} (h:PE X e t) (J:∀nG,isTrue e X.env nG=(do let v<-nG;standAt e.pos;holding [v] (truthy v)):=by intro _;rfl):PT X e (tB t):=by
 intro N s V H Q D L;show isTrue_plain (wD (h N s V H _ D L) λv W ⟨x,j,F,U,O⟩=>?_) (J _);let(d,rfl,q):=O;cases U;show bC (j,F,q)
variable {tA tB':TT} {rest:!Expr}
def dP (t u:TT):TT:=λσ H Q=>t σ H λc H1=>if c=true then u σ H1 Q else Q false H1
def V8 (t u:TT):TT:=λσ H Q=>t σ H λc H1=>if c=true then Q true H1 else u σ H1 Q
def eP (t:TT):TT:=λσ H Q=>t σ H λc H1=>Q (not c) H1
theorem nO (D:PT X a tA):PW X (.BoolOp .And [a] pos) tA:=by
 intro N F s J H Q j h;show isTrue_and (wD (D F s J H Q j h) λc L e=>?_);cases c with
 |true=>show isTrue_and_nil e
 |false=>show e
theorem W8 (D:PT X a tA):PW X (.BoolOp .Or [a] pos) tA:=by
 intro N F s J H Q j h;show isTrue_or (wD (D F s J H Q j h) λc L e=>?_);cases c with
 |false=>show isTrue_or_nil e
 |true=>show e
theorem oO (O:PT X a tA) (U:PW X (.BoolOp .And (b::rest) pos) tB'):PW X (.BoolOp .And (a::b::rest) pos) (dP tA tB'):=by
 intro W F s L H Q N h;show isTrue_and (wD (O F s L H _ N h) λc V Y=>?_);let(j,D,J):=Y;cases c with
 |true=>show U W F V L j Q D J
 |false=>show(j,D,J)
theorem qK (O:PT X a tA) (U:PW X (.BoolOp .Or (b::rest) pos) tB'):PW X (.BoolOp .Or (a::b::rest) pos) (V8 tA tB'):=by
 intro W F s L H Q N h;show isTrue_or (wD (O F s L H _ N h) λc V Y=>?_);let(j,D,J):=Y;cases c with
 |true=>show(j,D,J)
 |false=>show U W F V L j Q D J
theorem UH (F:PT X a tA):PT X (.UnaryOp .Not a pos) (eP tA):=by
 intro J s L H Q D h;show isTrue_not (F J s L H (λc j=>Q (not c) j) D h)
def rK (ta tb:TE):TE:=λσ H Q=>ta σ H λx H1=>∃c,x=.bl c/\if c=true then tb σ H1 Q else Q (.bl false) H1
def fP (ta tb:TE):TE:=λσ H Q=>ta σ H λx H1=>∃c,x=.bl c/\if c=true then Q (.bl true) H1 else tb σ H1 Q
def sK (ta:TE):TE:=λσ H Q=>ta σ H λx H1=>∃c,x=.bl c/\Q (.bl (not c)) H1
theorem tK {op} {t:TE} (h:PE X a t):PE X (.BoolOp op [a] pos) t:=λF s J H Q j D=>BoolOp_one (h F s J H Q j D)
theorem zJ (O:PE X a ta) (U:PE X (.BoolOp .And (b::rest) pos) tb):PE X (.BoolOp .And (a::b::rest) pos) (rK ta tb):=by
 intro J s L H Q N h;show BoolOp_and (wD (O J s L H _ N h) λv W Y=>?_);let(x,D,F,V,j):=Y;let(c,rfl,j):=j;cases V;show bC ?_;cases c with
 |true=>show U J W L D Q F j
 |false=>show(.bl false,D,F,rfl,j)
theorem gP (O:PE X a ta) (U:PE X (.BoolOp .Or (b::rest) pos) tb):PE X (.BoolOp .Or (a::b::rest) pos) (fP ta tb):=by
 intro J s L H Q N h;show BoolOp_or (wD (O J s L H _ N h) λv W Y=>?_);let(x,D,F,V,j):=Y;let(c,rfl,j):=j;cases V;show bC ?_;cases c with
 |false=>show U J W L D Q F j
 |true=>show(.bl true,D,F,rfl,j)
theorem X8 (L:PE X a ta):PE X (.UnaryOp .Not a pos) (sK ta):=by
 intro N s V H Q F h;show UnaryOp_ (wD (L N s V H _ F h) λv W U=>?_);let(x,D,J,O,j):=U;let(c,rfl,j):=j;cases O;show not_of (bC (.bl (not c),D,J,rfl,j))
def Y8 (t:TT) (ta tb:TE):TE:=λσ H Q=>t σ H λc H1=>if c=true then ta σ H1 Q else tb σ H1 Q
theorem pO {c:Expr} (W:PT X c tA) (U:PE X a ta) (V:PE X b tb):PE X (.IfExp c a b pos) (Y8 tA ta tb):=by
 intro j s D H Q O h;show wpAny_IfExp (wD (W j s D H _ O h) λd N Y=>?_);let(F,J,L):=Y;cases d with
 |true=>show U j N D F Q J L
 |false=>show V j N D F Q J L
end
def BD (K:PySem.W.Frag) (H:Hp) (a:Addr) (xs:!V):Prop:=
 Rd H a (.lst xs)\/
  ∃(o:Obj) (its:Array Value) (n:Nat),K.lookup a>o/\o.cls=.type "list"/\o.dict=none/\o.data=.seq its n/\its.size<=sizeLine/\VC xs its.toList
def HD (K:PySem.W.Frag) (H:Hp) (a:Addr) (xs:!V):Prop:=
 Rd H a (.tup xs)\/
  ∃(o:Obj) (its:Array Value) (n:Nat),K.lookup a>o/\o.cls=.type "tuple"/\o.data=.seq its n/\its.size<=sizeLine/\VC xs its.toList
def qT:Value->Option V
 |.none=>some .non
 |.bool b=>some (.bl b)
 |.int i _=>some (.int i)
 |.str x _=>some (.str x)
 |.bytes b _=>some (.byt b)
 |.float b _=>some (.flt b)
 |.ref a=>↑a
 |.type n=>some (.ty n)
 |_=>none
theorem SC.abs {x:V} {u:Value} (r:SC x u):qT u>x:=by
 cases x with
 |non=>cases r;rfl
 |bl _=>cases r;rfl
 |int _=>let(t,rfl):=r;rfl
 |str _=>let(t,rfl):=r;rfl
 |byt _=>let(t,rfl):=r;rfl
 |flt _=>let(t,rfl):=r;rfl
 |ref _=>cases r;rfl
 |ty _=>cases r;rfl
theorem SC.inj {x y:V} {u:Value} (r:SC x u) (q:SC y u):x=y:=yA (r.abs.symm.trans q.abs)
theorem VC.inj:∀{xs ys:!V} {us:!Value},VC xs us->VC ys us->xs=ys
 |_,_,_,.nil,.nil=>rfl
 |_,_,_,.cons r t,.cons r' t'=>by rw[r.inj r',VC.inj t t']
section
variable {X:Cx} {pins:!(Addr×Obj)} {σ:St} {H:Hp} {s:Shared} {a:Addr} {xs ys:!V}
theorem BD.of {K:PySem.W.Frag} (h:H a>(.lst xs)):BD K H a xs:=.inl (.inl h)
theorem HD.of {K:PySem.W.Frag} (h:H a>(.tup xs)):HD K H a xs:=.inl (.inl h)
theorem LC.list (D:LC X pins σ H s) (h:BD X.K H a xs):∃j:!Value,VC xs j/\PlainL s.heap a j.toArray/\xs.length<=sizeLine:=by
 let h||(o,j,n,hk,F,hd,J,hz,r):=h
 .let(L,j,n,r,e):=h.ok D.hok;show(j,r,(_,n,e,rfl,rfl,rfl),L)
 .show(j.toList,r,(o,n,D.kIn a o hk,F,hd,by simpa using J),?_);let e:=r.length;simp only[vB] at e;omega
theorem LC.tuple (D:LC X pins σ H s) (h:HD X.K H a xs):∃j:!Value,VC xs j/\IsTup s.heap a j.toArray/\xs.length<=sizeLine:=by
 let h||(o,j,n,hk,F,J,hz,r):=h
 .let(L,j,r,p):=h.ok D.hok;show(j,r,p,L)
 .show(j.toList,r,(o,D.kIn a o hk,F,n,by simpa using J),?_);let e:=r.length;simp only[vB] at e;omega
theorem LC.list_inj (j:LC X pins σ H s) (h:BD X.K H a xs) (h':BD X.K H a ys):xs=ys:=by
 let(J,r,(o,n,e,_,_,d),_):=j.list h;let(its',L,(O,N,D,_,_,d'),_):=j.list h';rw[e] at D;cases D;rw[d] at d';injection d' with F _;have:J=its':=by simpa using congrArg Array.toList F
 subst this;show r.inj L
theorem LC.tuple_inj (j:LC X pins σ H s) (h:HD X.K H a xs) (h':HD X.K H a ys):xs=ys:=by
 let(J,r,(o,e,_,n,d),_):=j.tuple h;let(its',L,(O,D,_,N,d'),_):=j.tuple h';rw[e] at D;cases D;rw[d] at d';injection d' with F _;have:J=its':=by simpa using congrArg Array.toList F
 subst this;show r.inj L
end
abbrev Cx.wish (X:Cx) (E:Value->Shared->Prop):Cx:={X with xe:=E}
abbrev Cx.nox (X:Cx):Cx:=X.wish λο ο=>False
theorem Cx.Ok.wish {X:Cx} (ok:X.Ok) (E:Value->Shared->Prop):(X.wish E).Ok:=
 (ok.mod,ok.kind,ok.glob,ok.blt,ok.above,ok.inj,ok.has,ok.cab,ok.hd,ok.frames,ok.stk,ok.exf,ok.bs,ok.bsz,ok.noex,ok.exfs,ok.funs,ok.frf)
theorem Cx.Ok.unwish {X:Cx} {E:Value->Shared->Prop} (ok:(X.wish E).Ok):X.Ok:=
 (ok.mod,ok.kind,ok.glob,ok.blt,ok.above,ok.inj,ok.has,ok.cab,ok.hd,ok.frames,ok.stk,ok.exf,ok.bs,ok.bsz,ok.noex,ok.exfs,ok.funs,ok.frf)
section
variable {X:Cx} {pins:!(Addr×Obj)} {σ:St} {H:Hp} {s:Shared} {E:Value->Shared->Prop}
theorem LC.wish (I:LC X pins σ H s) (E:Value->Shared->Prop):LC (X.wish E) pins σ H s:=(I.ok.wish E,I.os,I.bare,I.base,I.loc,I.cell,I.free,I.freeC,I.pin,I.hok,I.len)
theorem LC.unwish (I:LC (X.wish E) pins σ H s):LC X pins σ H s:=(I.ok.unwish,I.os,I.bare,I.base,I.loc,I.cell,I.free,I.freeC,I.pin,I.hok,I.len)
theorem SP.unwish {D:ZE} {f:Flow} {s':Shared} (h:SP (X.wish E) pins D f s'):SP X pins D f s':=by
 cases f with
 |next=>let(F,H',j,q):=h;show(F,H',j.unwish,q)
 |brk=>let(F,H',j,q):=h;show(F,H',j.unwish,q)
 |cont=>let(F,H',j,q):=h;show(F,H',j.unwish,q)
 |ret u=>let(v,F,H',j,r,q):=h;show(v,F,H',j.unwish,r,q)
theorem PE.nox {e:Expr} {t:TE} (h:PE X.nox e t):PE X e t:=λJ s N H Q j F=>
 AB (h J s N H Q (j.wish _) F) (λ_ _ ⟨v,H',D,r,q⟩=>(v,H',D.unwish,r,q)) λο ο L=>False.elim L
theorem PT.nox {e:Expr} {t:TT} (h:PT X.nox e t):PT X e t:=λJ s N H Q j F=>
 AB (h J s N H Q (j.wish _) F) (λ_ _ ⟨H',D,q⟩=>(H',D.unwish,q)) λο ο L=>False.elim L
theorem AG.nox {st:!Stmt} {t:TS} (h:AG X.nox st t):AG X st t:=λJ s N H D j F=>
 AB (h J s N H D (j.wish _) F) (λο ο q=>q.unwish) λο ο L=>False.elim L
end
section
variable {X:Cx} {st:Stmt} {rest:!Stmt} {t u:TS} {e:Expr} {te:TE} {pos:Pos}
def tNext:TS:=λD σ H=>D.nx σ H
def iP (t u:TS):TS:=λD σ H=>t {D with nx:=u D} σ H
theorem FE:AG X [] tNext:=λο ο D H ο j h=>wpAny_execs_nil (D,H,j,h)
theorem fD (h1:PS X st t) (h2:AG X rest u):AG X (st::rest) (iP t u):=by
 intro j s N H D F h;show wpAny_execs_cons (wD (h1 j s N H {D with nx:=u D} F h) λf L q=>?_);cases f with
 |next=>
  let(O,H',J,q):=q;show h2 j L O H' D J q
 |ret v=>show q
 |brk=>show q
 |cont=>show q
theorem gD (h1:PS X st t):AG X [st] t:=by
 intro F s J H D j h;show wpAny_execs_cons (wD (h1 F s J H D j h) λf L q=>?_);cases f with
 |next=>show wpAny_execs_nil q
 |ret v=>show q
 |brk=>show q
 |cont=>show q
theorem LC.quiet {D:!(Addr×Obj)} {F:St} {H:Hp} {s:Shared} (j:LC X D F H s):interactive X.env=false:=by simp[interactive,j.ok.kind]
def uK (te:TE):TS:=λD σ H=>te σ H λο H1=>D.nx σ H1
theorem vE (N:PE X e te) (O:swapsWith e none pos.line X.env=pure false:=by rfl):PS X (.Expr e pos) (uK te):=by
 intro U s F H D j h;show wpAny_Expr_any (wD (N U s F H _ j h) λv Y ⟨x,J,L,W,V⟩=>(F,J,L,V)) j.quiet O
def jP (te:TE):TS:=λD σ H=>te σ H D.rt
theorem RD (N:PE X e te):PS X (.Return (some e) pos) (jP te):=by
 intro O s j H D J h;show wpAny_Return_some (wD (N O s j H _ J h) λv W ⟨x,F,L,V,U⟩=>(x,j,F,L,V,U))
def tRetN:TS:=λD ο H=>D.rt .non H
theorem Yi:PS X (.Return none pos) tRetN:=λο ο D H ο j h=>wpAny_Return_none (.non,D,H,j,rfl,h)
def kP (c:TT) (t u:TS):TS:=λD σ H=>c σ H λb H1=>if b=true then t D σ H1 else u D σ H1
theorem yE {c:Expr} {a b:!Stmt} {U:TT} (Z:PT X c U) (W:AG X a t) (Y:AG X b u):PS X (.If c a b pos) (kP U t u):=by
 intro j s F H D V h;show wpAny_If (wD (Z j s F H _ V h) λd O a0=>?_);let(J,L,N):=a0;cases d with
 |true=>show W j O F J D L N
 |false=>show Y j O F J D L N
end
abbrev TG:=V->St->Hp->(St->Hp->Prop)->Prop
abbrev TGs:=!V->St->Hp->(St->Hp->Prop)->Prop
def PG (X:Cx) (target:Expr) (t:TG):Prop:=
 ∀(pins:!(Addr×Obj)) (s:Shared) (σ:St) (H:Hp) (v:V) (u:Value) (Q:St->Hp->Prop),LC X pins σ H s->SC v u->t v σ H Q->
  wpAny (model X.prog X.w) X.A (assign target X.env u) (λο s'=>∃σ' H',LC X pins σ' H' s'/\Q σ' H') X.xe s
def lP (X:Cx) (ts:!Expr) (t:TGs):Prop:=
 ∀(pins:!(Addr×Obj)) (s:Shared) (σ:St) (H:Hp) (vs:!V) (us:!Value) (Q:St->Hp->Prop),LC X pins σ H s->VC vs us->t vs σ H Q->
  wpAny (model X.prog X.w) X.A (assignInOrder ((assignEach ts X.env).map (·.2)) us) (λο s'=>∃σ' H',LC X pins σ' H' s'/\Q σ' H') X.xe s
abbrev TSet:=V->V->V->Hp->(Hp->Prop)->Prop
def mP (X:Cx) (t:TSet):Prop:=
 ∀(pins:!(Addr×Obj)) (s:Shared) (σ:St) (H:Hp) (o i v:V) (ov iv u:Value) (Q:Hp->Prop),LC X pins σ H s->SC o ov->SC i iv->SC v u->t o i v H Q->
  wpAny (model X.prog X.w) X.A (setItem ov iv u) (λο s'=>∃H',LC X pins σ H' s'/\Q H') X.xe s
section
variable {X:Cx} {pos:Pos}
def JG (i:Nat):TG:=λv σ H Q=>Q (σ.set i (some v)) H
theorem SF {i:Nat} {x:Str} (F:X.N.Nodup) (hi:X.N[i]?>x) (L:NR X.env.scope x) (J:X.fn x=true\/X.env.scope.names.lookup x>.local:=by first|exact .inl rfl|exact .inr rfl|assumption):PG X (.Name x pos) (JG i):=by
 intro N s O H v u Q j r h;show wpAny_assign_Name (pT j F hi L r (λs' D=>(_,H,D,h)) J)
def gNil:TGs:=λvs σ H Q=>vs=[]/\Q σ H
def vK (t:TG) (u:TGs):TGs:=λvs σ H Q=>∃v r,vs=v::r/\t v σ H λσ' H'=>u r σ' H' Q
theorem Zi:lP X [] gNil:=by
 intro F s D H vs us Q j r h;let(e,h):=h;subst e;cases r;show assignInOrder_nil (D,H,j,h)
theorem rT {e:Expr} {es:!Expr} {t:TG} {u:TGs} (h1:PG X e t) (h2:lP X es u)
  (N:(assignEach (e::es) X.env).map (·.2)=assign e X.env::(assignEach es X.env).map (·.2):=by rfl):lP X (e::es) (vK t u):=by
 intro j s Y H vs us Q F r h;let(v,a0,L,h):=h;subst L;cases r with
 |cons r U=>
  rw[N];show assignInOrder_cons (wD (h1 j s Y H _ _ _ F r h) λ_ V W=>?_);let(Z,D,J,O):=W;show h2 j V Z D _ _ Q J U O
def SL (K:PySem.W.Frag) (n:Nat) (t:TGs):TG:=λv σ H Q=>∃a xs,v=.ref a/\HD K H a xs/\xs.length=n/\t xs σ H Q
theorem TL {es:!Expr} {k:Nat} {t:TGs} {n:Nat} (U:X.calm=true) (h:lP X es t)
  (W:(assignEach es X.env).length=n:=by rfl) (Z:(assignEach es X.env).findIdx? (·.1)=none:=by rfl):PG X (.Tuple es k pos) (SL X.K n t):=by
 intro F s L H v u Q j r D;let(a,xs,O,Y,V,D):=D;subst O;cases r;let(a2,J,a0,hz):=j.tuple Y;show assign_Tuple_tuple (j.ok.hd U) a0 (by simp[W,<-V,J.length]) Z λh' a1=>?_;let N:LC X F L H {s with heap:=h'}:=j.kept (t':=s.toks) λb o e=>a1 b o (XA (FA e)) e;show h F _ L H xs _ Q N (by simpa using J) D
def nP (to ti:TE) (t:TSet):TG:=λv σ H Q=>to σ H λo H1=>ti σ H1 λi H2=>t o i v H2 λH3=>Q σ H3
theorem UL {o i:Expr} {to N:TE} {t:TSet} (ho:PE X o to) (hi:PE X i N) (a2:mP X t)
  (a1:∀v,assign (.Subscript o i pos) X.env v=(do
   let j<-holding [v] (eval o X.env)
   let D<-holding [v,j] (eval i X.env)
   standAt pos
   holding [v,j,D] (setItem j D v)
   release [v,j,D] []):=by intro _;rfl):PG X (.Subscript o i pos) (nP to N t):=by
 intro L s J H v u Q W r h;rw[a1];show fA (ZB (wD (ho L s J H _ W h) λj ab F=>?_));let(x,O,Y,a6,a3):=F;show fA (ZB (wD (hi L ab J O _ Y a3) λD ac F=>?_));let(y,U,Z,a9,a4):=F;show fA (wpAny_standAt (fA (ZB (wD (a2 L ac J U x y v j D u _ Z a6 a9 r a4) λ_ ad F=>?_))));let(V,a0,a5):=F;show wpAny_release (J,V,a0,a5)
def PJ (te:TE) (g:TG):TS:=λD σ H=>te σ H λx H1=>g x σ H1 D.nx
theorem VL {j e:Expr} {J:TE} {g:TG} (V:PE X e J) (W:PG X j g) (Y:swapsWithSole [j] e pos.line X.env=pure false:=by rfl) (Z:swappedStores [j] e X.env=pure none:=by rfl)
  (h1:(assignEach [j] X.env).map (·.2)=[assign j X.env]:=by rfl):PS X (.Assign [j] e pos) (PJ J g):=by
 intro F s L H D O h;show wpAny_Assign_stores (wD (V F s L H _ O h) λv a2 a3=>?_) Y Z;let(x,N,U,a1,a0):=a3;rw[h1];show wD (W F a2 L N x v _ U a1 a0) λο a4 q=>q
theorem ZD {i:Nat} {x:Str} {e:Expr} {F:TE} {j:Pos} (U:X.N.Nodup) (hi:X.N[i]?>x) (Z:NR X.env.scope x) (V:PE X e F) (Y:swapsWith e (some (.Name x j)) pos.line X.env=pure false:=by rfl) (W:X.fn x=true\/X.env.scope.names.lookup x>.local:=by first|exact .inl rfl|exact .inr rfl|assumption):
  PS X (.Assign [.Name x j] e pos) (PJ F (JG i)):=by
 intro a0 s a4 H D L h;show wpAny_Assign_Name (wD (V a0 s a4 H _ L h) λv a5 a3=>?_) Y;let(y,J,N,a2,a1):=a3;show pT N U hi Z a2 (λa6 O=>(_,J,O,a1)) W
end
section
variable {X:Cx} {pos:Pos}
def HI (c:TT) (tb:TS):TS:=λD σ H=>∃W:Nat->St->Hp->Prop,(∃m,W m σ H)/\∀m σ H,W m σ H->
 c σ H λb H1=>if b=true then ∃N:St->Hp->Prop,(∀σ' H',N σ' H'->∃m',m' < m/\W m' σ' H')/\tb {D with nx:=N,ct:=N,bk:=D.nx} σ H1 else D.nx σ H1
theorem aj {c:Expr} {a5:!Stmt} {ac:TT} {ab:TS} (a9:PassesOwn (model X.prog X.w) X.A X.env X.xe) (b0:PT X c ac) (am:AG X a5 ab):PS X (.While c a5 [] pos) (HI ac ab):=by
 intro a0 s bc H D ah h;let(W,(b1,b5),b4):=h;show wpAny_While (codeAny_whileLoop (λn s'=>∃ad H',LC X a0 ad H' s'/\W n ad H') ?_ b1 (bc,H,ah,b5));rintro n b2 ⟨O,a2,al,b9⟩;show wpAny_passesOwn a9 (wD (b0 a0 b2 O a2 _ al (b4 n O a2 b9)) λb b3 bb=>?_);let(a3,a4,J):=bb;cases b with
 |true=>
  let(N,a6,J):=J;rw[iA rfl];show wpAny_passesOwn a9 (wD (am a0 b3 O a3 _ a4 J) λf bd L=>?_);cases f with
  |next=>
   let(F,j,U,Z):=L;let(Y,V,a1):=a6 F j Z;show(Y,V,F,j,U,a1)
  |cont=>
   let(F,j,U,Z):=L;let(Y,V,a1):=a6 F j Z;show(Y,V,F,j,U,a1)
  |brk=>show L
  |ret v=>show L
 |false=>
  rw[gA zA];show wpAny_execs_nil (O,a3,a4,J)
end
set_option genInjectivity false in
structure It where
 go:Nat->Hp->Prop
 yld:Nat->Hp->V->Hp->Prop
 stop:Nat->Hp->Prop
def JF (X:Cx) (pins:!(Addr×Obj)) (H:Hp) (b:Addr):Prop:=
 H b=none/\b≠X.env.locals/\b∉X.fs/\(b∈X.ex\/X.s₀.heap.objs.size<=b)/\(∀x c,X.env.cells.lookup x>c->c≠b)/\∀p∈X.pn++pins,p.1≠b
theorem LC.fpOk {X:Cx} {J:!(Addr×Obj)} {O:St} {H H':Hp} {s:Shared} {b:Addr} (j:LC X J O H s) (D:s.heap.objs.size<=b) (L:H' b=none):JF X J H' b:=by
 show(L,Nat.ne_of_gt (KA j.lt D),j.nofs D,.inr (FB j.sz D),λx c e F=>?_,λp N F=>?_)
 .let(v,q):=j.cell x c e;show absurd (KA q.lt (by rw[F];show D)) (vC _)
 .show absurd (KA (FA (j.pin p N).1) (by rw[F];show D)) (vC _)
structure oH (P:Program) (w:World) (K:PySem.W.Frag) (tg:Expr) (J:It) (fp:!Addr) (it:Addr) (tn:Nat->Heap->Prop):Prop where
 mem:it∈fp
 obj:∀i h,tn i h->∀b∈fp,∃o,h.get? b>o/\∀v,o.data≠.cell v
 keep:∀i h h',tn i h->(∀b∈fp,∀o,h.get? b>o->h'.get? b>o)->tn i h'
 item:∀(X:Cx),X.prog=P->X.w=w->X.K=K->X.calm=true->∀(i:Nat) (pins:!(Addr×Obj)) (s:Shared) (σ:St) (H:Hp) (E:Value->Shared->Prop),LC X pins σ H s->(∀b∈fp,JF X pins H b)->tn i s.heap->J.go i H->
  wpAny (model P w) X.A (pyNext (.ref it)) (λr s1=>∃u,r>u/\
   wpAny (model P w) X.A (letOwnedTupleGo tg (.ref it) u) (λο s2=>∃x H',LC X pins σ H' s2/\SC x u/\J.yld i H x H'/\tn (i+1) s2.heap/\∀b∈fp,H' b=none) E s1) E s
 done:∀(X:Cx),X.prog=P->X.w=w->X.K=K->X.calm=true->∀(i:Nat) (pins:!(Addr×Obj)) (s:Shared) (σ:St) (H:Hp) (E:Value->Shared->Prop),LC X pins σ H s->(∀b∈fp,JF X pins H b)->tn i s.heap->J.stop i H->
  wpAny (model P w) X.A (pyNext (.ref it)) (λr s1=>r=none/\LC X pins σ H s1) E s
 self:∀(A:Around) (i:Nat) (s:Shared) (Q:Value->Shared->Prop) (E:Value->Shared->Prop),tn i s.heap->Q (.ref it) s->wpAny (model P w) A (pyIter (.ref it)) Q E s
abbrev TI:=St->Hp->(It->Hp->Prop)->Prop
def Z8 (X:Cx) (pins:!(Addr×Obj)) (σ:St) (tg:Expr) (R:It->Hp->Prop) (itv:Value) (s2:Shared):Prop:=
 ∃(it:Addr) (fp:!Addr) (tn:Nat->Heap->Prop) (J:It) (H':Hp),itv=.ref it/\LC X pins σ H' s2/\oH X.prog X.w X.K tg J fp it tn/\tn 0 s2.heap/\(∀b∈fp,JF X pins H' b)/\R J H'
def PI (X:Cx) (tg iter:Expr) (wi:TI):Prop:=
 ∀(pins:!(Addr×Obj)) (s:Shared) (σ:St) (H:Hp) (R:It->Hp->Prop),LC X pins σ H s->wi σ H R->
  wpAny (model X.prog X.w) X.A (eval iter X.env) (λv s1=>wpAny (model X.prog X.w) X.A (pyIter v) (Z8 X pins σ tg R) X.xe s1) X.xe s
theorem oP {M : Model} {A : Around} {D : Value -> Shared -> Prop} {s : Shared} {J : Expr} {F : Addr} {u : Value} {o : Obj} {n : String} {vs : Array Value} {Q : Unit -> Shared -> Prop} (ho : s.heap.get? F = some o) (L : o.cls = .type n) (hd : o.data = .fields vs)
    (N : ["enumerate", "zip", "dict_itemiterator", "dict_reverseitemiterator", "odict_iterator", "itertools.zip_longest", "itertools.pairwise"].contains n = false) (j : Q ⟨⟩ s) : wpAny M A (letOwnedTupleGo J (.ref F) u) Q D s := by
  unfold letOwnedTupleGo;cases J <;> first
    | show BA j
    | (cases u <;> first
        | show BA j
        | (show fA (wpAny_load ho ?_)
           rw [L, hd];change wpAny M A (if (["enumerate", "zip", "dict_itemiterator", "dict_reverseitemiterator", "odict_iterator", "itertools.zip_longest", "itertools.pairwise"].contains n && vs[0]? == some (rawInt _)) = true then _ else _) Q D s;rw [gA (by intro h; rw [N, zC] at h; cases h)];show BA j))
def WL (K:PySem.W.Frag) (a:Addr):It:=
 (λi H=>∃xs x,BD K H a xs/\xs[i]?>x,λi H x H'=>H'=H/\∀xs,BD K H a xs->xs[i]?>x,λi H=>∃xs,BD K H a xs/\xs.length<=i)
def QJ (lo:Int) (n:Nat):It:=(λi ο=>i < n,λi H x H'=>H'=H/\x=.int (lo+i),λi ο=>n<=i)
theorem bj {P:Program} {w:World} {K:PySem.W.Frag} {b3:Expr} (a F:Addr):oH P w K b3 (WL K a) [F] F (λi h=>h.IsListIter F a i) where
 mem:=by simp
 obj:=λi h st b D=>by
  let e:b=F:=by simpa using D
  subst e;let(o,e,c,d):=st;show(o,e,λv a9=>by rw[d] at a9;cases a9)
 keep:=λi h h' st k=>st.at λo e=>k F (by simp) o e
 item:=by
  intro X Z a1 Y a4 i a5 s ab H ac j J st a0;subst Z a1 Y;let(xs,x,L,a2):=a0;let(b1,a3,p,hz):=j.list L;let(u,am,b2):=a3.get a2;let(N,O,al,U,V,W):=J F (by simp);show wpAny_pyNext_list_item st p.isList (x:=u) (by simpa using am) λh' a6 sb=>?_;let ad:LC X a5 ab H {s with heap:=h'}:=j.turned (t':=s.toks) (λb o D e=>(sb.2 b D).trans e) N O U V W;let(o,e,c,d):=id a6;show(u,rfl,oP (s:={s with heap:=h'}) e c d (by decide) (x,H,ad,b2,⟨rfl,λys b0=>by rw[j.list_inj b0 L];show a2⟩,a6,λb D=>(J b D).1))
 done:=by
  intro X Z a1 Y a4 i a5 s ab H ac j J st a0;subst Z a1 Y;let(xs,L,a2):=a0;let(b1,a3,p,hz):=j.list L;let(N,O,al,U,V,W):=J F (by simp);let b4:=a3.length;show wpAny_pyNext_list_end (j.ok.hd a4) st p.isList (by simp;omega) λh' ah=>⟨rfl,j.turned (t':=s.toks) (λb o D e=>ah b o D e) N O U V W⟩
 self:=λο ο ο ο ο st h=>wpAny_pyIter_listiter st h
theorem cj {P:Program} {w:World} {K:PySem.W.Frag} {am:Expr} (j:Addr) (lo:Int) (n:Nat):oH P w K am (QJ lo n) [j] j (λi h=>IsRangeIter h j (lo+(i:Nat) * 1) ((n:Int) - (i:Nat)) 1) where
 mem:=by simp
 obj:=λi h st b D=>by
  let e:b=j:=by simpa using D
  subst e;show(_,st,λv b0=>by
   let b1:Data.fields _=Data.cell v:=b0;cases b1)
 keep:=λi h h' st k=>k j (by simp) _ st
 item:=by
  intro X Z a2 Y a0 i a3 s a6 H a9 F J st a1;subst Z a2 Y;let(L,N,ad,O,U,V):=J j (by simp);let W:=Walks.range (prog:=X.prog) (w:=X.w) (F.ok.hd a0) j lo 1 n;show W.item i s _ _ a1 st λv h' a5 ah a4 al=>?_;let(t,rfl):=ah;let ab:LC X a3 a6 H {s with heap:=h',toks:=a5}:=F.turned (λb o D e=>al b o (by simpa using D) e) L N O U V;show(_,rfl,oP (s:={s with heap:=h',toks:=a5}) (n:="range_iterator") a4 rfl rfl (by decide) (.int (lo+i),H,ab,⟨t,?_⟩,⟨rfl,rfl⟩,a4,λb D=>(J b D).1));rw[Int.mul_one]
 done:=by
  intro X Z a2 Y a0 i a3 s a6 H a9 F J st a1;subst Z a2 Y;let(L,N,ad,O,U,V):=J j (by simp);show wpAny_pyNext_range_end (F.ok.hd a0) st (by have:n<=i:=a1;omega) λh' ac=>⟨rfl,F.turned (t':=s.toks) (λb o D e=>ac b o D e) L N O U V⟩
 self:=λο ο ο ο ο st h=>wpAny_pyIter_rangeiter st h
section
variable {X:Cx} {tg:Expr}
def wK (K:PySem.W.Frag) (tl:TE):TI:=λσ H R=>tl σ H λx H1=>∃a,x=.ref a/\(∃xs,BD K H1 a xs)/\R (WL K a) H1
theorem yI {l:Expr} {F:TE} (O:PE X l F):PI X tg l (wK X.K F):=by
 intro V s a0 H a1 L h;show wD (O V s a0 H _ L h) λv D Z=>?_;let(x,J,j,Y,W):=Z;let(a,e,(xs,U),q):=W;subst e;cases Y;let(a2,a3,p,hz):=j.list U;show wpAny_pyIter_list p.isList ?_;show(D.heap.objs.size,[D.heap.objs.size],_,_,J,rfl,j.kept (t':=D.toks) λb o e=>AA _ e,bj a _,(_,MA _ rfl,rfl,rfl),λb N=>?_,q);let e:b=D.heap.objs.size:=by simpa using N
 subst e;show j.fpOk (vA _) (j.hok.fresh (vA _))
theorem d9 {D:!(Addr×Obj)} {J:St} {H:Hp} {s:Shared} {L:It->Hp->Prop} {N:Value->Shared->Prop} {lo hi:Int} {t u v:Tok} {F:Nat} (O:LC X D J H s) (h1: -(2 ^ 62)<=lo) (h2:lo < 2 ^ 62) (W: -(2 ^ 62)<=hi) (Y:hi < 2 ^ 62)
  (q:L (QJ lo (hi - lo).toNat) H):wpAny (model X.prog X.w) X.A (pyIter (.ref s.heap.objs.size)) (Z8 X D J tg L) N {s with heap:=s.heap.push {cls:=.type "range",data:=.fields #[.int lo t,.int hi u,.int 1 v]},toks:=F}:=by
 show wpAny_pyIter_range (IsRange.new ..) (small_one h1 h2 W Y) ?_;let j:LC X D J H {s with heap:=s.heap.push {cls:=.type "range",data:=.fields #[.int lo t,.int hi u,.int 1 v]},toks:=F}:=O.kept λb o e=>AA _ e;show((s.heap.push {cls:=.type "range",data:=.fields #[.int lo t,.int hi u,.int 1 v]}).objs.size,[(s.heap.push {cls:=.type "range",data:=.fields #[.int lo t,.int hi u,.int 1 v]}).objs.size],_,_,H,rfl,
  j.kept (t':=F) λb o e=>AA _ e,cj _ lo (hi - lo).toNat,?_,λb Z=>?_,q)
 .let U:lo+((0:Nat):Int) * 1=lo:=by simp
  let V:(((hi - lo).toNat:Nat):Int) - ((0:Nat):Int)=Builtin.Range.rangeSize lo hi 1:=by rw[rangeSize_one];split<;>omega
  change IsRangeIter _ _ (lo+((0:Nat):Int) * 1) ((((hi - lo).toNat:Nat):Int) - ((0:Nat):Int)) 1;rw[U,V];show MA _ rfl
 .let e:b=(s.heap.push {cls:=.type "range",data:=.fields #[.int lo t,.int hi u,.int 1 v]}).objs.size:=by simpa using Z
  subst e;show j.fpOk (vA _) (j.hok.fresh (vA _))
def xK (ta:TA):TI:=λσ H R=>ta σ H λvs H1=>∃j:Int,vs=[.int j]/\ -(2 ^ 62)<=j/\j < 2 ^ 62/\R (QJ 0 j.toNat) H1
def yK (ta:TA):TI:=λσ H R=>ta σ H λvs H1=>∃i j:Int,vs=[.int i,.int j]/\(-(2 ^ 62)<=i/\i < 2 ^ 62/\ -(2 ^ 62)<=j/\j < 2 ^ 62)/\R (QJ i (j - i).toNat) H1
theorem OR {a:Expr} {J:TA} {p pos:Pos} (O:Gl X "range") (U:X.mg "range"=none) (N:PA X [a] J) (V:starEach [a] X.env=[(false,eval a X.env)]:=by rfl):PI X tg (.Call (.Name "range" p) [a] [] pos) (xK J):=by
 intro W s a2 H a4 F h;show Call_ (mO F O U boot_range (PyProof.Rows.callWith_type1 (wD (N pos W s a2 H _ F h) λus a5 a1=>?_) V rfl));let(vs,a3,L,Z,D):=a1;let(j,e,D,Y,q):=D;subst e;cases Z with
 |cons r a0=>
  cases a0;let(t,rfl):=r;show call_range_1 (d9 L ⋯ ⋯ D Y (by simpa using q))
theorem i9 {a b:Expr} {N:TA} {p pos:Pos} (V:Gl X "range") (W:X.mg "range"=none) (U:PA X [a,b] N) (Y:starEach [a,b] X.env=[(false,eval a X.env),(false,eval b X.env)]:=by rfl) (L:starEach [b] X.env=[(false,eval b X.env)]:=by rfl):
  PI X tg (.Call (.Name "range" p) [a,b] [] pos) (yK N):=by
 intro Z s a5 H a9 J h;show Call_ (mO J V W boot_range (PyProof.Rows.callWith_type1 (wD (U pos Z s a5 H _ J h) λus ab ⟨vs,a6,O,a4,D⟩=>?_) (by rw[Y,L]) (by rw[L];rfl)));let(i,j,e,(D,a0,a1,a2),q):=D;subst e;cases a4 with
 |cons r F=>
  cases F with
  |cons a3 F=>
   cases F;let(t,rfl):=r;let(t',rfl):=a3;show call_range_2 (d9 O D a0 a1 a2 q)
def tT (wi:TI) (g:TG) (tb:TS):TS:=λD σ H=>wi σ H λJ H1=>∃W:Nat->Nat->St->Hp->Prop,(∃m,W 0 m σ H1)/\∀i m σ H,W i m σ H->
 (J.stop i H/\D.nx σ H)\/(J.go i H/\∃N:St->Hp->Prop,(∀σ' H',N σ' H'->∃m',m' < m/\W (i+1) m' σ' H')/\∀x H',J.yld i H x H'->g x σ H' λσ2 H2=>tb {D with nx:=N,ct:=N,bk:=D.nx} σ2 H2)
def UG (fp:!Addr) (h:Heap):!(Addr×Obj):=fp.filterMap λb=>(h.get? b).map λo=>(b,o)
theorem qO {j:!Addr} {h:Heap} {b:Addr} {o:Obj} (D:b∈j) (e:h.get? b>o):(b,o)∈UG j h:=List.mem_filterMap.mpr (b,D,by rw[e];rfl)
theorem dj {j:!Addr} {h:Heap} {p:Addr×Obj} (J:p∈UG j h):p.1∈j/\h.get? p.1>p.2:=by
 let(b,F,e):=List.mem_filterMap.mp J;cases q:h.get? b with
 |none=>rw[q] at e;cases e
 |some o=>
  rw[q] at e;let D:(b,o)=p:=yA e;subst D;show⟨F,q⟩
theorem LC.pinned {D:!(Addr×Obj)} {O:St} {H:Hp} {s:Shared} {j:!Addr} (J:LC X D O H s) (Y:∀b∈j,JF X D H b) (ho:∀b∈j,∃o,s.heap.get? b>o/\∀v,o.data≠.cell v):LC X (D++UG j s.heap) O H s:=
 J.pins_of λp Z=>(jA.mp Z).elim (λF=>J.pin p (uA _ F)) λF=>by
  let(N,e):=dj F;let(U,V,W,_):=Y p.1 N;let(o,L,d):=ho p.1 N;rw[e] at L;cases L;show(e,U,V,W,d)
theorem LC.unpinned {D pl:!(Addr×Obj)} {F:St} {H:Hp} {s:Shared} (j:LC X (D++pl) F H s):LC X D F H s:=j.pins_of λp J=>j.pin p (uA _ (CA _ J))
theorem YL {a5:Expr} {al:!Stmt} {bb:TI} {g:TG} {b5:TS} {pos:Pos} (Z:PassesOwn (model X.prog X.w) X.A X.env X.xe) (b1:X.calm=true) (hi:PI X tg a5 bb) (c3:PG X tg g) (J:AG X al b5)
  (c6:∀x,foldedSetIterable a5 X.env x=pure x:=by intro _;rfl):PS X (.For tg a5 al [] pos) (tT bb g b5):=by
 intro U s bc H D bh h;show wpAny_For (wD (hi U s bc H _ bh h) λv dn h1=>wD h1 λdm dp h2=>?_) c6;let(dl,Y,b9,dd,bd,e,bl,T,cm,am,W,(c8,cv),cs):=h2;subst e;let ab:∀{H':Hp},(∀b∈Y,H' b=none)->∀b∈Y,JF X U H' b:=λc5 b J=>⟨c5 b J,(am b J).2⟩
 show codeAny_forLoop_any (λn s'=>∃i a1 H',LC X U a1 H' s'/\b9 i s'.heap/\(∀b∈Y,H' b=none)/\W i n a1 H') ?_ c8 (0,bc,bd,bl,cm,λb J=>(am b J).1,cv);rintro n b2 ⟨i,a2,a3,ad,b4,b0,cw⟩;let(co,ca)||(go,N,c2,step):=cs i n a2 a3 cw
 .show wpAny_passesOwn Z (wD (T.done X rfl rfl rfl b1 i U b2 a2 a3 X.xe ad (ab b0) b4 co) λr ck V=>?_);let(a4,bm):=V;subst a4;show wpAny_execs_nil (a2,a3,bm,ca)
 .show wpAny_passesOwn Z (wD (T.item X rfl rfl rfl b1 i U b2 a2 a3 X.xe ad (ab b0) b4 go) λr ck V=>?_);let(u,a4,c1):=V;subst a4;show wpAny_passesOwn Z (wD c1 λ_ b3 V=>?_);let(x,ac,bn,cd,d2,a9,c0):=V;let bo:=bn.pinned (ab c0) (T.obj _ _ a9);show wpAny_passesOwn Z (wD (c3 _ b3 a2 ac x u _ bo cd (step x ac d2)) λ_ cl V=>?_);let(d3,be,bt,c9):=V;show wpAny_passesOwn Z (wD (J _ cl d3 be _ bt c9) λf a6 O=>?_);let ah:∀{L:St} {j:Hp},LC X (U++UG Y b3.heap) L j a6->N L j->∃m,m < n/\∃i a1 H',LC X U a1 H' a6/\b9 i a6.heap/\(∀b∈Y,H' b=none)/\W i m a1 H':=λ{L j} F a0=>by
   let(c7,c4,cx):=c2 L j a0;show(c7,c4,i+1,L,j,F.unpinned,T.keep _ _ _ a9 λb J o e=>(F.pin (b,o) (uA _ (uA _ (qO J e)))).1,λb J=>?_,cx);let(o,e,d):=T.obj _ _ a9 b J;show (F.pin (b,o) (uA _ (uA _ (qO J e)))).2.1
  cases f with
  |next=>let(L,j,F,a0):=O;show ah F a0
  |cont=>let(L,j,F,a0):=O;show ah F a0
  |brk=>let(L,j,F,O):=O;show(L,j,F.unpinned,O)
  |ret v=>let(d1,L,j,F,ch,O):=O;show(d1,L,j,F.unpinned,ch,O)
end
theorem fj {K:PySem.W.Frag} {a:Addr} {xs:!V} {g:TG} {Y:TS} {D:ZE} {j:St} {H:Hp} (Pv:Nat->St->Hp->Prop) (h0:Pv 0 j H) (Z:∀i j H,i<=xs.length->Pv i j H->BD K H a xs)
  (a0:∀i x j H,xs[i]?>x->Pv i j H->g x j H λL F=>Y {D with nx:=Pv (i+1),ct:=Pv (i+1),bk:=D.nx} L F) (hd:∀j H,Pv xs.length j H->D.nx j H):
  ∃W:Nat->Nat->St->Hp->Prop,(∃m,W 0 m j H)/\∀i m j H,W i m j H->
   ((WL K a).stop i H/\D.nx j H)\/((WL K a).go i H/\∃N:St->Hp->Prop,(∀J H',N J H'->∃U,U < m/\W (i+1) U J H')/\∀x H',(WL K a).yld i H x H'->g x j H' λL F=>Y {D with nx:=N,ct:=N,bk:=D.nx} L F):=by
 show(λi m j H=>m=xs.length - i/\i<=xs.length/\Pv i j H,(xs.length,by simp,Nat.zero_le _,h0),?_);rintro i m j H ⟨rfl,hi,p⟩;let q:=Z i j H hi p;by_cases O:i < xs.length
 .show .inr ((xs,xs[i],q,by simp[O]),Pv (i+1),λJ H' a1=>(xs.length - (i+1),⋯,rfl,O,a1),λx H' y=>?_);let(e,y):=y;subst e;show a0 i x j _ (y xs q) p
 .let e:i=xs.length:=⋯;subst e;show .inl ⟨(xs,q,vA _),hd j H p⟩
theorem gj {lo:Int} {n:Nat} {g:TG} {V:TS} {D:ZE} {j:St} {H:Hp} (Pv:Nat->St->Hp->Prop) (h0:Pv 0 j H)
  (Y:∀i j H,i < n->Pv i j H->g (.int (lo+i)) j H λO F=>V {D with nx:=Pv (i+1),ct:=Pv (i+1),bk:=D.nx} O F) (hd:∀j H,Pv n j H->D.nx j H):
  ∃W:Nat->Nat->St->Hp->Prop,(∃m,W 0 m j H)/\∀i m j H,W i m j H->
   ((QJ lo n).stop i H/\D.nx j H)\/((QJ lo n).go i H/\∃N:St->Hp->Prop,(∀L H',N L H'->∃U,U < m/\W (i+1) U L H')/\∀x H',(QJ lo n).yld i H x H'->g x j H' λO F=>V {D with nx:=N,ct:=N,bk:=D.nx} O F):=by
 show(λi m j H=>m=n - i/\i<=n/\Pv i j H,(n,by simp,Nat.zero_le _,h0),?_);rintro i m j H ⟨rfl,hi,p⟩;by_cases J:i < n
 .show .inr (J,Pv (i+1),λL H' Z=>(n - (i+1),⋯,rfl,J,Z),λx H' y=>?_);let(e,y):=y;subst e y;show Y i j _ J p
 .let e:i=n:=⋯;subst e;show .inl ⟨vA _,hd j H p⟩
abbrev R2:=V->V->Hp->VK->Prop
def zF (X:Cx) (f:Value->Value->Sem Value) (r:R2):Prop:=
 ∀(pins:!(Addr×Obj)) (s:Shared) (σ:St) (H:Hp) (x y:V) (v u:Value) (Q:VK),LC X pins σ H s->SC x v->SC y u->r x y H Q->
  wpAny (model X.prog X.w) X.A (f v u) (EP X pins σ Q) X.xe s
def j9 (X:Cx) (f:Value->Sem Value) (r:V->Hp->VK->Prop):Prop:=
 ∀(pins:!(Addr×Obj)) (s:Shared) (σ:St) (H:Hp) (x:V) (v:Value) (Q:VK),LC X pins σ H s->SC x v->r x H Q->
  wpAny (model X.prog X.w) X.A (f v) (EP X pins σ Q) X.xe s
def eE (X:Cx) (f:Value) (r:!V->Hp->VK->Prop):Prop:=
 ∀(pins:!(Addr×Obj)) (s:Shared) (σ:St) (H:Hp) (xs:!V) (us:!Value) (Q:VK),LC X pins σ H s->VC xs us->r xs H Q->
  wpAny (model X.prog X.w) X.A (call f us) (EP X pins σ Q) X.xe s
def TruR (X:Cx) (r:V->Hp->(Bool->Hp->Prop)->Prop):Prop:=
 ∀(pins:!(Addr×Obj)) (s:Shared) (σ:St) (H:Hp) (x:V) (v:Value) (Q:Bool->Hp->Prop),LC X pins σ H s->SC x v->r x H Q->
  wpAny (model X.prog X.w) X.A (truthy v) (TP X pins σ Q) X.xe s
def pP (r:R2) (ta tb:TE):TE:=λσ H Q=>ta σ H λx H1=>tb σ H1 λy H2=>r x y H2 Q
def m9 (r:V->Hp->VK->Prop) (ta:TE):TE:=λσ H Q=>ta σ H λx H1=>r x H1 Q
def rI (C:Int->Int->Prop) (g:Int->Int->V):R2:=λx y H Q=>∃i j,x=.int i/\y=.int j/\C i j/\Q (g i j) H
def II (g:Int->Int->V):R2:=λx y H Q=>∃i j,x=.int i/\y=.int j/\Q (g i j) H
def rU (g:Int->V):V->Hp->VK->Prop:=λx H Q=>∃i,x=.int i/\Q (g i) H
section
variable {X:Cx} {a b c:Expr} {ta tb tc:TE} {pos:Pos}
theorem ZL (Z:PE X a ta) (a0:PE X b tb) {F:!(Addr×Obj)} {s:Shared} {D:St} {H:Hp} {O:V->V->Hp->Prop} (U:LC X F D H s)
  (h:ta D H λx L=>tb D L λy j=>O x y j) {Q:Value->Shared->Prop} {f:Value->Value->Sem Value}
  (a1:∀v u J x y j,LC X F D j J->SC x v->SC y u->O x y j->wpAny (model X.prog X.w) X.A (f v u) Q X.xe J):
  wpAny (model X.prog X.w) X.A (eval a X.env) (λv a9=>wpAny (model X.prog X.w) X.A (eval b X.env) (λu ab=>wpAny (model X.prog X.w) X.A (f v u) Q X.xe ab) X.xe a9) X.xe s:=by
 show wD (Z F s D H _ U h) λv a6 N=>?_;let(x,L,W,a4,a2):=N;show wD (a0 F a6 D L _ W a2) λu J N=>?_;let(y,j,Y,a5,a3):=N;show a1 v u J x y j Y a4 a5 a3
theorem jE {j:Operator} {r:R2} (ho:zF X (binaryOp j) r) (L:PE X a ta) (N:PE X b tb):PE X (.BinOp a j b pos) (pP r ta tb):=by
 intro O s Y H Q F h;show wpAny_BinOp (ZL L N F h λv u W x y D J U V q=>ho O W Y D x y v u Q J U V q)
theorem qP {j:UnaryOp} {r:V->Hp->VK->Prop} (ho:j9 X (unaryOp j) r) (O:PE X a ta):PE X (.UnaryOp j a pos) (m9 r ta):=by
 intro D s F H Q L h;show UnaryOp_ (wD (O D s F H _ L h) λv Y ⟨x,J,N,W,U⟩=>ho D Y F J x v Q N W U)
theorem rP {f:Value->Value->Sem Value} {C:Int->Int->Prop} {g:Int->Int->Int}
  (L:∀(i j:Int) (t u:Tok) (s:Shared) (Q:Value->Shared->Prop) (D:Value->Shared->Prop),C i j->Q (.int (g i j) s.toks) {s with toks:=s.toks+1}->wpAny (model X.prog X.w) X.A (f (.int i t) (.int j u)) Q D s):
  zF X f (rI C λi j=>.int (g i j)):=by
 intro U s V H x y v u Q F N O h;let(i,j,rfl,rfl,J,q):=h;let(t,rfl):=N;let(t',rfl):=O;show L i j t t' s _ _ J (.int (g i j),H,F.tok _,⟨_,rfl⟩,q)
theorem aM {f:Value->Value->Sem Value} {g:Int->Int->Int}
  (J:∀(i j:Int) (t u:Tok) (s:Shared) (Q:Value->Shared->Prop) (D:Value->Shared->Prop),Q (.int (g i j) s.toks) {s with toks:=s.toks+1}->wpAny (model X.prog X.w) X.A (f (.int i t) (.int j u)) Q D s):
  zF X f (II λi j=>.int (g i j)):=by
 intro O s U H x y v u Q F L N h;let(i,j,rfl,rfl,q):=h;let(t,rfl):=L;let(t',rfl):=N;show J i j t t' s _ _ (.int (g i j),H,F.tok _,⟨_,rfl⟩,q)
theorem RJ {f:Value->Value->Sem Value} {g:Int->Int->Bool}
  (J:∀(i j:Int) (t u:Tok) (s:Shared) (Q:Value->Shared->Prop) (D:Value->Shared->Prop),Q (.bool (g i j)) s->wpAny (model X.prog X.w) X.A (f (.int i t) (.int j u)) Q D s):
  zF X f (II λi j=>.bl (g i j)):=by
 intro O s U H x y v u Q F L N h;let(i,j,rfl,rfl,q):=h;let(t,rfl):=L;let(t',rfl):=N;show J i j t t' s _ _ (.bl (g i j),H,F,rfl,q)
def sP (i j:Int):Prop:=0 < j/\j < 1073741824
def bM (i j:Int):Prop:=0<=j/\j<=1000000/\i.natAbs < 2 ^ 64
def SJ (i j:Int):Prop:=(-(2 ^ 64) < i/\i < 2 ^ 64)\/(-(2 ^ 64) < j/\j < 2 ^ 64)
theorem SJ.ok {i j:Int} (h:SJ i j):IntMulOk i j:=by
 let(h1,h2)||(h1,h2):=h
 .show .of_left (intBits_le_64 h1 h2)
 .show .of_right (intBits_le_64 h1 h2)
theorem KG:zF X (binaryOp .Add) (II λi j=>.int (i+j)):=aM λο ο ο ο ο ο ο q=>add_int q
theorem AJ:zF X (binaryOp .Sub) (II λi j=>.int (i - j)):=aM λο ο ο ο ο ο ο q=>sub_int q
theorem tP:zF X (binaryOp .Mult) (rI SJ λi j=>.int (i * j)):=rP λο ο ο ο ο ο ο D q=>mul_int q D.ok
theorem o9:zF X (binaryOp .FloorDiv) (rI sP λi j=>.int (i / j)):=rP λi j ο ο ο ο ο D q=>by
 let h1:(0:Int) < j:=D.1;let h2:j < 1073741824:=D.2;show floordiv_int ⋯ (by rw[Int.fdiv_eq_ediv_of_nonneg i ⋯];show q) (.inl (PyProof.noPylong_small ⋯))
theorem TJ:zF X (binaryOp .Mod) (rI (λο j=>0 < j) λi j=>.int (i % j)):=rP λi j ο ο ο ο ο D q=>by
 let h1:(0:Int) < j:=D;show mod_int' ⋯ (by rw[Int.fmod_eq_emod_of_nonneg i ⋯];show q)
theorem cM:zF X (binaryOp .Pow) (rI bM λi j=>.int (i ^ j.toNat)):=rP λο ο ο ο ο ο ο D q=>pow_int_small D.1 D.2.1 D.2.2 q
theorem dM:zF X (binaryOp .LShift) (rI bM λi j=>.int (i * 2 ^ j.toNat)):=rP λο ο ο ο ο ο ο D q=>lshift_int_small D.1 D.2.1 D.2.2 q
theorem eM:zF X (binaryOp .BitAnd) (II λi j=>.int (Builtin.bitAnd i j)):=aM λο ο ο ο ο ο ο q=>and_int q
end
def JI:V->V->Bool
 |.non,.non=>true|.non,.int _=>true|.int _,.non=>true|.non,.bl _=>true|.bl _,.non=>true|.non,.str _=>true|.str _,.non=>true
 |.int _,.int _=>true|.bl _,.bl _=>true|.str _,.str _=>true|.byt _,.byt _=>true
 |.int _,.str _=>true|.str _,.int _=>true|.bl _,.str _=>true|.str _,.bl _=>true
 |_,_=>false
def rEq:R2:=λx y H Q=>JI x y=true/\Q (.bl (decide (x=y))) H
def rNe:R2:=λx y H Q=>JI x y=true/\Q (.bl (not (decide (x=y)))) H
theorem t9 {i j:Int}:decide (V.int i=V.int j)=(i == j):=by
 rw[rB];simp
theorem x9 {i j:Bool}:decide (V.bl i=V.bl j)=(i == j):=by
 rw[rB];simp
theorem y9 {i j:Str}:decide (V.str i=V.str j)=(i == j):=by
 rw[rB];simp
theorem O9 {i j:Array UInt8}:decide (V.byt i=V.byt j)=(i.toList == j.toList):=by
 rw[rB];cases i;cases j;simp
section
variable {X:Cx} {a b c:Expr} {ta tb tc:TE} {pos:Pos}
theorem mF {D:!(Addr×Obj)} {F:St} {H:Hp} {s:Shared} {Q:VK} {k j:Bool} (J:LC X D F H s) (q:Q (.bl k) H) (e:k=j):EP X D F Q (.bool j) s:=by
 subst e;show(.bl k,H,J,rfl,q)
theorem jI:zF X (compareOp .Eq) rEq:=by
 intro N s O H x y v u Q D L F h;let(J,q):=h;cases x with
 |non=>
  cases L;cases y with
  |non=>cases F;show PySem.EqNone.eq_none_none (mF D q (by simp))
  |bl j=>cases F;show PySem.EqNone.eq_none_bool (mF D q (by simp))
  |int j=>let(t',rfl):=F;show PySem.EqNone.eq_none_int (mF D q (by simp))
  |str j=>let(t',rfl):=F;show PySem.EqNone.eq_none_str (mF D q (by simp))
  |_=>show absurd (show false=true from J) zA
 |bl i=>
  cases L;cases y with
  |non=>cases F;show PySem.EqNone.eq_bool_none (mF D q (by simp))
  |bl j=>cases F;show eq_bool (mF D q x9)
  |str j=>let(t',rfl):=F;show PySem.EqMixed.eq_bool_str (mF D q (by simp))
  |_=>show absurd (show false=true from J) zA
 |int i=>
  let(t,rfl):=L;cases y with
  |non=>cases F;show PySem.EqNone.eq_int_none (mF D q (by simp))
  |int j=>let(t',rfl):=F;show eq_int (mF D q t9)
  |str j=>let(t',rfl):=F;show PySem.EqMixed.eq_int_str (mF D q (by simp))
  |_=>show absurd (show false=true from J) zA
 |str i=>
  let(t,rfl):=L;cases y with
  |non=>cases F;show PySem.EqNone.eq_str_none (mF D q (by simp))
  |bl j=>cases F;show PySem.EqMixed.eq_str_bool (mF D q (by simp))
  |int j=>let(t',rfl):=F;show PySem.EqMixed.eq_str_int (mF D q (by simp))
  |str j=>let(t',rfl):=F;show eq_str (mF D q y9)
  |_=>show absurd (show false=true from J) zA
 |byt i=>
  let(t,rfl):=L;cases y with
  |byt j=>let(t',rfl):=F;show PySem.W.eq_bytes (mF D q O9)
  |_=>show absurd (show false=true from J) zA
 |_=>cases y<;>show absurd (show false=true from J) zA
theorem uP:zF X (compareOp .NotEq) rNe:=by
 intro N s O H x y v u Q D L F h;let(J,q):=h;cases x with
 |non=>
  cases L;cases y with
  |non=>cases F;show PySem.EqNone.ne_none_none (mF D q (by simp))
  |bl j=>cases F;show PySem.EqNone.ne_none_bool (mF D q (by simp))
  |int j=>let(t',rfl):=F;show PySem.EqNone.ne_none_int (mF D q (by simp))
  |str j=>let(t',rfl):=F;show PySem.EqNone.ne_none_str (mF D q (by simp))
  |_=>show absurd (show false=true from J) zA
 |bl i=>
  cases L;cases y with
  |non=>cases F;show PySem.EqNone.ne_bool_none (mF D q (by simp))
  |bl j=>cases F;show ne_bool (mF D q (congrArg not x9))
  |str j=>let(t',rfl):=F;show PySem.EqMixed.ne_bool_str (mF D q (by simp))
  |_=>show absurd (show false=true from J) zA
 |int i=>
  let(t,rfl):=L;cases y with
  |non=>cases F;show PySem.EqNone.ne_int_none (mF D q (by simp))
  |int j=>let(t',rfl):=F;show ne_int (mF D q (congrArg not t9))
  |str j=>let(t',rfl):=F;show PySem.EqMixed.ne_int_str (mF D q (by simp))
  |_=>show absurd (show false=true from J) zA
 |str i=>
  let(t,rfl):=L;cases y with
  |non=>cases F;show PySem.EqNone.ne_str_none (mF D q (by simp))
  |bl j=>cases F;show PySem.EqMixed.ne_str_bool (mF D q (by simp))
  |int j=>let(t',rfl):=F;show PySem.EqMixed.ne_str_int (mF D q (by simp))
  |str j=>let(t',rfl):=F;show ne_str (mF D q (congrArg not y9))
  |_=>show absurd (show false=true from J) zA
 |byt i=>
  let(t,rfl):=L;cases y with
  |byt j=>let(t',rfl):=F;show PySem.W.ne_bytes (mF D q (congrArg not O9))
  |_=>show absurd (show false=true from J) zA
 |_=>cases y<;>show absurd (show false=true from J) zA
theorem fM:zF X (compareOp .Lt) (II λi j=>.bl (decide (i < j))):=RJ λο ο ο ο ο ο ο q=>lt_int q
theorem zK:zF X (compareOp .LtE) (II λi j=>.bl (decide (i<=j))):=RJ λο ο ο ο ο ο ο q=>le_int q
theorem gM:zF X (compareOp .Gt) (II λi j=>.bl (decide (j < i))):=RJ λο ο ο ο ο ο ο q=>gt_int q
theorem uT:zF X (compareOp .GtE) (II λi j=>.bl (decide (j<=i))):=RJ λο ο ο ο ο ο ο q=>ge_int q
theorem KI:zF X (compareOp .Is) (λx y H Q=>y=.non/\Q (.bl (decide (x=.non))) H):=by
 intro J s L H x y v u Q D j F h;let(rfl,q):=h;cases F;show is_none_gen (mF D q ?_);cases x<;>first
  |(cases j;rfl)
  |(let(t,rfl):=j;rfl)
theorem P9:zF X (compareOp .IsNot) (λx y H Q=>y=.non/\Q (.bl (not (decide (x=.non)))) H):=by
 intro J s L H x y v u Q D j F h;let(rfl,q):=h;cases F;show isnot_none_gen (mF D q ?_);cases x<;>first
  |(cases j;rfl)
  |(let(t,rfl):=j;rfl)
theorem UC (b:Expr) {j:CmpOp} (h:j≠.In:=by decide) (h2:j≠.NotIn:=by decide):behindInMarks j b=false:=by
 let D:(j == CmpOp.In)=false:=by cases j<;>first|rfl|exact absurd rfl h
 let F:(j == CmpOp.NotIn)=false:=by cases j<;>first|rfl|exact absurd rfl h2
 cases b<;>simp[behindInMarks,D,F]
theorem zI {j:CmpOp} {r:R2} (ho:zF X (compareOp j) r) (L:PE X a ta) (N:PE X b tb) (O:behindInMarks j b=false):PE X (.Compare a [j] [b] pos) (pP r ta tb):=by
 intro U s Z H Q F h;show wpAny_Compare1 (ZL L N F h λv u Y x y D J V W q=>ho U Y Z D x y v u Q J V W q) O
def AK (t:TE):TT:=λσ H Q=>t σ H λx H'=>∃k,x=.bl k/\Q k H'
theorem dF {j:CmpOp} {r:R2} (ho:zF X (compareOp j) r) (Y:PE X a ta) (Z:PE X b tb) (a0:behindInMarks j b=false):PT X (.Compare a [j] [b] pos) (AK (pP r ta tb)):=by
 intro D s F H Q O h;show wpAny_isTrue_Compare1 (wD (Y D s F H _ O h) λv a9 ⟨x,J,U,a4,a1⟩=>wD (Z D a9 F J _ U a1) λu ab ⟨y,L,V,a5,a2⟩=>
  wD (ho D ab F L x y v u _ V a4 a5 a2) λc ac ⟨ad,N,W,a6,k,e,a3⟩=>?_) a0
 subst e;cases a6;show bC (N,W,a3)
def LI (r r':R2) (ta tb tc:TE):TE:=λσ H Q=>ta σ H λx H1=>tb σ H1 λy H2=>r x y H2 λz H3=>∃k,z=.bl k/\
 (if k=true then tc σ H3 λw' H4=>r' y w' H4 Q else Q (.bl false) H3)
theorem ij {F J:CmpOp} {r U:R2} (ho:zF X (compareOp F) r) (ab:zF X (compareOp J) U) (a4:PE X a ta) (a5:PE X b tb) (a6:PE X c tc)
  (a9:lastMarks [F,J] [b,c]=false:=by with_unfolding_all rfl):PE X (.Compare a [F,J] [b,c] pos) (LI r U ta tb tc):=by
 intro j s D H Q a0 h;show Compare_chain (wD (a4 j s D H _ a0 h) λv b1 ⟨x,W,a1,al,ac⟩=>chain_link (wD (a5 j b1 D W _ a1 ac) λu b2 ⟨y,Y,a2,V,ad⟩=>
  wD (ho j b2 D Y x y v u _ a2 al V ad) λd b3 ⟨bb,L,N,am,k,e,O⟩=>?_)) a9
 subst e;cases am;show bC ?_;cases k with
 |false=>show ite_ff (.bl false,L,N,rfl,O)
 |true=>show ite_tt (chain_last (wD (a6 j b3 D L _ N O) λb5 b4 ⟨b9,Z,a3,b0,ah⟩=>ab j b4 D Z y b9 u b5 Q a3 V b0 ah))
def TruV (K:PySem.W.Frag) (x:V) (H:Hp) (k:Bool):Prop:=
 match x with
 |.non=>k=false
 |.bl b=>k=b
 |.int i=>k=(i != 0)
 |.str y=>y.length<=sizeLine/\k=((y.length:Int) != 0)
 |.byt y=>y.size<=sizeLine/\k=((y.size:Int) != 0)
 |.ref p=>(∃xs,BD K H p xs/\k= not xs.isEmpty)\/(∃xs,HD K H p xs/\k= not xs.isEmpty)\/∃kvs,H p>(.dK kvs)/\k= not kvs.isEmpty
 |_=>False
theorem VG:(sizeLine:Nat) < 2 ^ 63:=by rw[sizeLine_eq];decide
theorem GE {x:V} {us:!Value} (r:VC [x] us):∃u,us=[u]/\SC x u:=by
 cases r with
 |cons j D=>cases D;show(_,rfl,j)
theorem BK {x y:V} {us:!Value} (r:VC [x,y] us):∃u j,us=[u,j]/\SC x u/\SC y j:=by
 cases r with
 |cons D F=>
  cases F with
  |cons J L=>cases L;show(_,_,rfl,D,J)
theorem jj (J:X.calm=true):eE X (.builtin "max") (λxs H Q=>∃i j,xs=[.int i,.int j]/\Q (.int (if GT.gt j i then j else i)) H):=by
 intro L s U H xs us Q F r h;let(i,j,rfl,q):=h;let(u,O,rfl,(t,rfl),(t',rfl)):=BK r;show max_two_ints (F.ok.hd J) λh' N k=>(_,H,F.kept k,?_,q)
 by_cases D:GT.gt j i
 .rw[iA D,iA D];show⟨_,rfl⟩
 .rw[gA D,gA D];show⟨_,rfl⟩
theorem kj (J:X.calm=true):eE X (.builtin "min") (λxs H Q=>∃i j,xs=[.int i,.int j]/\Q (.int (if j < i then j else i)) H):=by
 intro L s U H xs us Q F r h;let(i,j,rfl,q):=h;let(u,O,rfl,(t,rfl),(t',rfl)):=BK r;show min_two_ints (F.ok.hd J) λh' N k=>(_,H,F.kept k,?_,q)
 by_cases D:j < i
 .rw[iA D,iA D];show⟨_,rfl⟩
 .rw[gA D,gA D];show⟨_,rfl⟩
theorem lj:eE X (.type "int") (λxs H Q=>(∃i,xs=[.int i]/\Q (.int i) H)\/∃k,xs=[.bl k]/\Q (.int (if k then 1 else 0)) H):=by
 intro F s J H xs us Q j r h;let(i,rfl,q)||(k,rfl,q):=h
 .let(u,rfl,t,rfl):=GE r;show call_int_int (.int i,H,j,⟨_,rfl⟩,q)
 .let(u,rfl,D):=GE r;cases D;show call_int_bool (.int (if k then 1 else 0),H,j.tok _,⟨_,rfl⟩,q)
def vT (K:PySem.W.Frag) (x:V) (H:Hp) (n:Nat):Prop:=
 match x with
 |.str y=>y.length<=sizeLine/\n=y.length
 |.byt y=>y.size<=sizeLine/\n=y.size
 |.ref p=>(∃xs,BD K H p xs/\n=xs.length)\/∃xs,HD K H p xs/\n=xs.length
 |_=>False
theorem rO:eE X (.builtin "len") (λxs H Q=>∃x n,xs=[x]/\vT X.K x H n/\Q (.int n) H):=by
 intro Y s Z H xs us Q D r h;let(x,n,rfl,e,q):=h;let(u,rfl,N):=GE r;let V:=VG;let W:sizeLine=16777216:=sizeLine_eq;cases x with
 |str y=>
  let(t,rfl):=N;obtain⟨O,j⟩:y.length<=sizeLine/\n=y.length:=e;subst j;show len_str ⋯ (.int _,H,D.tok _,⟨_,rfl⟩,q)
 |byt y=>
  let(t,rfl):=N;obtain⟨O,j⟩:y.size<=sizeLine/\n=y.size:=e;subst j;show PySem.W.len_bytes ⋯ (.int _,H,D.tok _,⟨_,rfl⟩,q)
 |ref p=>
  cases N;let j:(∃xs,BD X.K H p xs/\n=xs.length)\/∃xs,HD X.K H p xs/\n=xs.length:=e;let(xs,J,j)||(xs,J,j):=j
  .subst j;let(U,L,pl,hz):=D.list J;let F:=L.length;show Calls.call_len_list pl.isList (by simp only[LA];omega) (.int xs.length,H,D.tok _,⟨_,by simp only[LA];rw[F]⟩,q)
  .subst j;let(U,L,pl,hz):=D.tuple J;let F:=L.length;show len_tuple pl (by simp only[LA];omega) (.int xs.length,H,D.tok _,⟨_,by simp only[LA];rw[F]⟩,q)
 |_=>show (show False from e).elim
end
structure DH (h:Heap) (x dx C:Addr) (mA:Str->Option Value):Prop where
 obj:h.get? x>(PySem.W.instObj C dx)
 ns:h.Ns1 dx mA
 ne:dx≠x
set_option tactic.hygienic true in
theorem mj {h:Heap} {dx:Addr} {mA:Str->Option Value} (n:h.Ns1 dx mA):∃od,h.get? dx>od/\∀name,PySem.W.lookIn name od>(mA name):=by
 let(o,es,ep,ho,hd,hk,_,hm):=n;show(o,ho,λname=>?_);let e:=hm name;unfold nsFind findBy at e;rw[<-Array.find?_toList] at e;unfold PySem.W.lookIn;rw[hd];dsimp only
 split
 .rename_i y q;rw[q] at e;show congrArg some e
 .rename_i q;rw[q] at e;let a:es.toList.any (·.refKey)=false:=by
   rw[List.any_eq_false];intro y hy;let(z,t,hkey):=hk y (Array.mem_toList_iff.mp hy);simp[DictEntry.refKey,hkey]
  let a':¬es.toList.any (·.refKey)=true:=by rw[a];show zA
  rw[gA a'];show congrArg some e
theorem DH.look {h:Heap} {x F C:Addr} {J:Str->Option Value} (D:DH h x F C J):∃j,PySem.W.InstAt h x (PySem.W.instObj C F) C (some j)/\∀name,PySem.W.lookIn name j>(J name):=
 let ⟨j,ho,hl⟩:=mj D.ns
 (j,(D.obj,rfl,rfl,ho),hl)
section
variable {prog:Program} {w:World} {A:Around} {E:Value->Shared->Prop} {s:Shared} {K:PySem.W.Frag} {x dx C f:Addr} {mA:Str->Option Value} {name:Str} {v:Value}
theorem nj {F:Bool} {Q:Value->Shared->Prop} (X:K.In s.heap) (j:DH s.heap x dx C mA) (L:PySem.W.plainGet K C name=true) (N:PySem.W.hasDictIn K C=true)
  (J:PySem.W.findIn K (.ref C) name>none) (U:mA name>v) (V:PySem.W.handedIn v=true) (h:Q v {s with toks:=s.toks+1}):
  wpAny (model prog w) A (getAttr (.ref x) name F) Q E s:=by
 let(W,D,O):=j.look;show PySem.W.get_value X D (PySem.W.plainGet_of L).1 (PySem.W.findObj_own N J rfl (by rw[O,U])) V h
theorem oj {pl:Sem Bool} {Q:Value×!Value->Shared->Prop} (X:K.In s.heap) (D:DH s.heap x dx C mA) (j:PySem.W.plainGet K C name=true)
  (J:PySem.W.findIn K (.ref C) name>(↑f)) (N:PySem.W.isFn K (.ref f)=true) (O:mA name=none) (h:Q (.ref f,[.ref x]) s):
  wpAny (model prog w) A (getMethod (.ref x) name pl) Q E s:=by
 let(U,F,L):=D.look;show PySem.W.method_fn X F (PySem.W.plainGet_of j).1 (PySem.W.plainGet_of j).2 J (XB.mp N) (by change (PySem.W.lookIn name U).map (·.isSome)>false;rw[L,O];rfl) h
theorem pj {ns:!Str} {Q:Unit->Shared->Prop} (X:K.In s.heap) (j:DH s.heap x dx C mA)
  (Y:PySem.W.findIn K (.ref C) "__setattr__">(some (.builtin "object.__setattr__"))) (W:PySem.W.plainOver K C=true) (Z:PySem.W.takerIn K C name>none) (V:PySem.W.hasDictIn K C=true)
  (a0:PySem.Within mA ns) (hsz:ns.length<=sizeLine)
  (h:∀h',DH h' x dx C (λy=>if y=name then some v else mA y)->Heap.SameBut dx s.heap h'->Q ⟨⟩ {s with heap:=h',toks:=s.toks+2}):
  wpAny (model prog w) A (setAttr (.ref x) name v) Q E s:=by
 let(a9,D,a5):=j.look;show PySem.W.set_plain X D Y (PySem.W.osa_open (s:={s with toks:=s.toks+1}) (r:=none) X D W Z λb=>?_);let(a2,L,O):=PySem.W.any_some V;let a1:s.heap.get? x>(.ref C,some dx,.plain, #[]):=j.obj;show fA (BA (fA (fA (wpAny_loadPart a1 (fA (PySem.W.Looks.here (s:={s with toks:=s.toks+1}) (PySem.W.looks_clsIn X L) ?_))))));rw[O];show BA (a:=some dx) (fA (BA (fA ?_)));show wpAny_nsSet1 (s:={s with toks:=s.toks+1}) j.ns λh' F J=>?_;let(a6,a4,a3,jF,U,N):=F.count (PySem.Within.cons name v a0);show fA (wpAny_lookBehind jF (by rw[U];show pastItsLine_dict (FB N (by rw[gB];omega))) ?_);show BA (h _ ((J.2 _ (Ne.symm j.ne)).trans j.obj,F,j.ne) J)
theorem qj {D:Result->Shared->Prop} {vs:!Value} {j:!(Str×Value)} (X:K.In s.heap) (J:PySem.W.makesIn K C=true)
  (hi:PySem.W.findIn K (.ref C) "__init__">(↑f)) (F:PySem.W.typeIn K (.ref f)>(.type "function"))
  (h:codeAny (model prog w) (A.under (.builtin "type.__call__" ⟨.ref C::vs,j⟩)) (.call (.ref f) ⟨.ref (s.heap.objs.size+1)::vs,j⟩) (PySem.W.InitBack (s.heap.objs.size+1) D)
   {s with heap:=(s.heap.push PySem.W.emptyDict).push (PySem.W.instObj C s.heap.objs.size)}):
  codeAny (model prog w) A (.call (.ref C) ⟨vs,j⟩) D s:=by
 let(N,g,d,t,O):=s;show PySem.W.make_core (PySem.W.makes_of X J) (PySem.W.looks_findIn X hi) (λL=>PySem.W.bind_fn X L F) (.inl rfl) h
end
def QC (f:Str) (v:V):!(Str×V)->!(Str×V)
 |[]=>[(f,v)]
 |(g,x)::r=>if g=f then (g,v)::r else (g,x)::QC f v r
theorem sO (f g:Str) (v:V):∀fs:!(Str×V),(QC f v fs).lookup g=if g=f then some v else fs.lookup g
 |[]=>by
  change List.lookup g [(f,v)]=_;by_cases h:g=f
  .let hb:(g == f)=true:=XB.mpr h;simp only[List.lookup,hb,iA h]
  .let hb:(g == f)=false:=fC.mpr h;simp only[List.lookup,hb,gA h]
 |(k,x)::r=>by
  let ih:=sO f g v r;rw[show QC f v ((k,x)::r)=(if k=f then (k,v)::r else (k,x)::QC f v r) from rfl];by_cases hk:k=f
  .rw[iA hk];by_cases h:g=k
   .let hb:(g == k)=true:=XB.mpr h;simp only[List.lookup,hb,iA (h.trans hk)]
   .let hb:(g == k)=false:=fC.mpr h;simp only[List.lookup,hb,gA (λe:g=f=>h (e.trans hk.symm))]
  .rw[gA hk];by_cases h:g=k
   .let hb:(g == k)=true:=XB.mpr h;simp only[List.lookup,hb,gA (λe:g=f=>hk (h.symm.trans e))]
   .let hb:(g == k)=false:=fC.mpr h;simp only[List.lookup,hb];show ih
theorem wT (f:Str) (v:V):∀fs:!(Str×V),f∈(QC f v fs).map (·.1)/\∀g,g∈fs.map (·.1)->g∈(QC f v fs).map (·.1)
 |[]=>⟨by simp[QC],λg h=>by simp at h⟩
 |(k,x)::r=>by
  let(i1,i2):=wT f v r;rw[show QC f v ((k,x)::r)=(if k=f then (k,v)::r else (k,x)::QC f v r) from rfl];by_cases hk:k=f
  .rw[iA hk];subst hk;show⟨by simp,λg h=>by simpa using h⟩
  .rw[gA hk];show⟨?_,λg h=>?_⟩
   .rw[rA];show kA _ i1
   .rw[rA] at h ⊢;let e||e:=pA.mp h
    .show pA.mpr (.inl e)
    .show kA _ (i2 g e)
theorem Q9 (f:Str) (v:V):∀fs:!(Str×V),(QC f v fs).length<=fs.length+1
 |[]=>by simp[QC]
 |(k,x)::r=>by
  let ih:=Q9 f v r;rw[show QC f v ((k,x)::r)=(if k=f then (k,v)::r else (k,x)::QC f v r) from rfl];by_cases hk:k=f
  .rw[iA hk,gB,gB];omega
  .rw[gA hk,gB,gB];omega
theorem SE.some_of {v:V} {o:Option Value} (r:SE (some v) o):∃u,o>u/\SC v u:=by
 cases o with
 |none=>show (show False from r).elim
 |some u=>show(u,rfl,r)
theorem SE.none_of {o:Option Value} (r:SE none o):o=none:=by
 cases o with
 |none=>rfl
 |some u=>show (show False from r).elim
theorem rj {v:V} {u:Value} (r:SC v u):PySem.W.handedIn u=true:=by
 cases v with
 |non=>cases (show u=Value.none from r);rfl
 |bl b=>cases (show u=Value.bool b from r);rfl
 |int i=>let(t,e):=(show ∃t,u=Value.int i t from r);cases e;rfl
 |str x=>let(t,e):=(show ∃t,u=Value.str x t from r);cases e;rfl
 |byt b=>let(t,e):=(show ∃t,u=Value.bytes b t from r);cases e;rfl
 |flt b=>let(t,e):=(show ∃t,u=Value.float b t from r);cases e;rfl
 |ref a=>cases (show u=Value.ref a from r);rfl
 |ty n=>cases (show u=Value.type n from r);rfl
section
variable {P:Program} {w:World} {H H':Hp} {h h':Heap} {a C dx:Addr} {fs fs':!(Str×V)}
theorem PR (D:YE P w H h) (e:H a>(.ins C dx fs)):∃j,DH h a dx C j/\(∀f,SE (fs.lookup f) (j f))/\PySem.Within j (fs.map (·.1))/\fs.length<=1000/\H dx>(.own a):=by
 let(d,L,F,J,j,n,r,q):=(show tD P w H h a (.ins C dx fs) from D a _ e)
 show(j,(J,n,F),r,q,L,d)
end
structure WG (K:PySem.W.Frag) (C:Addr):Prop where
 pg:PySem.W.plainGet K C Str.empty=true
 hd:PySem.W.hasDictIn K C=true
 po:PySem.W.plainOver K C=true
 sa:PySem.W.findIn K (.ref C) "__setattr__">(some (.builtin "object.__setattr__"))
theorem WG.get {K:PySem.W.Frag} {C:Addr} (c:WG K C) (f:Str):PySem.W.plainGet K C f=true:=c.pg
def xD (K:PySem.W.Frag) (C:Addr) (f:Str):Prop:=PySem.W.findIn K (.ref C) f>none
theorem xD.taker {K:PySem.W.Frag} {C:Addr} {f:Str} (n:xD K C f):PySem.W.takerIn K C f>none:=by
 unfold PySem.W.takerIn;rw[show PySem.W.findIn K (.ref C) f>none from n]
 rfl
structure EH (K:PySem.W.Frag) (C:Addr) (m:Str) (f:Addr):Prop where
 at_:PySem.W.findIn K (.ref C) m>(↑f)
 fn:PySem.W.isFn K (.ref f)=true
 kp:PySem.W.keepIn K (.ref f)=true
section
variable {X:Cx} {pins:!(Addr×Obj)} {σ:St} {H:Hp} {s:Shared} {a C dx:Addr} {fs:!(Str×V)} {f:Str} {v:V} {A:Around} {E:Value->Shared->Prop}
theorem sj {b:Bool} {Q:Value->Shared->Prop} (j:LC X pins σ H s) (e:H a>(.ins C dx fs)) (c:WG X.K C) (n:xD X.K C f) (l:fs.lookup f>v)
  (h:∀u s',LC X pins σ H s'->SC v u->Q u s'):wpAny (model X.prog X.w) A (getAttr (.ref a) f b) Q E s:=by
 let(L,F,r,_,_,_):=PR j.hok e;let(u,J,D):=SE.some_of (v:=v) (o:=L f) (by rw[<-l];show r f);show nj j.kIn F (c.get f) c.hd n J (rj D) (h u _ (j.tok _) D)
theorem R9 {m:Str} {g:Addr} {pl:Sem Bool} {Q:Value×!Value->Shared->Prop} (j:LC X pins σ H s) (e:H a>(.ins C dx fs)) (c:WG X.K C) (k:EH X.K C m g) (l:fs.lookup m=none)
  (h:Q (.ref g,[.ref a]) s):wpAny (model X.prog X.w) A (getMethod (.ref a) m pl) Q E s:=by
 let(J,D,r,_,_,_):=PR j.hok e;let F:J m=none:=SE.none_of (by rw[<-l];show r m);show oj j.kIn D (c.get m) k.at_ k.fn F h
theorem tj {y:V} {u:Value} {Q:Unit->Shared->Prop} (j:LC X pins σ H s) (e:H a>(.ins C dx fs)) (c:WG X.K C) (n:xD X.K C f) (Y:fs.length < 1000) (W:SC y u)
  (h:∀s',LC X pins σ (JC H a (.ins C dx (QC f y fs))) s'->Q ⟨⟩ s'):wpAny (model X.prog X.w) A (setAttr (.ref a) f u) Q E s:=by
 let(L,D,r,N,_,ho):=PR j.hok e;let hz:(fs.map (·.1)).length<=sizeLine:=by rw[dA,sizeLine_eq];omega
 show pj j.kIn D c.sa c.po n.taker c.hd N hz λh' F sb=>h _ ?_;let hd:∃o,h'.get? dx>o:=let ⟨o,_,_,e',_⟩:=F.ns;⟨o,e'⟩
 show j.write (x:=a) (e:=dx) (by rw[e];show True.intro) (.inr ho) (λb q O J=>(sb.2 b O).trans J) hd ?_;show(by rw[WC D.ne];show ho,?_,D.ne,F.obj,_,F.ns,λg=>?_,λg U=>?_)
 .have:=Q9 f y fs;omega
 .change SE ((QC f y fs).lookup g) (if g=f then some u else L g);rw[sO];by_cases q:g=f
  .rw[iA q,iA q];show W
  .rw[gA q,gA q];show r g
 .by_cases q:g=f
  .rw[q];show (wT f y fs).1
  .show (wT f y fs).2 g (N g λJ=>U ?_);change (if g=f then some u else L g)=none;rw[gA q];show J
theorem LC.made (F:LC X pins σ H s):LC X pins σ (JC (JC H s.heap.objs.size (.own (s.heap.objs.size+1))) (s.heap.objs.size+1) (.ins C s.heap.objs.size []))
  {s with heap:=(s.heap.push PySem.W.emptyDict).push (PySem.W.instObj C s.heap.objs.size)}:=by
 let j:(s.heap.push PySem.W.emptyDict).get? s.heap.objs.size>PySem.W.emptyDict:=MA s.heap rfl;let L:((s.heap.push PySem.W.emptyDict).push (PySem.W.instObj C s.heap.objs.size)).get? (s.heap.objs.size+1)>(PySem.W.instObj C s.heap.objs.size):=by
  have:=MA (s.heap.push PySem.W.emptyDict) (o:=PySem.W.instObj C s.heap.objs.size) rfl;rwa[Heap.size_push] at this
 let N:(s.heap.push PySem.W.emptyDict).Ns s.heap.objs.size (λο=>none):=(PySem.W.emptyDict, #[],_,j,rfl,(λe O=>absurd O (by simp)),λο=>rfl)
 let J:=F.laid (a:=s.heap.objs.size) (o:=.own (s.heap.objs.size+1)) (h':=s.heap.push PySem.W.emptyDict) (t':=s.toks) (λb u q=>AA _ q) (vA _) ⟨_,j⟩;show J.laid (a:=s.heap.objs.size+1) (o:=.ins C s.heap.objs.size []) (t':=s.toks) (λb u q=>AA _ q) (Nat.le_of_eq (Heap.size_push _ _)) ?_;let D:s.heap.objs.size≠s.heap.objs.size+1:=XA (Nat.lt_succ_self _);show(by rw[WC D,nD],Nat.zero_le _,D,L,λο=>none,(Heap.Ns1.of_empty N).at λo q=>AA _ q,λο=>True.intro,λy U=>absurd rfl U)
theorem uj {prog:Program} {w:World} {env:Env} {e:Expr} {f:Str} {pos:Pos} {s:Shared} {Q:Value->Shared->Prop} (j:attributeBase e f env (eval e env)=eval e env)
  (h:wpAny (model prog w) A (eval e env) (λo D=>wpAny (model prog w) A (getAttr o f true) Q E D) E s):wpAny (model prog w) A (eval (.Attribute e f pos) env) Q E s:=
 Attribute_any_ h (by rw[arm_eval_Attribute,j])
end
def vP (K:PySem.W.Frag) (ta:TE) (f:Str):TE:=λσ H Q=>ta σ H λx H1=>∃a C dx fs v,x=.ref a/\H1 a>(.ins C dx fs)/\WG K C/\xD K C f/\fs.lookup f>v/\Q v H1
def wP (K:PySem.W.Frag) (ta tv:TE) (f:Str):TS:=λD σ H=>tv σ H λy H1=>ta σ H1 λx H2=>∃a C dx fs,x=.ref a/\H2 a>(.ins C dx fs)/\WG K C/\xD K C f/\fs.length < 1000/\
 D.nx σ (JC H2 a (.ins C dx (QC f y fs)))
section
variable {X:Cx} {o e value:Expr} {f:Str} {pos pos' tpos:Pos} {ta tv:TE}
theorem MD (O:PE X e ta) (N:attributeBase e f X.env (eval e X.env)=eval e X.env):PE X (.Attribute e f pos) (vP X.K ta f):=by
 intro U s Z H Q D h;show uj N (wD (O U s Z H _ D h) λu a1 Y=>?_);let(x,j,F,W,a,C,a0,fs,v,ex,L,c,n,l,q):=Y;subst ex;obtain rfl:u=Value.ref a:=W;show sj F L c n l λa3 a2 J V=>(v,j,J,V,q)
theorem BG (W:PE X o ta) (Z:PE X value tv) (Y:swapsWith value (some (.Attribute o f pos')) pos.line X.env=pure false):PS X (.Assign [.Attribute o f pos'] value pos) (wP X.K ta tv f):=by
 intro F s j H D L h;show plainObj_wpAny_Assign_Attribute (wD (Z F s j H _ L h) λu a4 ⟨y,J,N,a3,q⟩=>wD (W F a4 j J _ N q) λa0 ab a5=>?_) Y;let(x,a6,O,a2,a,C,a9,fs,ex,V,c,n,l,a1):=a5;subst ex;obtain rfl:a0=Value.ref a:=a2;show tj O V c n l a3 λac U=>(j,_,U,a1)
end
section
variable {X:Cx} {pins:!(Addr×Obj)} {σ:St} {H:Hp} {s:Shared} {A:Around} {E:Value->Shared->Prop} {Q:Value->Shared->Prop} {c:Value} {b:Bool}
inductive AF (K:PySem.W.Frag) (H:Hp):V->Value->Prop where
 |non:AF K H .non (.type "NoneType")
 |bl (x:Bool):AF K H (.bl x) (.type "bool")
 |int (i:Int):AF K H (.int i) (.type "int")
 |str (x:Str):AF K H (.str x) (.type "str")
 |flt (x:UInt64):AF K H (.flt x) (.type "float")
 |lst {a:Addr} {xs:!V} (e:H a>(.lst xs)):AF K H (.ref a) (.type "list")
 |frz {a:Addr} {o:Obj} {xs:!V} (e:H a>(.frz o (.lst xs))):AF K H (.ref a) (.type "list")
 |tup {a:Addr} {xs:!V} (e:H a>(.tup xs)):AF K H (.ref a) (.type "tuple")
 |dK {a:Addr} {kvs:!(Key×V)} (e:H a>(.dK kvs)):AF K H (.ref a) (.type "dict")
 |dT {a:Addr} {kvs:!(!Key×V)} (e:H a>(.dT kvs)):AF K H (.ref a) (.type "dict")
 |ins {a C dx:Addr} {fs:!(Str×V)} (e:H a>(.ins C dx fs)) (cl:WG K C) (ha:PySem.W.findIn K (.ref C) "__class__">(some (.builtin "object.__class__")))
  (hn:PySem.W.specialIn K (.builtin "object.__class__") "__get__">(some (.builtin "getset_descriptor.__get__"))) (htk:PySem.W.takesIn K (.builtin "object.__class__")>true)
  (hm:PySem.W.mroIn K C (.type "object")>true):AF K H (.ref a) (.ref C)
theorem vj {x:V} {u t:Value} (D:LC X pins σ H s) (F:SC x u) (ty:AF X.K H x t) (e:PySem.W.kitOne X.K t c>b) (h:∀N,Q (.bool b) {s with toks:=N}):
  wpAny (model X.prog X.w) A (call (.builtin "isinstance") [u,c]) Q E s:=by
 cases ty with
 |non=>cases (show u=Value.none from F);show PySem.W.kia_one PySem.W.kitx_none D.kIn True.intro e nofun h
 |bl y=>cases (show u=Value.bool y from F);show PySem.W.kia_one PySem.W.kitx_bool D.kIn True.intro e nofun h
 |int i=>let(t,q):=(show ∃t,u=Value.int i t from F);cases q;show PySem.W.kia_one PySem.W.kitx_int D.kIn True.intro e nofun h
 |str y=>let(t,q):=(show ∃t,u=Value.str y t from F);cases q;show PySem.W.kia_one PySem.W.kitx_str D.kIn True.intro e nofun h
 |flt y=>let(t,q):=(show ∃t,u=Value.float y t from F);cases q;show PySem.W.kia_one PySem.W.kitx_float D.kIn True.intro e nofun h
 |@lst a xs ea=>
  cases (show u=Value.ref a from F);let(_,_,n,_,h1):=(show tD X.prog X.w H s.heap a (.lst xs) from D.hok a _ ea)
  show PySem.W.kia_one PySem.W.kitx_list D.kIn (_,h1,rfl) e nofun h
 |@frz a ob xs ea=>
  cases (show u=Value.ref a from F);let(_,_,_,n,_,h1):=(show tD X.prog X.w H s.heap a (.frz ob (.lst xs)) from D.hok a _ ea)
  show PySem.W.kia_one PySem.W.kitx_list D.kIn (_,h1,rfl) e nofun h
 |@tup a xs ea=>
  cases (show u=Value.ref a from F);let(_,_,_,p):=(show tD X.prog X.w H s.heap a (.tup xs) from D.hok a _ ea)
  let(o,h1,h2,_):=p;show PySem.W.kia_one PySem.W.kitx_tuple D.kIn (o,h1,h2) e nofun h
 |@dK a kvs ea=>
  cases (show u=Value.ref a from F);let(_,_,vs,_,p):=(show tD X.prog X.w H s.heap a (.dK kvs) from D.hok a _ ea)
  let(o,es,ep,h1,h2,_):=p;show PySem.W.kia_one PySem.W.kitx_dict D.kIn (o,h1,h2.1) e nofun h
 |@dT a kvs ea=>
  cases (show u=Value.ref a from F);let(_,_,xs,_,o,es,ep,h1,h2,_):=(show tD X.prog X.w H s.heap a (.dT kvs) from D.hok a _ ea)
  show PySem.W.kia_one PySem.W.kitx_dict D.kIn (o,h1,h2.1) e nofun h
 |@ins a C dx fs ea cl ha hn htk hm=>
  cases (show u=Value.ref a from F);let(O,L,_):=PR D.hok ea;let(U,J,_):=L.look;show PySem.W.kia_one (PySem.W.kitx_own (cl.get _) cl.hd ha hn htk hm) D.kIn J e nofun h
end
structure cE (k:Nat) (A:Around):Prop where
 hd:A.handled=none
 dp:A.depth+3 * k+5 < recursionLimit
 un:A.units+16 * k+200 < cLine
theorem cE.mono {j k:Nat} {A:Around} (r:cE k A) (h:j<=k):cE j A:=(r.hd,by have:=r.dp;omega,by have:=r.un;omega)
theorem cE.deeper {k:Nat} {A:Around} (r:cE (k+1) A) (env:Env):cE k (A.deeper env):=
 (r.hd,by have:=r.dp;change A.depth+1+3 * k+5 < _;omega,by have:=r.un;change A.units+3+16 * k+200 < _;omega)
theorem wj {A:Around} {C:Addr} {us:!Value} {j:!(Str×Value)}:(A.under (.builtin "type.__call__" ⟨.ref C::us,j⟩)).depth=A.depth+1:=by
 first|rfl|simp[Around.under,Code.weight,Code.isCreation,Code.isGuard,Code.isCaller,Code.frames,Code.isFrame,guardIds]
theorem xj {A:Around} {C:Addr} {us:!Value} {j:!(Str×Value)}:(A.under (.builtin "type.__call__" ⟨.ref C::us,j⟩)).units=A.units+1:=by
 first|rfl|simp[Around.under,Code.cUnits,Code.frames,Code.isFrame]
theorem cE.make {k:Nat} {A:Around} (r:cE (k+1) A) (C:Addr) (us:!Value) (j:!(Str×Value)):cE k (A.under (.builtin "type.__call__" ⟨.ref C::us,j⟩)):=
 (r.hd,by have:=r.dp;rw[wj];omega,by have:=r.un;rw[xj];omega)
theorem cE.depth {k:Nat} {A:Around} (r:cE k A):A.depth < recursionLimit:=by have:=r.dp;omega
theorem cE.units {k:Nat} {A:Around} (r:cE k A):A.units+64 < cLine:=by have:=r.un;omega
def tNil:TA:=λο H Q=>Q [] H
def CK (ta:TE) (tr:TA):TA:=λσ H Q=>ta σ H λx H1=>tr σ H1 λxs H2=>Q (x::xs) H2
section
variable {X:Cx} {e:Expr} {es:!Expr} {te:TE} {t:TA} {pos:Pos}
theorem MC:PA X [] tNil:=λο ο ο ο H Q I h=>Calls.spliced_nil ([],H,I,.nil,h)
theorem IC (U:PE X e te) (V:PA X es t) (W:starEach (e::es) X.env=(false,eval e X.env)::starEach es X.env:=by rfl):PA X (e::es) (CK te t):=by
 intro pos j s D H Q L h;rw[W];change wpAny _ _ (spliced ((false,eval e X.env)::backTo pos (starEach es X.env))) _ _ s;show AC (wD (U j s D H _ L h) λu a2 a3=>?_);let(x,F,N,a0,Y):=a3;show wD (V pos j a2 D F _ N Y) λus a4 ⟨xs,J,O,a1,Z⟩=>(x::xs,J,O,.cons a0 a1,Z)
def xP (t:TA):TE:=λσ H Q=>t σ H λxs H1=>xs.length<=sizeLine/\∀p,H1 p=none->Q (.ref p) (JC H1 p (.tup xs))
def yP (t:TA):TE:=λσ H Q=>t σ H λxs H1=>xs.length<=sizeLine/\∀p,H1 p=none->Q (.ref p) (JC H1 p (.lst xs))
theorem lG {x1} (h:PA X es t):PE X (.Tuple es x1 pos) (xP t):=by
 intro U s V H Q L O;show wpAny_Tuple_spliced (wD (h pos U s V H _ L O) λus j ⟨xs,D,F,r,J,q⟩=>⟨by rw[<-r.length];show J,?_⟩);let N:D j.heap.objs.size=none:=F.hok.fresh (vA _);show(.ref j.heap.objs.size,JC D j.heap.objs.size (.tup xs),F.laid (t':=j.toks) (λb u e=>AA _ e) (vA _) ?_,rfl,q _ N);show(J,us,r,(_,MA _ rfl,rfl,_,rfl))
theorem UJ (h:PA X es t):PE X (.List es pos) (yP t):=by
 intro U s V H Q L O;show wpAny_List_spliced (wD (h pos U s V H _ L O) λus j ⟨xs,D,F,r,J,q⟩=>⟨by rw[<-r.length];show J,?_⟩);let N:D j.heap.objs.size=none:=F.hok.fresh (vA _);show(.ref j.heap.objs.size,JC D j.heap.objs.size (.lst xs),F.laid (t':=j.toks) (λb u e=>AA _ e) (vA _) ?_,rfl,q _ N);show(J,us,0,r,MA _ rfl)
end
abbrev Sp:=!V->Hp->VK->XK->Prop
abbrev CXT:=!Env->Hp->Shared->XK->Value->Shared->Prop
structure FH (P:Program) (w:World) (K:PySem.W.Frag) (mg:Str->Option Value) (base:Heap) (A:Around) (outer:!Env) (s:Shared) (H:Hp):Prop where
 frames:A.frames>outer
 mod:Mod K mg base
 bs:∀b o,base.get? b>o->s.heap.get? b>o/\H b=none
 bsz:base.objs.size<=s.heap.objs.size
 funs:s.heap.FunFrames base outer
 frf:∀b∈xE outer,H b=none
 hok:YE P w H s.heap
 bare:AllBare s.gens
def CE (outer:!Env) (P:Program) (w:World) (H:Hp) (s:Shared) (Q:VK) (u:Value) (s':Shared):Prop:=
 ∃v H',s'.os=s.os/\AllBare s'.gens/\Un (xE outer) [] H H' s.heap s'.heap/\YE P w H' s'.heap/\SC v u/\Q v H'
def CR (CX:CXT) (outer:!Env) (P:Program) (w:World) (H:Hp) (s:Shared) (Q:VK) (E:XK) (r:Result) (s':Shared):Prop:=
 match r with
 |.ok (.ret u)=>CE outer P w H s Q u s'
 |.ok _=>False
 |.error e=>CX outer H s E e s'
structure qF (P:Program) (w:World) (K:PySem.W.Frag) (mg:Str->Option Value) (base:Heap) (CX:CXT) (k:Nat) (f:Addr) (fd:FuncData) (ps:!Str) (sp:Sp):Prop where
 len:∀vs H Q E,sp vs H Q E->vs.length=ps.length
 run:∀(A:Around) (outer:!Env) (s:Shared) (H:Hp) (args:Args) (us:!Value) (vs:!V) (Q:VK) (E:XK),cE k A->FH P w K mg base A outer s H->BindsTo s fd args (ps.zip us)->VC vs us->sp vs H Q E->
  codeAny (model P w) A (.call (.ref f) args) (CR CX outer P w H s Q E) s
theorem qF.imp {P:Program} {w:World} {K:PySem.W.Frag} {mg:Str->Option Value} {base:Heap} {CX:CXT} {k:Nat} {f:Addr} {F:FuncData} {ps:!Str} {sp J:Sp} (D:qF P w K mg base CX k f F ps sp)
  (h:∀vs H Q j,J vs H Q j->sp vs H Q j):qF P w K mg base CX k f F ps J:=
 ⟨λvs H Q j q=>D.len vs H Q j (h _ _ _ _ q),λA W s H args us vs Q j O N L V U=>D.run A W s H args us vs Q j O N L V (h _ _ _ _ U)⟩
theorem FH.make {P:Program} {w:World} {K:PySem.W.Frag} {mg:Str->Option Value} {base:Heap} {A:Around} {j:!Env} {s:Shared} {H:Hp} (e:FH P w K mg base A j s H) (C:Addr) (us:!Value) (D:!(Str×Value)):
 FH P w K mg base (A.under (.builtin "type.__call__" ⟨.ref C::us,D⟩)) j s H:=(by first|exact e.frames|(simpa[Around.under,Code.envs,Code.isFrame,pushEnvs] using e.frames),e.mod,e.bs,e.bsz,e.funs,e.frf,e.hok,e.bare)
section
variable {X:Cx} {pins:!(Addr×Obj)} {σ:St} {H:Hp} {s s':Shared}
theorem LC.env0 (I:LC X pins σ H s):FH X.prog X.w X.K X.mg X.base X.A X.stack s H:=
 (I.ok.frames,I.ok.mod,I.bs,FB I.ok.bsz I.sz,I.stack,I.stkFree,I.hok,I.bare)
theorem LC.after {Q:VK} {u:Value} (j:LC X pins σ H s) (h:CE X.stack X.prog X.w H s Q u s'):EP X pins σ Q u s':=by
 let(v,H',L,D,un,J,r,q):=h;let(F,g,d,t,N):=s';obtain rfl:N=s.os:=L;show(v,H',j.call (h':=F) (g':=g) (d':=d) (t':=t) (ch:=[]) un J D (λb O=>absurd O (by simp)),r,q)
end
def zE (K:PySem.W.Frag) (fd:FuncData) (ps:!Str) (ds:!Value):Prop:=
 ∀(s:Shared) (us:!Value),K.In s.heap->(us++ds).length=ps.length->BindsTo s fd ⟨us,[]⟩ (ps.zip (us++ds))
theorem zE.all {K:PySem.W.Frag} {j:FuncData} {ps:!Str} (h:∀us:!Value,us.length=ps.length->bindArgs j ⟨us,[]⟩=pure (ps.zip us)):zE K j ps []:=λs us ο D=>by
 rw[MB] at D ⊢;show .of_eq (h us D)
section
variable {X:Cx} {CX:CXT} {k:Nat} {f C:Addr} {fd:FuncData} {ps:!Str} {sp:Sp} {dvs:!V} {ds:!Value} {E:XK} {x m:Str} {p pos apos:Pos} {e o:Expr} {es:!Expr} {ta:TE} {t:TA}
structure Mk (K:PySem.W.Frag) (C f:Addr):Prop where
 makes:PySem.W.makesIn K C=true
 init:PySem.W.findIn K (.ref C) "__init__">(↑f)
 fn:PySem.W.isFn K (.ref f)=true
 kp:PySem.W.keepIn K (.ref C)=true
end
section
variable {X:Cx} {CX:CXT} {k:Nat} {f C:Addr} {fd:FuncData} {ps ks:!Str} {sp:Sp} {E:XK} {x m:Str} {p pos apos kpos:Pos} {e o:Expr} {es:!Expr} {kws:!Keyword} {te ta:TE} {t tk:TA} {nm:Option Str}
variable {g:!Value->!Value->!Value} {gV:!V->!V->!V}
end
structure HC (N P:!Str) (sc:Scope):Prop where
 kind:sc.kind=.function
 co:sc.isCoroutine=false
 gen:sc.isGenerator=false
 nd:N.Nodup
 pre:N.take P.length=P
 par:∀x∈P,sc.names.lookup x>.local\/sc.names.lookup x>.cell
 nofree:∀y∈sc.names,y.2≠.free
theorem S9 {kindOf:Str->Option NameKind} {x:Str}:∀{binds:!(Str×Value)} {m:Str->Option Value},(∀v,(x,v)∉binds)->bindL kindOf binds m x=m x
 |[],_,_=>rfl
 |(n,v)::r,m,h=>by
  unfold bindL;rw[S9 λw hw=>h w (kA _ hw)]
  split
  .have:x≠n:=by rintro rfl;show h v cA
   simp[this]
  .rfl
theorem T9 {kindOf:Str->Option NameKind} {x:Str}:∀{binds:!(Str×Value)} {m:Str->Option Value},(∀v,(x,v)∉binds)->bindC kindOf binds m x=m x
 |[],_,_=>rfl
 |(n,v)::r,m,h=>by
  unfold bindC;rw[T9 λw hw=>h w (kA _ hw)]
  split
  .rfl
  .have:x≠n:=by rintro rfl;show h v cA
   simp[this]
theorem U9 {kindOf:Str->Option NameKind} {x:Str} {v:Value}:∀{P:!Str} {vs:!Value} {i:Nat} {m:Str->Option Value},P.Nodup->P[i]?>x->vs[i]?>v->kindOf x>.local->
  bindL kindOf (P.zip vs) m x>v
 |[],_,_,_,_,h,_,_=>by simp at h
 |_::_,[],_,_,_,_,h,_=>by simp at h
 |p::P,w::vs,0,m,nd,h1,h2,hk=>by
  simp at h1 h2;subst h1;subst h2;change bindL kindOf ((p,w)::P.zip vs) m p=_;unfold bindL;rw[S9 λv hv=>(NA.mp nd).1 (List.of_mem_zip hv).1,iA hk];simp
 |p::P,w::vs,i+1,m,nd,h1,h2,hk=>by
  change bindL kindOf ((p,w)::P.zip vs) m x=_;unfold bindL;show U9 (i:=i) (NA.mp nd).2 (by simpa using h1) (by simpa using h2) hk
theorem V9 {kindOf:Str->Option NameKind} {x:Str} {v:Value}:∀{P:!Str} {vs:!Value} {i:Nat} {m:Str->Option Value},P.Nodup->P[i]?>x->vs[i]?>v->kindOf x≠some .local->
  bindC kindOf (P.zip vs) m x>v
 |[],_,_,_,_,h,_,_=>by simp at h
 |_::_,[],_,_,_,_,h,_=>by simp at h
 |p::P,w::vs,0,m,nd,h1,h2,hk=>by
  simp at h1 h2;subst h1;subst h2;change bindC kindOf ((p,w)::P.zip vs) m p=_;unfold bindC;rw[T9 λv hv=>(NA.mp nd).1 (List.of_mem_zip hv).1,gA hk];simp
 |p::P,w::vs,i+1,m,nd,h1,h2,hk=>by
  change bindC kindOf ((p,w)::P.zip vs) m x=_;unfold bindC;show V9 (i:=i) (NA.mp nd).2 (by simpa using h1) (by simpa using h2) hk
def oF (N:!Str) (vs:!V):St:=vs.map some++List.replicate (N.length - vs.length) none
def AE (CX:CXT) (P:Program) (w:World) (K:PySem.W.Frag) (mg:Str->Option Value) (base:Heap) (N:!Str) (qual:Str) (scope:Scope) (f:Addr) (cd:Value) (A:Around) (outer:!Env) (s:Shared) (H:Hp) (E:XK):Cx where
 prog:=P
 w:=w
 K:=K
 mg:=mg
 base:=base
 A:=A.deeper (envOfC qual scope s.heap.objs.size f cd)
 N:=N
 s₀:=s
 H₀:=H
 env:=envOfC qual scope s.heap.objs.size f cd
 outer:=outer
 stack:=envOfC qual scope s.heap.objs.size f cd::outer
 ex:=[]
 calm:=true
 fn:=λο=>true
 pn:=[]
 xe:=λe s'=>wpAny (model P w) (A.deeper (envOfC qual scope s.heap.objs.size f cd)) (leaving (envOfC qual scope s.heap.objs.size f cd) e) (λο s''=>CX outer H s E e s'') (λe' s''=>CX outer H s E e' s'') s'
theorem W9 {j:Scope} {n:Nat} {x:Str} (h:j.names.lookup x>.cell):∃c,(cellsFrom n j.names []).lookup x>c:=by
 let q:=PySem.W.cellsFrom_some j.names n [] (.inl h);show Option.isSome_iff_exists.mp q
theorem yj {CX:CXT} {P:Program} {w:World} {K:PySem.W.Frag} {mg:Str->Option Value} {base:Heap} {N ps:!Str} {O:Str} {scope:Scope} {f:Addr} {L:Value} {A:Around} {W:!Env} {s a1:Shared} {H:Hp} {Y:XK} {us:!Value} {vs:!V}
  (S:HC N ps scope) (hd:A.handled=none) (j:FH P w K mg base A W s H) (a5:vs.length=ps.length) (r:VC vs us)
  (x:InCallC s s.heap.objs.size (bindL (envOfC O scope s.heap.objs.size f L).kindOf (ps.zip us) λο=>none) (cellsFrom (s.heap.objs.size+1) scope.names []) (bindC (envOfC O scope s.heap.objs.size f L).kindOf (ps.zip us) λο=>none) a1):
  LC (AE CX P w K mg base N O scope f L A W s H Y) [] (oF N vs) H a1:=by
 let a6:ps.length<=N.length:=by have:=congrArg List.length S.pre;rw[cB] at this;omega
 let(h1,a9,rfl,hk):=x.done;let U:∀b:Addr,b∉(AE CX P w K mg base N O scope f L A W s H Y).ex:=λb F=>absurd (show b∈([]:!Addr) from F) (by simp);show((j.mod,S.kind,rfl,rfl,vA _,λy F c h1 h2=>?_,λy D=>?_,λy c ο h=>?_,λο=>hd,Around.frames_deeper j.frames,.inr ⟨rfl,rfl⟩,λb F=>absurd F (U b),j.bs,j.bsz,λb ο ο=>U b,λb F=>absurd F (U b),j.funs,j.frf),
  rfl,j.bare,Un.kept hk,(_,x.toInCall.ns,λi y v h1 h2 a4=>?_),λy c h=>⟨_,x.cell y c h⟩,j.hok.fresh (vA _),λy c h=>?_,λp J=>absurd (show p∈([]:!(Addr×Obj)) from J) (by simp),j.hok.kept hk,?_)
 .show name_of_addr x.apart (PySem.mem_of_lookup h1) (PySem.mem_of_lookup h2)
 .let D:scope.names.lookup y>.cell\/scope.names.lookup y>.free:=D;let D||D:=D
  .show W9 D
  .show absurd rfl (S.nofree _ (PySem.mem_of_lookup D))
 .show Nat.le_of_lt (x.above y c (PySem.mem_of_lookup h))
 .let hi:i < vs.length:=by
   unfold oF at h2;by_cases hi:i < vs.length
   .show hi
   .rw[KB (by simpa using hi)] at h2;rw[List.getElem?_replicate] at h2
    split at h2<;>cases h2
  let a2:vs[i]?>v:=by
   unfold oF at h2;rw[List.getElem?_append_left (by simpa using hi),pB] at h2;cases e:vs[i]? with
   |none=>rw[e] at h2;cases h2
   |some a=>rw[e] at h2;cases h2;rfl
  let(u,Z,a3):=r.get a2;let J:ps[i]?>y:=by
   rw[<-S.pre,List.getElem?_take_of_lt ⋯];show h1
  let a0:ps.Nodup:=by rw[<-S.pre];show S.nd.sublist (pC _ _)
  show(u,a3,?_);let k||k:=S.par y (QA J)
  .show .inl ⟨k,U9 a0 J Z k⟩
  .let(c,e):=W9 (n:=s.heap.objs.size+1) k;show .inr (.inl k,c,e,?_);let q:=x.cell y c e;rw[V9 a0 J Z (by change scope.names.lookup y≠_;rw[k];decide)] at q;show q
 .show j.hok.fresh (Nat.le_of_lt (x.above y c (PySem.mem_of_lookup h)))
 .unfold oF;change _=N.length;rw[xA,dA,VB];omega
theorem xT {CX:CXT} {P:Program} {w:World} {K:PySem.W.Frag} {mg:Str->Option Value} {base:Heap} {k:Nat} {f:Addr} {name J:Str} {ab:Arguments} {Y:!Stmt} {scope:Scope} {a4 kV a5 pm F a3 bd:Value} {a2 be:Option Addr}
  {bh:Array (Option Value)} {N ps:!Str} {sp:Sp} (bc:K.lookup f>(bd,be,.func (PySem.W.fnOf name J ab Y scope a4 kV a5 pm a2 F a3),bh)) (b0:PySem.W.codeIn K F J=true) (S:HC N ps scope)
  (len:∀vs H Q j,sp vs H Q j->vs.length=ps.length)
  (am:∀(A:Around) (O:!Env) (s:Shared) (H:Hp) (vs:!V) (Q:VK) (j:XK),cE k (A.deeper (envOfC J scope s.heap.objs.size f F))->sp vs H Q j->
   ∃t,AG (AE CX P w K mg base N J scope f F A O s H j) Y t/\t {nx:=λο H'=>Q .non H',rt:=Q} (oF N vs) H):
  qF P w K mg base CX (k+1) f (PySem.W.fnOf name J ab Y scope a4 kV a5 pm a2 F a3) ps sp:=by
 show⟨len,λA O s H args us vs Q j Z U al r a9=>?_⟩;let b3:=len _ _ _ _ a9;let a1:K.In s.heap:=U.mod.kin.keeps λb o e=>(U.bs b o e).1;let bb:s.heap.NoLimit:=U.mod.nolimit.keeps λb o e=>(U.bs b o e).1;let b2:∀y∈ps.zip us,scope.names.lookup y.1>.local\/(scope.names.lookup y.1>.cell/\((cellsFrom (s.heap.objs.size+1) scope.names []).lookup y.1).isSome=true):=λ⟨n,v⟩ b9=>by
  let q||q:=S.par n (List.of_mem_zip b9).1
  .show .inl q
  .show .inr ⟨q,PySem.W.cellsFrom_some _ _ _ (.inl q)⟩
 show codeAny_call_function Z.depth (a1 _ _ bc) rfl S.co S.gen rfl (PySem.W.codeRec_of a1 b0) (al _ _ _ _ ?_);show wpAny_newFunctionEnv_cells S.kind b2 λenv b1 ac x=>?_;subst b1;show⟨bb.keeps x.toInCall.keep,codeAny_func ?_⟩;let(t,b5,b4):=am A O s H vs Q j (Z.deeper _) a9;let ad:LC (AE CX P w K mg base N J scope f F A O s H j) [] (oF N vs) H ac:=yj S Z.hd U b3 r x;show AB (b5 [] ac (oF N vs) H _ ad b4) (λah s' L=>?_) λe s' L=>L;let a6:∀{W:St} {H':Hp} {v:V} {u:Value},LC (AE CX P w K mg base N J scope f F A O s H j) [] W H' s'->SC v u->Q v H'->CE O P w H s Q u s':=
  λ{W H' v u} D a0 q=>(v,H',D.os,D.bare,D.base,D.hok,a0,q)
 cases ah with
 |ret u=>
  let(v,W,H',D,a0,q):=L;show a6 D a0 q
 |next=>
  let(W,H',D,q):=L;show a6 (v:=V.non) (u:=Value.none) D rfl q
 |brk=>
  let(_,_,_,q):=L;show False.elim q
 |cont=>
  let(_,_,_,q):=L;show False.elim q
section
variable {X:Cx} {x:Str} {p pos:Pos} {e:Expr} {es:!Expr} {t:TA} {id T:String} {r:!V->Hp->VK->Prop}
def QR (r:!V->Hp->VK->Prop) (t:TA):TE:=λσ H Q=>t σ H λvs H1=>r vs H1 Q
theorem fG (O:eE X (.builtin id) r) (W:Gl X x) (Y:X.mg x=none) (a1:bootBuiltins x>(.builtin id)) (N:PA X (e::es) t) (Z:x≠"__name__":=by decide) (U:(x == ("__debug__":Str))=false:=by decide)
  (V:starEach (e::es) X.env=(false,eval e X.env)::starEach es X.env:=by rfl) (a0:(backTo pos (starEach es X.env)).any (·.1)=false:=by rfl):PE X (.Call (.Name x p) (e::es) [] pos) (QR r t):=by
 intro D s F H Q j h;show CC (mO j W Y a1 ?_ Z U);show PyProof.Rows.callWith_builtin1 (wD (N pos D s F H _ j h) λus a4 ⟨vs,J,L,a3,a2⟩=>O D a4 F J vs us Q L a3 a2) V a0
theorem lI (O:eE X (.type T) r) (W:Gl X x) (Y:X.mg x=none) (a1:bootBuiltins x>(.type T)) (N:PA X (e::es) t) (Z:x≠"__name__":=by decide) (U:(x == ("__debug__":Str))=false:=by decide)
  (V:starEach (e::es) X.env=(false,eval e X.env)::starEach es X.env:=by rfl) (a0:(backTo pos (starEach es X.env)).any (·.1)=false:=by rfl):PE X (.Call (.Name x p) (e::es) [] pos) (QR r t):=by
 intro D s F H Q j h;show CC (mO j W Y a1 ?_ Z U);show PyProof.Rows.callWith_type1 (wD (N pos D s F H _ j h) λus a4 ⟨vs,J,L,a3,a2⟩=>O D a4 F J vs us Q L a3 a2) V a0
end
end L2
namespace HT
open PySem PyProof.Rows
section
open PySem.SeqAt
open PySem.AutoSeq1 (wpAny_loadPart')
open PySem.MeetsSeq PySem.MeetsSeq2 PySem.MeetsSeq3
end
section
variable {prog:Program} {w:World} {A:Around} {E:Value->Shared->Prop} {s:Shared}
def GH (n d:Nat):Option Int->Nat
 |none=>d
 |some v=>if v < 0 then (v+(n:Int)).toNat else min v.toNat n
end
end HT
namespace L2
open PySem PySem.Spec PyProof.Rows
abbrev TO:=St->Hp->(Option Int->Hp->Prop)->Prop
def PO (X:Cx) (e:Option Expr) (t:TO):Prop:=
 ∀(pins:!(Addr×Obj)) (s:Shared) (σ:St) (H:Hp) (Q:Option Int->Hp->Prop),LC X pins σ H s->t σ H Q->
  wpAny (model X.prog X.w) X.A (evalPart e X.env) (λu s'=>∃o H',LC X pins σ H' s'/\IsPart u o/\Q o H') X.xe s
def tNoPart:TO:=λο H Q=>Q none H
def DK (t:TE):TO:=λσ H Q=>t σ H λx H1=>∃i,x=.int i/\Q (some i) H1
section
variable {X:Cx} {e:Expr} {te:TE} {lo hi:Option Expr} {tl th:TO} {pos p2:Pos}
theorem X9:PO X none tNoPart:=by
 intro D s F H Q j h;rw[evalPart_none];show BA (none,H,j,.none,h)
theorem EK (h:PE X e te):PO X (some e) (DK te):=by
 intro L s V H Q D J;rw[evalPart_some];show wD (h L s V H _ D J) λu W U=>?_;let(x,j,F,O,N):=U;let(i,rfl,q):=N;let(t,rfl):=O;show(some i,j,F,.int i t,q)
def Y9 (X:Cx) (r:V->Option Int->Option Int->Hp->VK->Prop):Prop:=
 ∀(pins:!(Addr×Obj)) (s:Shared) (σ:St) (H:Hp) (x:V) (v vl vu:Value) (lo hi:Option Int) (sl:Addr) (Q:VK),LC X pins σ H s->SC x v->s.heap.IsSliceOf sl vl vu .none->IsPart vl lo->IsPart vu hi->r x lo hi H Q->
  ∃T id,typeLookup (.type T) "__getitem__"=pure (some (.builtin id))/\s.TypeIs v T/\wpAny (model X.prog X.w) X.A (getItem v (.ref sl)) (EP X pins σ Q) X.xe s
def Z9 (r:V->Option Int->Option Int->Hp->VK->Prop) (te:TE) (tl th:TO):TE:=λσ H Q=>te σ H λx H1=>tl σ H1 λl H2=>th σ H2 λu H3=>r x l u H3 Q
theorem zP {r:V->Option Int->Option Int->Hp->VK->Prop} (a9:Y9 X r) (a4:PE X e te) (a6:PO X lo tl) (ac:PO X hi th):PE X (.Subscript e (.Slice lo hi none p2) pos) (Z9 r te tl th):=by
 intro D s F H Q Y h;show Subscript_ (wD (a4 D s F H _ Y h) λv b0 N=>?_);let(x,U,Z,am,ad):=N;show wpAny_Slice (wD (a6 D b0 F U _ Z ad) λJ b1 ⟨l,W,a0,pl,ah⟩=>wD (ac D b1 F W _ a0 ah) λL j N=>?_);let(u,O,a1,pu,al):=N;rw[evalPart_none];show BA ?_;let a2:LC X D F O {j with heap:=j.heap.push {cls:=.type "slice",data:=.fields #[J,L,.none]}}:=a1.kept (t':=j.toks) λb b2 q=>AA _ q;let(T,id,a3,ab,a5):=a9 D {j with heap:=j.heap.push {cls:=.type "slice",data:=.fields #[J,L,.none]}} F O x v J L l u j.heap.objs.size Q a2 am (Heap.IsSliceOf.new ..) pl pu al;change wpAny (model X.prog X.w) X.A (subscriptTail e (.Slice lo hi none p2) v (.ref j.heap.objs.size)) (EP X D F Q) X.xe {j with heap:=j.heap.push {cls:=.type "slice",data:=.fields #[J,L,.none]}};show tail_any (ops:=[.ref j.heap.objs.size,v]) ab a3 a5 (by with_unfolding_all rfl)
def rF (xs:!V) (lo hi:Option Int):!V:=(xs.drop (HT.GH xs.length 0 lo)).take (HT.GH xs.length xs.length hi - HT.GH xs.length 0 lo)
theorem zj (xs:!V) (lo hi:Option Int):(rF xs lo hi).length<=xs.length:=by
 unfold rF;rw[cB,wC];omega
end
def MI (n:Nat) (i:Int):Option Nat:=if 0<=i then (if i < n then some i.toNat else none) else if -(n:Int)<=i then some (i+n).toNat else none
def VH {α:Type} (xs:!α) (i:Int):Option α:=(MI xs.length i).bind λj=>xs[j]?
theorem aa {n:Nat} {i:Int} {j:Nat} (h:MI n i>j):seqIndex? i n>j/\j < n/\ -(n:Int)<=i/\i < n:=by
 unfold MI at h;by_cases h0:0<=i
 .rw[iA h0] at h;by_cases h1:i < n
  .rw[iA h1] at h;let e:i.toNat=j:=yA h;show(by rw[seqIndex_of h0 h1,e],⋯,⋯,h1)
  .rw[gA h1] at h;cases h
 .rw[gA h0] at h;by_cases h1: -(n:Int)<=i
  .rw[iA h1] at h;let e:(i+n).toNat=j:=yA h;show(by rw[seqIndex_neg ⋯ h1,e],⋯,h1,⋯)
  .rw[gA h1] at h;cases h
theorem ba {D:Type} {xs:!D} {i:Int} {v:D} (h:VH xs i>v):∃j,seqIndex? i xs.length>j/\xs[j]?>v/\j < xs.length/\ -(xs.length:Int)<=i/\i < xs.length:=by
 unfold VH at h;cases e:MI xs.length i with
 |none=>rw[e] at h;cases h
 |some j=>
  rw[e] at h;let(h1,h2,F,J):=aa e;show(j,h1,h,h2,F,J)
theorem iM {D:Type} {xs:!D} {j:Nat} {v:D} (h:xs[j]?>v):VH xs (j:Int)>v:=by
 let F:j < xs.length:=(JA.mp h).1;let e:MI xs.length (j:Int)>j:=by
  unfold MI;rw[iA ⋯,iA ⋯];simp
 unfold VH;rw[e];show h
def VJ (b:Expr):Prop:=∀o i,subscripted b false o i=operate [o,i] (getItem o i)
def BP (X:Cx) (r:R2):Prop:=
 ∀(value slice:Expr) (pins:!(Addr×Obj)) (s:Shared) (σ:St) (H:Hp) (x y:V) (v u:Value) (Q:VK),LC X pins σ H s->SC x v->SC y u->r x y H Q->
  subscripted slice false v u=operate [v,u] (getItem v u)->wpAny (model X.prog X.w) X.A (subscriptTail value slice v u) (EP X pins σ Q) X.xe s
def da (X:Cx) (id:String) (r:V->!V->Hp->VK->Prop):Prop:=
 ∀(pins:!(Addr×Obj)) (s:Shared) (σ:St) (H:Hp) (x:V) (xs:!V) (v:Value) (us:!Value) (Q:VK),LC X pins σ H s->SC x v->VC xs us->r x xs H Q->
  wpAny (model X.prog X.w) X.A (call (.builtin id) (v::us)) (EP X pins σ Q) X.xe s
section
variable {X:Cx} {a b:Expr} {ta tb:TE} {pos:Pos}
theorem pE {r:R2} (N:BP X r) (J:PE X a ta) (L:PE X b tb) (O:VJ b):PE X (.Subscript a b pos) (pP r ta tb):=by
 intro U s Z H Q D h;show Subscript_ (ZL J L D h λv u Y x y j F V W q=>N a b U Y Z j x y v u Q F V W q (O _ _))
def CP (K:PySem.W.Frag):R2:=λx y H Q=>∃p xs i v,x=.ref p/\y=.int i/\BD K H p xs/\VH xs i>v/\Q v H
def jM (K:PySem.W.Frag):R2:=λx y H Q=>∃p xs i v,x=.ref p/\y=.int i/\HD K H p xs/\VH xs i>v/\Q v H
theorem uO:BP X (CP X.K):=by
 intro ac ab O s U H x y v u Q F a3 a4 h N;let(p,xs,i,a5,rfl,rfl,a0,Y,q):=h;cases a3;let(t,rfl):=a4;let(a1,r,pl,hz):=F.list a0;let(j,h1,h2,a6,V,W):=ba Y;let(w,J,a2):=r.get h2;let Z:=r.length;let a9:=VG;let L:EP X O U Q w s:=(a5,H,F,a2,q)
 by_cases h0:0<=i
 .let D:i.toNat=j:=by
   rw[seqIndex_of h0 W] at h1;show yA h1
  show item_listR pl.isList h0 ⋯ (by rw[D];simpa using J) L N
 .let D:(i+(a1.toArray.size:Int)).toNat=j:=by
   rw[seqIndex_neg ⋯ V] at h1;rw[LA,<-Z];show yA h1
  show subscriptTail_builtinR (x:=w) pl.isList.typeIs slot_list_getitem.lookup
   (wpAny_getItem_list_neg (Q:=λr s'=>r=w/\EP X O U Q r s') pl.isList ⋯ (by rw[LA]<;>omega) ⋯ (by rw[D];simpa using J) ⟨rfl,L⟩) N
theorem QE:BP X (jM X.K):=by
 intro ab a9 F s J H x y v u Q D Z a0 h W;let(p,xs,i,a1,rfl,rfl,V,O,q):=h;cases Z;let(t,rfl):=a0;let(a6,r,pl,hz):=D.tuple V;let(j,h1,h2,a2,a3,a4):=ba O;let(w,L,Y):=r.get h2;let U:=r.length;let a5:=VG;let N:EP X F J Q w s:=(a1,H,D,Y,q)
 show subscriptTail_builtinR (x:=w) pl.typeIs slot_tuple_getitem.lookup
  (getItem_tuple (j:=j) (Q:=λr s'=>r=w/\EP X F J Q r s') pl ⋯ ⋯ (by rw[LA,<-U];show h1) (by simpa using L) ⟨rfl,N⟩) W
theorem Pj (D:!Value) (n j:Nat) (u:Value):Obj.mapSeq (·.setIfInBounds j u) {cls:=.type "list",data:=.seq D.toArray n}={cls:=.type "list",data:=.seq (D.set j u).toArray n}:=by
 simp[Obj.mapSeq]
theorem LC.lst {F:!(Addr×Obj)} {L:St} {H:Hp} {s:Shared} {p:Addr} {xs:!V} (D:LC X F L H s) (h:H p>(.lst xs)):
  ∃(j:!Value) (n:Nat),VC xs j/\s.heap.get? p>{cls:=.type "list",data:=.seq j.toArray n}/\xs.length<=sizeLine:=by
 let(J,j,n,r,e):=D.hok p _ h;show(j,n,r,e,J)
theorem LC.lstUpd {J:!(Addr×Obj)} {L:St} {H:Hp} {s:Shared} {p:Addr} {xs ys:!V} {F its':!Value} {n j:Nat} {f:Obj->Obj} (N:LC X J L H s) (h:H p>(.lst xs))
  (ho:s.heap.get? p>{cls:=.type "list",data:=.seq F.toArray n}) (D:f {cls:=.type "list",data:=.seq F.toArray n}={cls:=.type "list",data:=.seq its'.toArray j}) (r:VC ys its') (hz:ys.length<=sizeLine) (t:Nat):
  LC X J L (JC H p (.lst ys)) {s with heap:=s.heap.update p f,toks:=t}:=by
 let e:(s.heap.update p f).get? p>{cls:=.type "list",data:=.seq its'.toArray j}:=by
  rw[UB f ho (by rw[D]<;>rfl),D]
 show N.write (x:=p) (e:=p) (by rw[h];trivial) (.inl rfl) (λb u O q=>(fB _ _ (Ne.symm O)).trans q) ⟨_,e⟩ ?_;show(hz,its',j,r,e)
def rSetL:V->V->V->Hp->(Hp->Prop)->Prop:=λo i v H Q=>∃p xs k j,o=.ref p/\i=.int k/\H p>(.lst xs)/\MI xs.length k>j/\Q (JC H p (.lst (xs.set j v)))
theorem Qj:mP X rSetL:=by
 intro W s a1 H o i v a4 a3 u Q F Z Y a0 h;let(p,xs,k,j,rfl,rfl,O,V,q):=h;cases Z;let(t,rfl):=Y;let(U,n,r,ho,hz):=F.lst O;let(h1,h2,L,N):=aa V;let D:=r.length;let a2:=VG;let J:LC X W a1 (JC H p (.lst (xs.set j v))) {s with heap:=s.heap.update p (Obj.mapSeq (·.setIfInBounds j u))}:=
  F.lstUpd O ho (Pj U n j u) (r.set a0 j) (by rw[List.length_set];show hz) s.toks
 by_cases h0:0<=k
 .let hk:k.toNat=j:=by
   rw[seqIndex_of h0 N] at h1;show yA h1
  show PySem.W.ki_setAt ho h0 ⋯ (by rw[LA,<-D];show N) (by rw[hk];show(_,J,q))
 .let hk:(k+(U.toArray.size:Int)).toNat=j:=by
   rw[seqIndex_neg ⋯ L] at h1;rw[LA,<-D];show yA h1
  show PySem.W.ki_setBack ho ⋯ (by rw[LA,<-D];show L) ⋯ (by rw[hk];show(_,J,q))
theorem Rj (lo hi:Option Int) (n:Nat):(sliceBounds lo hi none n).1=((HT.GH n 0 lo:Nat):Int)/\(sliceBounds lo hi none n).2.1=((HT.GH n n hi:Nat):Int)/\(sliceBounds lo hi none n).2.2=1:=by
 show(?_,?_,rfl)
 .cases lo with
  |none=>simp[sliceBounds,HT.GH]
  |some i=>
   simp only[sliceBounds,HT.GH,Option.getD_none,show GT.gt (1:Int) 0 by decide,if_true];by_cases h:i < 0
   .simp only[h,if_true]<;>omega
   .simp only[h,HB]<;>omega
 .cases hi with
  |none=>simp[sliceBounds,HT.GH]
  |some i=>
   simp only[sliceBounds,HT.GH,Option.getD_none,show GT.gt (1:Int) 0 by decide,if_true];by_cases h:i < 0
   .simp only[h,if_true]<;>omega
   .simp only[h,HB]<;>omega
theorem Sj (j:!Value) (lo hi:Option Int):slicePick j.toArray lo hi none=((j.drop (HT.GH j.length 0 lo)).take (HT.GH j.length j.length hi - HT.GH j.length 0 lo)).toArray:=by
 let(h1,h2,D):=Rj lo hi j.toArray.size;unfold slicePick;rw[h1,h2,D];simp only[sliceRange_one,pick_run,LA]<;>rfl
def DP (K:PySem.W.Frag):V->Option Int->Option Int->Hp->VK->Prop:=λx lo hi H Q=>∃a xs,x=.ref a/\BD K H a xs/\∀p,H p=none->Q (.ref p) (JC H p (.lst (rF xs lo hi)))
theorem FP:Y9 X (DP X.K):=by
 intro V s Z H x v W Y lo hi sl Q j N J pl pu h;let(a,xs,rfl,L,q):=h;cases N;let(O,r,D,hz):=j.list L;let F:=r.length;show("list",_,slot_list_getitem.lookup,D.isList.typeIs,?_);show wpAny_getItem_list_slice D.isList J pl pu .none (by simp) ?_ (by rw[LA]<;>omega);rw[Sj,<-F];show(.ref s.heap.objs.size,_,j.laid (t':=s.toks) (o:=.lst (rF xs lo hi)) (λb U q=>AA _ q) (vA _) ?_,rfl,q _ (j.hok.fresh (vA _)));show(FB (zj xs lo hi) hz,_,0,(r.drop (HT.GH xs.length 0 lo)).take (HT.GH xs.length xs.length hi - HT.GH xs.length 0 lo),MA _ rfl)
def BF:V->Bool
 |.non=>true
 |.bl _=>true
 |.int _=>true
 |.str _=>true
 |_=>false
def GP:V->V->Bool
 |.non,.non=>true
 |.bl a,.bl b=>a == b
 |.bl a,.int b=>(if a then 1 else 0) == b
 |.int a,.bl b=>a == (if b then 1 else 0)
 |.int a,.int b=>a == b
 |.str a,.str b=>a == b
 |_,_=>false
theorem kM {A:Around} {s:Shared} {y x:V} {u v:Value} (F:SC y u) (j:SC x v) (J:BF y=true) (D:BF x=true):SeqAt.EqAt A s u v (GP y x):=by
 cases y with
 |non=>
  cases F;cases x with
  |non=>cases j;show SeqAt.EqAt.same _
  |bl b=>cases j;show SeqAt.EqAt.none_bool b
  |int b=>let(t,rfl):=j;show SeqAt.EqAt.none_int b t
  |str b=>let(t,rfl):=j;show SeqAt.EqAt.none_str b t
  |_=>show absurd (show false=true from D) zA
 |bl a=>
  cases F;cases x with
  |non=>cases j;show SeqAt.EqAt.bool_none a
  |bl b=>cases j;show SeqAt.EqAt.bool_bool a b
  |int b=>let(t,rfl):=j;show SeqAt.EqAt.bool_int a b t
  |str b=>let(t,rfl):=j;show SeqAt.EqAt.bool_str a b t
  |_=>show absurd (show false=true from D) zA
 |int a=>
  let(t',rfl):=F;cases x with
  |non=>cases j;show SeqAt.EqAt.int_none a t'
  |bl b=>cases j;show SeqAt.EqAt.int_bool a t' b
  |int b=>let(t,rfl):=j;show SeqAt.EqAt.int_int a t' b t
  |str b=>let(t,rfl):=j;show SeqAt.EqAt.int_str a t' b t
  |_=>show absurd (show false=true from D) zA
 |str a=>
  let(t',rfl):=F;cases x with
  |non=>cases j;show SeqAt.EqAt.str_none a t'
  |bl b=>cases j;show SeqAt.EqAt.str_bool a t' b
  |int b=>let(t,rfl):=j;show SeqAt.EqAt.str_int a t' b t
  |str b=>let(t,rfl):=j;show SeqAt.EqAt.str_str a t' b t
  |_=>show absurd (show false=true from D) zA
 |_=>show absurd (show false=true from J) zA
theorem SR:eE X (.type "list") (λxs H Q=>∃p ys,xs=[.ref p]/\(BD X.K H p ys\/HD X.K H p ys)/\∀l,H l=none->Q (.ref l) (JC H l (.lst ys))):=by
 intro W s Z H xs us Q L r h;let(p,ys,rfl,J,q):=h;let(u,rfl,Y):=GE r;cases Y;let O:∀(j:!Value),VC ys j->ys.length<=sizeLine->∀(h':Heap) (D:Nat),(∀b U,s.heap.get? b>U->h'.get? b>U)->
   h'.get? s.heap.objs.size>{cls:=.type "list",dict:=none,data:=.seq j.toArray D,slots:= #[]}->EP X W Z Q (.ref s.heap.objs.size) {s with heap:=h'}:=λj F hz h' D kp e=>
  (.ref s.heap.objs.size,_,L.laid (t':=s.toks) kp (vA _) (show tD X.prog X.w _ h' _ (.lst ys) from (hz,j,D,F,e)),rfl,q _ (L.hok.fresh (vA _)))
 let J||J:=J
 .let(j,F,pl,hz):=L.list J;let V:=F.length;let(o,ho,N,n,hd):=pl.isList;show call_list_seq p (.inl rfl) ho N hd (λh' D kp e=>O j F hz h' D kp e) (by simp only[LA]<;>omega)
 .let(j,F,pl,hz):=L.tuple J;let V:=F.length;let(o,ho,N,n,hd):=pl;show call_list_seq p (.inr rfl) ho N hd (λh' D kp e=>O j F hz h' D kp e) (by simp only[LA]<;>omega)
def yT (K:PySem.W.Frag) (T:String) (x:V) (H:Hp):Prop:=match x with
 |.str _=>T="str"
 |.int _=>T="int"
 |.ref p=>(T="list"/\∃xs,BD K H p xs)\/(T="tuple"/\∃o,K.lookup p>o/\o.cls=.type "tuple"/\o.dict=none)\/
  (T="dict"/\((∃kvs,H p>(.dK kvs))\/∃kvs,H p>(.dT kvs)))\/(T="set"/\∃S n,H p>(.set S n))
 |_=>False
theorem ja {O:!(Addr×Obj)} {U:St} {H:Hp} {s:Shared} {T:String} {x:V} {v:Value} (j:LC X O U H s) (r:SC x v) (ty:yT X.K T x H):
  s.TypeIs v T/\∀a,v=.ref a->∃J,s.heap.get? a>J/\J.dict=none:=by
 cases x with
 |str F=>
  let(t,rfl):=r;cases (show T="str" from ty);show⟨typeIs_str s F t,λο e=>nomatch e⟩
 |int i=>
  let(t,rfl):=r;cases (show T="int" from ty);show⟨typeIs_int s i t,λο e=>nomatch e⟩
 |ref p=>
  cases r;let(rfl,xs,N)||(rfl,o,hk,L,hd)||(rfl,hk)||(rfl,S,n,hk):=ty
  .let(W,_,pl,_):=j.list N;show⟨pl.isList.typeIs,λa e=>?_⟩;cases e;let(o,n,e,c,hd,_):=pl;show(o,e,hd)
  .show⟨(o,j.kIn p o hk,L),λa e=>?_⟩;cases e;show(o,j.kIn _ o hk,hd)
  .let F:∃o,s.heap.get? p>o/\o.ExactDict:=by
    let(kvs,hk)||(kvs,hk):=hk
    .let(_,_,_,_,o,_,_,e,ex,_):=j.hok p _ hk;show(o,e,ex)
    .let(_,_,_,_,o,_,_,e,ex,_):=j.hok p _ hk;show(o,e,ex)
   let(o,e,ex):=F;show⟨(o,e,ex.1),λa D=>?_⟩;cases D;show(o,e,ex.2.1)
  .let(o,_,_,_,e,ex,_):=j.hok p _ hk;show⟨(o,e,ex.1),λa D=>?_⟩;cases D;show(o,e,ex.2.1)
 |_=>show False.elim ty
def HP (K:PySem.W.Frag) (T:String) (r:V->!V->Hp->VK->Prop) (to:TE):TE:=λσ H Q=>to σ H λx H1=>yT K T x H1/\r x [] H1 Q
def ma (K:PySem.W.Frag) (T:String) (r:V->!V->Hp->VK->Prop) (to:TE) (t:TA):TE:=λσ H Q=>to σ H λx H1=>yT K T x H1/\t σ H1 λxs H2=>r x xs H2 Q
variable {o e:Expr} {es:!Expr} {to:TE} {t:TA} {name:Str} {apos cpos:Pos} {T id:String} {r:V->!V->Hp->VK->Prop}
theorem lM (Y:PlainAttrs T) (a1:Slot T name id) (W:typeOf (.builtin id)=pure (.type "method_descriptor")) (V:da X id r) (ho:PE X o to)
  (O:attributeBase o name X.env (eval o X.env)=eval o X.env:=by rfl) (U:(apos.endLine == cpos.line)=true:=by rfl):PE X (.Call (.Attribute o name apos) [] [] cpos) (HP X.K T r to):=by
 intro D s J H Q N h;show wpAny_Call_method0_late O U (wD (ho D s J H _ N h) λv a0 a2=>?_);let(x,L,j,F,ty,Z):=a2;let(h1,h2):=ja j F ty;show(T,id,Y,a1,W,h1,h2,OB rfl (PySem.evalArgs_none (V D a0 J L x [] v [] Q j F .nil Z)))
theorem TR (a5:PlainAttrs T) (ah:Slot T name id) (a4:typeOf (.builtin id)=pure (.type "method_descriptor")) (a1:da X id r) (ho:PE X o to) (W:PA X (e::es) t)
  (Y:attributeBase o name X.env (eval o X.env)=eval o X.env:=by rfl)
  (Z:((backTo cpos (starEach (e::es) X.env)).all (λx=> not x.1)&&(backToKw cpos (keywordEach [] X.env)).all (λx=>x.1.isSome)
   &&decide ((e::es).length+([]:!Keyword).length+(if ([]:!Keyword).isEmpty then 0 else 1) < 30))=true:=by rfl)
  (a0:(apos.endLine == cpos.line)=true:=by rfl) (a3:starEach (e::es) X.env=(false,eval e X.env)::starEach es X.env:=by rfl) (a2:(backTo cpos (starEach es X.env)).any (·.1)=false:=by rfl):
  PE X (.Call (.Attribute o name apos) (e::es) [] cpos) (ma X.K T r to t):=by
 intro j s D H Q U h;show wpAny_Call_method_late Y Z a0 rfl (wD (ho j s D H _ U h) λv ac al=>?_);let(x,N,F,L,ty,a6):=al;let(h1,h2):=ja F L ty;show(T,id,a5,ah,a4,h1,h2,?_);let J:=W cpos j ac D N _ F a6;rw[a3] at J ⊢;show OB (by change (false || (backTo cpos (starEach es X.env)).any (·.1))=false;rw[a2]<;>rfl) (lC ?_);show wD J λus ad ⟨vs,O,V,ab,a9⟩=>a1 j ad D O x vs v us Q V L ab a9
end
def zT (X:Cx) (id:String) (r:V->!V->Hp->VK->Prop):Prop:=
 ∀(pins:!(Addr×Obj)) (s:Shared) (σ:St) (H:Hp) (x:V) (xs:!V) (v:Value) (us:!Value) (Q:VK),LC X pins σ H s->SC x v->VC xs us->r x xs H Q->
  wpAny (model X.prog X.w) X.A (call (.builtin id) (v::us)) (EP X pins σ Q) X.xe s
theorem VC.one:∀{x:V} {us:!Value},VC [x] us->∃u,us=[u]/\SC x u:=by
 intro x us h;cases h with
 |cons r h=>cases h;show(_,rfl,r)
theorem VC.two:∀{x y:V} {us:!Value},VC [x,y] us->∃u v,us=[u,v]/\SC x u/\SC y v:=by
 intro x y us h;cases h with
 |cons r h=>
  cases h with
  |cons q h=>cases h;show(_,_,rfl,r,q)
theorem VC.zero:∀{us:!Value},VC [] us->us=[]
 |_,.nil=>rfl
theorem VC.dropLast {xs:!V} {us:!Value} (h:VC xs us):VC xs.dropLast us.dropLast:=by
 induction h with
 |nil=>show .nil
 |cons r t j=>
  cases t with
  |nil=>show .nil
  |cons q t'=>show .cons r j
theorem VC.reverse {xs:!V} {us:!Value} (h:VC xs us):VC xs.reverse us.reverse:=by
 induction h with
 |nil=>show .nil
 |cons r t j=>rw[List.reverse_cons,List.reverse_cons];show VC.append j (.cons r .nil)
theorem VC.rep {xs:!V} {us:!Value} (h:VC xs us):∀k:Nat,VC (List.replicate k xs).flatten (List.replicate k us).flatten
 |0=>.nil
 |k+1=>by
  rw[eC,eC,oC,oC];show VC.append h (VC.rep h k)
theorem Tj {D:Type} (l:!D):l.eraseIdx (l.length - 1)=l.dropLast:=by
 induction l with
 |nil=>rfl
 |cons a r j=>
  cases r with
  |nil=>rfl
  |cons b r=>
   let e:(a::b::r).length - 1=((b::r).length - 1)+1:=by
    let h1:(a::b::r).length=r.length+2:=rfl;let h2:(b::r).length=r.length+1:=rfl;omega
   rw[e,List.eraseIdx_cons_succ,j]
   all_goals rfl
theorem qa (its:!Value):∀(k:Nat) (acc:!Value),
  List.foldl (λx1 x2=>x1++x2) acc.toArray (List.replicate k its.toArray)=(acc++(List.replicate k its).flatten).toArray
 |0,acc=>by simp
 |k+1,acc=>by
  let e:acc.toArray++its.toArray=(acc++its).toArray:=by simp
  let e2:(acc++its)++(List.replicate k its).flatten=acc++(List.replicate (k+1) its).flatten:=by
   rw[eC,oC,ZA]
  rw[<-e2,<-qa its k (acc++its),<-e,eC,List.foldl_cons]
section
variable {X:Cx} {pins:!(Addr×Obj)} {σ:St} {H:Hp} {s:Shared} {l b:Addr} {xs ys zs:!V}
theorem LC.lset {j its':!Value} {n:Nat} {f:Array Value->Array Value} {t':Nat} (D:LC X pins σ H s) (F:H l>(.lst xs))
  (e:s.heap.get? l>{cls:=.type "list",data:=.seq j.toArray n}) (L:f j.toArray=its'.toArray) (O:VC ys its') (hz:ys.length<=sizeLine):
  LC X pins σ (JC H l (.lst ys)) {s with heap:=s.heap.update l (Obj.mapSeq f),toks:=t'}:=by
 let q:=PySem.IsL.update e f;rw[L] at q;show D.write (x:=l) (e:=l) (by rw[F];show trivial) (.inl rfl) (λU u J N=>(fB s.heap (Obj.mapSeq f) (Ne.symm J)).trans N) ⟨_,q⟩ ?_;show(hz,its',_,O,q)
theorem LC.lnew {j:!Value} {t':Nat} (D:LC X pins σ H s) (F:VC ys j) (hz:ys.length<=sizeLine):
  LC X pins σ (JC H s.heap.objs.size (.lst ys)) {s with heap:=s.heap.push {cls:=.type "list",data:=.seq j.toArray},toks:=t'}:=
 D.laid (λο ο q=>AA _ q) (vA _) (hz,j,0,F,MA _ rfl)
theorem LC.fresh (I:LC X pins σ H s):H s.heap.objs.size=none:=I.hok.fresh (vA _)
theorem LC.lstM (D:LC X pins σ H s) (F:H l>(.lst xs)):xs.length<=sizeLine/\∃(j:!Value) (n:Nat),VC xs j/\xs.length=j.length/\s.heap.get? l>{cls:=.type "list",data:=.seq j.toArray n}:=by
 let(J,j,n,r,e):=D.hok l _ F;show(J,j,n,r,r.length,e)
theorem pH {n:Nat} (h:n<=sizeLine):Builtin.List.listTooLong n=false:=by
 unfold Builtin.List.listTooLong;show HA ⋯
end
section
variable {X:Cx}
def rAppend:V->!V->Hp->VK->Prop:=λx vs H Q=>∃l xs y,x=.ref l/\vs=[y]/\H l>(.lst xs)/\xs.length < sizeLine/\Q .non (JC H l (.lst (xs++[y])))
theorem UR:zT X "list.append" rAppend:=by
 intro V s Y H x vs v us Q j O N h;let(l,xs,y,rfl,rfl,D,hz,q):=h;cases O;let(u,rfl,L):=N.one;let(W,J,n,r,U,e):=j.lstM D;show call_meets F.slot_list_append (_,e,rfl) F.entry_list_append (F.args_list_append_2 _ _) (PySem.list_append l J.toArray n u (by rw[LA];omega)) ⟨e,?_⟩;show(.non,_,j.lset (its':=J++[u]) D e (by simp) (r.append (.cons L .nil)) ?_,rfl,q);rw[xA,IB];omega
def rExtend:V->!V->Hp->VK->Prop:=λx vs H Q=>∃l b xs zs,x=.ref l/\vs=[.ref b]/\H l>(.lst xs)/\H b>(.lst zs)/\xs.length+zs.length<=sizeLine/\Q .non (JC H l (.lst (xs++zs)))
theorem Uj:zT X "list.extend" rExtend:=by
 intro a3 s a5 H x vs v us Q J a0 Z h;let(l,b,xs,zs,rfl,rfl,L,O,hz,q):=h;cases a0;let(u,rfl,Y):=Z.one;cases Y;let(a4,j,n,r,a1,e):=J.lstM L;let(z2,D,V,W,a2,N):=J.lstM O;let hsz:j.toArray.size+D.toArray.size<=sizeLine:=by rw[LA,LA];omega
 let U:¬(not j.toArray.isEmpty&&Builtin.List.listTooLong (j.toArray.size+D.toArray.size))=true:=by
  rw[pH hsz,Bool.and_false];show zA
 show call_meets F.slot_list_extend (_,e,rfl) F.entry_list_extend (F.args_list_extend_2 _ _)
  (AutoSeq1.list_extend_list_list_0 l j.toArray n b D.toArray V U (by rw[LA];omega) ⋯) (e,N,?_)
 show(.non,_,J.lset (its':=j++D) L e (by simp) (r.append W) ?_,rfl,q);rw[xA];omega
def rPop:V->!V->Hp->VK->Prop:=λx vs H Q=>∃l xs y,x=.ref l/\vs=[]/\H l>(.lst xs)/\xs[xs.length - 1]?>y/\Q y (JC H l (.lst xs.dropLast))
theorem mM:zT X "list.pop" rPop:=by
 intro a0 s a2 H x vs v us Q D Z Y h;let(l,xs,y,rfl,rfl,J,U,q):=h;cases Z;let O:=Y.zero;subst O;let(a1,j,n,r,L,e):=D.lstM J;let(u,N,W):=r.get U;let V:j.toArray[j.toArray.size - 1]?>u:=by
  change j.toArray[j.length - 1]?>u;rw[<-jC,<-L];show N
 show call_meets F.slot_list_pop (_,e,rfl) F.entry_list_pop (F.args_list_pop_1 _) (MeetsSeq.list_pop_last l j.toArray n u V (by rw[LA];omega)) ⟨e,?_⟩;show(y,_,D.lset (its':=j.dropLast) J e ?_ r.dropLast ?_,W,q)
 .change j.toArray.eraseIdxIfInBounds (j.toArray.size - 1)=j.dropLast.toArray;rw[LA,List.eraseIdxIfInBounds_toArray,Tj]
 .rw[List.length_dropLast];omega
def rCat:R2:=λx y H Q=>∃l b xs zs,x=.ref l/\y=.ref b/\H l>(.lst xs)/\H b>(.lst zs)/\xs.length+zs.length<=sizeLine/\∀p,H p=none->Q (.ref p) (JC H p (.lst (xs++zs)))
theorem VR:zF X (binaryOp .Add) rCat:=by
 intro a1 s a3 H x y v u Q j V W h;let(l,b,xs,zs,rfl,rfl,O,N,hz,q):=h;cases V;cases W;let(a2,D,n,r,Y,e):=j.lstM O;let(z2,F,a0,U,Z,J):=j.lstM N;show PySem.P.add_list e J ?_ (by rw[LA,LA];omega);let L:D.toArray++F.toArray=(D++F).toArray:=by simp
 rw[L];show(.ref _,_,j.lnew (t':=s.toks) (r.append U) (by rw[xA];omega),rfl,q _ j.fresh)
def rRep:R2:=λx y H Q=>∃l k xs,x=.ref l/\y=.int k/\H l>(.lst xs)/\ -(2 ^ 63)<=k/\k < 2 ^ 63/\xs.length * k.toNat<=sizeLine/\
 ∀p,H p=none->Q (.ref p) (JC H p (.lst (List.replicate k.toNat xs).flatten))
theorem Vj {D:Type} (xs:!D) (k:Nat):(List.replicate k xs).flatten.length=k * xs.length:=by
 induction k with
 |zero=>simp
 |succ k j=>rw[eC,oC,xA,j,Nat.succ_mul,Nat.add_comm]
theorem nM:zF X (binaryOp .Mult) rRep:=by
 intro a4 s a9 H x y v u Q D a2 a3 h;let(l,k,xs,rfl,rfl,O,h1,h2,hz,q):=h;cases a2;let(t,rfl):=a3;let(a6,j,n,r,Y,e):=D.lstM O;let Z:j.toArray.size * k.toNat<=sizeLine:=by rw[LA,<-Y];show hz
 let V:¬GT.gt (j.toArray.size * k.toNat) ((2 ^ 63 - 1) / 8):=by
  have:(sizeLine:Nat)<=(2 ^ 63 - 1) / 8:=by decide
  omega
 let W:¬(not (Builtin.List.listFitsIndex k))=true:=by
  rw[fitsIndex_both h1 h2];show zA
 let a0:¬Builtin.List.listTooLong (j.toArray.size * k.toNat)=true:=by
  rw[pH Z];show zA
 let a1:List.foldl (λJ L=>J++L) #[] (List.replicate (if j.toArray.isEmpty=true then 0 else k.toNat) j.toArray)=(List.replicate k.toNat j).flatten.toArray:=by
  let N:∀m:Nat,List.foldl (λJ L=>J++L) #[] (List.replicate m j.toArray)=(List.replicate m j).flatten.toArray:=λm=>by
   have:=qa j m [];rw[List.nil_append] at this;show this
  rw[N];cases j with
  |nil=>simp
  |cons a a5=>rw[gA (by simp)]
 show wpAny_binaryOp_repeat_ref (T:="list") (U:="int") (by decide) (_,e,rfl) (λs'=>typeIs_int s' k t) noFill_list_mul F.fills_int_mul F.slot_int_rmul repeat_list F.slot_int_index.lookup
  (call_meets F.slot_int_rmul (typeIs_int s k t) F.entry_int_rmul (F.args_int_rmul_2 _ _) (int___rmul___int_list k t l j.toArray n)
   (e,rfl,(_,e,rfl),call_meets F.slot_list_mul (_,e,rfl) F.entry_list_mul (F.args_list_mul_2 _ _) (AutoListH.list___mul___list_int_3 l j.toArray n k t W V a0) ⟨e,?_⟩))
 rw[a1];show(.ref _,_,D.lnew (t':=s.toks) (r.rep k.toNat) (by rw[Vj,Nat.mul_comm];show hz),rfl,q _ D.fresh)
end
section
variable {prog:Program} {w:World} {A:Around} {E:Value->Shared->Prop} {s:Shared}
end
section
variable {X:Cx}
end
section
variable {κ:Type} [DecidableEq κ]
def KC (kvs:!(κ×V)) (k:κ):Option V:=(kvs.find? λkv=>decide (kv.1=k)).map (·.2)
def iD (kvs:!(κ×V)) (k:κ) (v:V):!(κ×V):=
 if (kvs.any λkv=>decide (kv.1=k))=true then kvs.map (λkv=>if kv.1=k then (kv.1,v) else kv) else kvs++[(k,v)]
def dD (kvs:!(κ×V)) (k:κ):!(κ×V):=kvs.filter λkv=>decide (kv.1≠k)
theorem jH {p:κ×V} {r:!(κ×V)} {k:κ} (e:p.1=k):KC (p::r) k>p.2:=by simp[KC,List.find?_cons,e]
theorem kH {p:κ×V} {r:!(κ×V)} {k:κ} (e:¬p.1=k):KC (p::r) k=KC r k:=by simp[KC,List.find?_cons,e]
theorem BJ (k:κ):∀kvs:!(κ×V),(kvs.any λkv=>decide (kv.1=k))=(KC kvs k).isSome
 |[]=>rfl
 |p::r=>by
  rw[List.any_cons];by_cases e:p.1=k
  .simp only[jH e,qA e,Bool.true_or,Option.isSome_some]
  .rw[kH e,HA e,Bool.false_or];show BJ k r
theorem ra (k j:κ) (y:V):∀kvs:!(κ×V),KC (kvs.map λkv=>if kv.1=k then (kv.1,y) else kv) j=(KC kvs j).map λx=>if j=k then y else x
 |[]=>rfl
 |p::r=>by
  let ih:=ra k j y r;rw[rA];by_cases h:p.1=k
  .rw[iA h];by_cases e:p.1=j
   .rw[jH (p:=(p.1,y)) e,jH e,DC,iA (e.symm.trans h)]
   .rw[kH (p:=(p.1,y)) e,kH e,ih]
  .rw[gA h];by_cases e:p.1=j
   .rw[jH (p:=p) e,jH e,DC,gA (λz=>h (e.trans z))]
   .rw[kH (p:=p) e,kH e,ih]
theorem WR (k j:κ) (y:V):∀kvs:!(κ×V),KC kvs k=none->KC (kvs++[(k,y)]) j=if j=k then some y else KC kvs j
 |[],_=>by
  by_cases e:k=j
  .rw[iA e.symm];show jH (p:=(k,y)) e
  .rw[gA (λz=>e z.symm)];show kH (p:=(k,y)) e
 |p::r,hn=>by
  rw[List.cons_append];let hk:¬p.1=k:=λz=>by rw[jH z] at hn;cases hn
  rw[kH hk] at hn;let ih:=WR k j y r hn;by_cases e:p.1=j
  .rw[jH e,jH e,gA (λz=>hk (e.trans z))]
  .rw[kH e,kH e,ih]
theorem oM (kvs:!(κ×V)) (k j:κ) (y:V):KC (iD kvs k y) j=if j=k then some y else KC kvs j:=by
 unfold iD;by_cases a:(kvs.any λkv=>decide (kv.1=k))=true
 .rw[iA a,ra];rw[BJ] at a;by_cases e:j=k
  .let(x,D):=Option.isSome_iff_exists.mp a;rw[iA e,e,D,DC,iA rfl]
  .rw[gA e];cases KC kvs j with
   |none=>rfl
   |some x=>rw[DC,gA e]
 .rw[gA a];show WR k j y kvs ?_;rw[BJ] at a;cases q:KC kvs k with
  |none=>rfl
  |some x=>rw[q] at a;show (a rfl).elim
theorem IP (kvs:!(κ×V)) (k:κ) (v:V):(iD kvs k v).length<=kvs.length+1:=by
 unfold iD
 split
 .rw[dA];omega
 .rw[xA,gB,List.length_nil];omega
theorem FK {kvs:!(κ×V)} {k:κ} (v:V) (h:KC kvs k=none):iD kvs k v=kvs++[(k,v)]:=by
 unfold iD;rw[BJ,h];show gA (by decide)
theorem SE.isSome_eq {o:Option V} {u:Option Value} (r:SE o u):o.isSome=u.isSome:=by
 cases o with
 |none=>cases u with
  |none=>rfl
  |some _=>show (show False from r).elim
 |some _=>cases u with
  |none=>show (show False from r).elim
  |some _=>rfl
theorem SE.getD {o:Option V} {u:Option Value} {d:V} {d':Value} (r:SE o u) (j:SC d d'):SC (o.getD d) (u.getD d'):=by
 cases o with
 |none=>cases u with
  |none=>show j
  |some _=>show (show False from r).elim
 |some _=>cases u with
  |none=>show (show False from r).elim
  |some _=>show r
theorem KV.val {kvs:!(κ×V)} {vs:!(κ×Value)} (r:KV kvs vs) (k:κ):SE (KC kvs k) (valueAt vs k):=by
 unfold KV at r
 induction r with
 |nil=>show True.intro
 |@cons p q ps qs h t ih=>
  let(h1,h2):=h;by_cases e:p.1=k
  .let j:q.1=k:=h1.symm.trans e;let b:valueAt (q::qs) k>q.2:=by simp[valueAt,List.find?_cons,j]
   rw[jH e,b];show h2
  .let j:¬q.1=k:=λD=>e (h1.trans D);let b:valueAt (q::qs) k=valueAt qs k:=by simp[valueAt,List.find?_cons,j]
   rw[kH e,b];show ih
theorem KV.any {kvs:!(κ×V)} {vs:!(κ×Value)} (r:KV kvs vs) (k:κ):(kvs.any λkv=>decide (kv.1=k))=vs.any λkv=>decide (kv.1=k):=by
 unfold KV at r
 induction r with
 |nil=>rfl
 |cons h t j=>rw[List.any_cons,List.any_cons,j,h.1]
theorem KV.repl {kvs:!(κ×V)} {vs:!(κ×Value)} (r:KV kvs vs) (k:κ) {y:V} {u:Value} (j:SC y u):
  KV (kvs.map λkv=>if kv.1=k then (kv.1,y) else kv) (vs.map λkv=>if kv.1=k then (kv.1,u) else kv):=by
 unfold KV at r ⊢
 induction r with
 |nil=>show .nil
 |@cons p q ps qs h t ih=>
  rw[rA,rA];show .cons ?_ ih;let(h1,h2):=h;by_cases e:p.1=k
  .rw[iA e,iA (h1.symm.trans e)];show⟨h1,j⟩
  .rw[gA e,gA (λD=>e (h1.trans D))];show⟨h1,h2⟩
theorem KV.put {kvs:!(κ×V)} {vs:!(κ×Value)} (r:KV kvs vs) (k:κ) {y:V} {u:Value} (j:SC y u):KV (iD kvs k y) (stored vs k u):=by
 unfold iD stored;rw[r.any k];by_cases e:(vs.any λkv=>decide (kv.1=k))=true
 .rw[iA e,iA e];show r.repl k j
 .rw[gA e,gA e];show Paired.snoc r ⟨rfl,j⟩
theorem KV.drop {kvs:!(κ×V)} {vs:!(κ×Value)} (r:KV kvs vs) (k:κ):KV (dD kvs k) (without vs k):=by
 unfold KV at r ⊢;unfold dD without
 induction r with
 |nil=>show .nil
 |@cons p q ps qs h t ih=>
  let(h1,h2):=h;rw[mB,mB];by_cases e:p.1=k
  .let a:¬decide (p.1≠k)=true:=by simp[e]
   let b:¬decide (q.1≠k)=true:=by simp[h1.symm.trans e]
   rw[gA a,gA b];show ih
  .let j:¬q.1=k:=λD=>e (h1.trans D);let a:decide (p.1≠k)=true:=by simp[e]
   let b:decide (q.1≠k)=true:=by simp[j]
   rw[iA a,iA b];show .cons ⟨h1,h2⟩ ih
theorem KV.keys {kvs:!(κ×V)} {vs:!(κ×Value)} (r:KV kvs vs):kvs.map (·.1)=vs.map (·.1):=by
 unfold KV at r
 induction r with
 |nil=>rfl
 |cons h t j=>rw[rA,rA,j,h.1]
theorem KV.length {kvs:!(κ×V)} {vs:!(κ×Value)} (r:KV kvs vs):kvs.length=vs.length:=Paired.length r
theorem ua (kvs:!(κ×V)) (k:κ):(dD kvs k).length<=kvs.length:=qB _ _
end
theorem WJ {P:Program} {w:World} {k:Key} {u:Value} (r:SC (kV k) u):(lD P w).is k u=true:=by
 cases k with
 |inl i=>let(t,e):=(show ∃t,u=Value.int i t from r);subst e;show Qi P w i t
 |inr x=>let(t,e):=(show ∃t,u=Value.str x t from r);subst e;show Ri P w x t
theorem va {P:Program} {w:World}:∀{ks:!Key} {us:!Value},VC (ks.map kV) us->ItemsAre (lD P w) ks us
 |[],_,r=>by rw[EB] at r;cases r;show .nil
 |k::ks,_,r=>by
  rw[rA] at r;cases r with
  |cons h t=>show .cons (WJ h) (va t)
abbrev KT (H:Hp):!(!Key×V)->!(!Key×Addr×Value)->Prop:=Paired λp q=>p.1=q.1/\H q.2.1>(.tup (p.1.map kV))/\SC p.2 q.2.2
theorem KT.val {H:Hp} {kvs:!(!Key×V)} {xs:!(!Key×Addr×Value)} (r:KT H kvs xs) (k:!Key):SE (KC kvs k) ((atKey xs k).map (·.2)):=by
 induction r with
 |nil=>show True.intro
 |@cons p q ps qs h t ih=>
  let(h1,_,h2):=h;by_cases e:p.1=k
  .let j:q.1=k:=h1.symm.trans e;let b:atKey (q::qs) k>q.2:=by simp[atKey,List.find?_cons,j]
   rw[jH e,b];show h2
  .let j:¬q.1=k:=λD=>e (h1.trans D);let b:atKey (q::qs) k=atKey qs k:=by simp[atKey,List.find?_cons,j]
   rw[kH e,b];show ih
theorem KT.repl {H:Hp} {kvs:!(!Key×V)} {xs:!(!Key×Addr×Value)} (r:KT H kvs xs) (k:!Key) {y:V} {u:Value} (D:SC y u):
  KT H (kvs.map λkv=>if kv.1=k then (kv.1,y) else kv) (xs.map (putAt k u)):=by
 induction r with
 |nil=>show .nil
 |@cons p q ps qs h t ih=>
  rw[rA,rA];show .cons ?_ ih;let(h1,h2,j):=h;unfold putAt;by_cases e:p.1=k
  .rw[iA e,iA (h1.symm.trans e)];show(h1,h2,D)
  .rw[gA e,gA (λF=>e (h1.trans F))];show(h1,h2,j)
theorem KT.put {H:Hp} {kvs:!(!Key×V)} {xs:!(!Key×Addr×Value)} (r:KT H kvs xs) (k:!Key) {b:Addr} {y:V} {u:Value} (D:H b>(.tup (k.map kV))) (j:SC y u):
  KT H (iD kvs k y) (storedH xs k b u):=by
 let e:(kvs.any λkv=>decide (kv.1=k))=(atKey xs k).isSome:=by
  rw[BJ,(r.val k).isSome_eq,Option.isSome_map]
 unfold iD storedH;rw[e];by_cases q:(atKey xs k).isSome=true
 .rw[iA q,iA q];show r.repl k j
 .rw[gA q,gA q];show Paired.snoc r (rfl,D,j)
theorem KT.keeps {H H':Hp} {kvs:!(!Key×V)} {xs:!(!Key×Addr×Value)} (r:KT H kvs xs) (D:∀b ys,H b>(.tup ys)->H' b>(.tup ys)):KT H' kvs xs:=
 Paired.mapP r λο ο j=>(j.1,D _ _ j.2.1,j.2.2)
section
variable {P:Program} {w:World} {H:Hp} {h:Heap} {a:Addr}
theorem GK {u:HO} (ok:YE P w H h) (e:Rd H a u):tD P w H h a u:=e.ok ok
theorem mI {kvs:!(Key×V)} (ok:YE P w H h) (e:Rd H a (.dK kvs)):kvs.length<=sizeLine/\(a == sysModules)=false/\∃vs,KV kvs vs/\h.DictOf (lD P w) a vs:=
 show tD P w H h a (.dK kvs) from GK ok e
theorem AT {kvs:!(Key×V)} (ok:YE P w H h) (e:H a>(.dK kvs)):kvs.length<=sizeLine/\(a == sysModules)=false/\∃vs,KV kvs vs/\h.DictOf (lD P w) a vs:=mI ok (.inl e)
theorem HK {ks:!Key} (ok:YE P w H h) (e:H a>(.tup (ks.map kV))):(tupleKind (lD P w)).is h ks a:=by
 let(_,D,r,o,h1,h2,n,j):=(show tD P w H h a (.tup (ks.map kV)) from ok a _ e)
 show(o,D.toArray,n,h1,h2,j,by simpa using va r)
theorem XJ {kvs:!(!Key×V)} (ok:YE P w H h) (e:Rd H a (.dT kvs)):kvs.length<=sizeLine/\(a == sysModules)=false/\
  ∃xs,KT H kvs xs/\h.DictOfH (tupleKind (lD P w)) a xs:=by
 let(L,y,xs,r,o,es,ep,h1,h2,D,F,J):=(show tD P w H h a (.dT kvs) from GK ok e)
 show(L,y,xs,r,o,es,ep,h1,h2,D,F,λx j=>?_,J);let all:∀{l:!(!Key×V)} {m:!(!Key×Addr×Value)},KT H l m->∀x∈m,(tupleKind (lD P w)).is h x.1 x.2.1:=by
  intro l m q
  induction q with
  |nil=>intro x j;show nomatch j
  |@cons p q ps qs hq t ih=>
   intro x j;let e||j:=pA.mp j
   .subst e;show HK ok (by rw[<-hq.1];show hq.2.1)
   .show ih x j
 show all r x j
theorem JP {kvs:!(!Key×V)} (ok:YE P w H h) (e:H a>(.dT kvs)):kvs.length<=sizeLine/\(a == sysModules)=false/\
 ∃xs,KT H kvs xs/\h.DictOfH (tupleKind (lD P w)) a xs:=XJ ok (.inl e)
end
def tE (H:Hp) (a:Addr) (y:V) (r:Option V):Prop:=
 (∃kvs k,Rd H a (.dK kvs)/\y=kV k/\r=KC kvs k)\/∃kvs k b,Rd H a (.dT kvs)/\y=.ref b/\H b>(.tup (k.map kV))/\r=KC kvs k
def qH (H:Hp) (a:Addr) (y v:V) (H':Hp):Prop:=
 (∃kvs k,H a>(.dK kvs)/\y=kV k/\kvs.length < sizeLine/\H'=JC H a (.dK (iD kvs k v)))\/
 ∃kvs k b,H a>(.dT kvs)/\y=.ref b/\H b>(.tup (k.map kV))/\kvs.length < sizeLine/\H'=JC H a (.dT (iD kvs k v))
theorem tE.k {H:Hp} {a:Addr} {kvs:!(Key×V)} {k:Key} (e:H a>(.dK kvs)):tE H a (kV k) (KC kvs k):=.inl (kvs,k,.inl e,rfl,rfl)
theorem tE.t {H:Hp} {a b:Addr} {kvs:!(!Key×V)} {k:!Key} (e:H a>(.dT kvs)) (j:H b>(.tup (k.map kV))):tE H a (.ref b) (KC kvs k):=.inr (kvs,k,b,.inl e,rfl,j,rfl)
theorem qH.k {H:Hp} {a:Addr} {kvs:!(Key×V)} {k:Key} {v:V} (e:H a>(.dK kvs)) (j:kvs.length < sizeLine):qH H a (kV k) v (JC H a (.dK (iD kvs k v))):=.inl (kvs,k,e,rfl,j,rfl)
theorem qH.t {H:Hp} {a b:Addr} {kvs:!(!Key×V)} {k:!Key} {v:V} (e:H a>(.dT kvs)) (j:H b>(.tup (k.map kV))) (D:kvs.length < sizeLine):
 qH H a (.ref b) v (JC H a (.dT (iD kvs k v))):=.inr (kvs,k,b,e,rfl,j,D,rfl)
section
variable {X:Cx} {pins:!(Addr×Obj)} {σ:St} {H:Hp} {s:Shared} {a:Addr} {y v:V} {u r:Value} {o:Option V} {A:Around} {E:Value->Shared->Prop}
theorem LC.big (I:LC X pins σ H s):sysModules < s.heap.objs.size:=by
 let h:mainGlobals < s.heap.objs.size:=(I.mod.glob.keeps I.bk).lt;show Nat.lt_trans (by decide) h
theorem Wj {Q:Value->Shared->Prop} (Y:A.units+1 < cLine) (D:LC X pins σ H s) (g:tE H a y (some v)) (O:SC y u) (h:∀j s',LC X pins σ H s'->SC v j->Q j s'):
  wpAny (model X.prog X.w) A (getItem (.ref a) u) Q E s:=by
 let(kvs,k,e,F,l)||(kvs,k,b,e,F,U,l):=g
 .subst F;let(Z,hd,vs,L,dd):=mI D.hok e;let(j,J,N):=SE.some_of (v:=v) (o:=valueAt vs k) (by rw[l];show L.val k);show wpAny_getItem_of (WJ O) dd.mapOf J (h j _ (D.tok _) N)
 .subst F;cases (show u=Value.ref b from O);let(Z,hd,xs,L,dd):=XJ D.hok e;let(j,J,N):=SE.some_of (v:=v) (o:=(atKey xs k).map (·.2)) (by rw[l];show L.val k);let(p,V,W):=GB.mp J;show wpAny_getItem_heap (kC Y) (HK D.hok U) dd V ?_;rw[W];show h j _ (D.tok _) N
theorem CT {Q:Value->Shared->Prop} (N:A.units+1 < cLine) (j:LC X pins σ H s) (g:tE H a y o) (J:SC y u) (h:∀s',LC X pins σ H s'->Q (.bool o.isSome) s'):
  wpAny (model X.prog X.w) A (compareOp .In u (.ref a)) Q E s:=by
 let(kvs,k,e,D,l)||(kvs,k,b,e,D,L,l):=g
 .subst D;let(O,hd,vs,F,dd):=mI j.hok e;show wpAny_in_of (WJ J) hd dd.mapOf ?_;rw[<-(F.val k).isSome_eq,<-l];show h _ (j.tok _)
 .subst D;cases (show u=Value.ref b from J);let(O,hd,xs,F,dd):=XJ j.hok e;show wpAny_in_heap (kC N) (HK j.hok L) hd dd ?_;let q:=(F.val k).isSome_eq;rw[Option.isSome_map] at q;rw[<-q,<-l];show h _ (j.tok _)
theorem Xj {Q:Value->Shared->Prop} (N:A.units+1 < cLine) (j:LC X pins σ H s) (g:tE H a y o) (J:SC y u) (h:∀s',LC X pins σ H s'->Q (.bool (not o.isSome)) s'):
  wpAny (model X.prog X.w) A (compareOp .NotIn u (.ref a)) Q E s:=by
 let(kvs,k,e,D,l)||(kvs,k,b,e,D,L,l):=g
 .subst D;let(O,hd,vs,F,dd):=mI j.hok e;show wpAny_notIn_of (WJ J) hd dd.mapOf ?_;rw[<-(F.val k).isSome_eq,<-l];show h _ (j.tok _)
 .subst D;cases (show u=Value.ref b from J);let(O,hd,xs,F,dd):=XJ j.hok e;show wpAny_notIn_heap (kC N) (HK j.hok L) hd dd ?_;let q:=(F.val k).isSome_eq;rw[Option.isSome_map] at q;rw[<-q,<-l];show h _ (j.tok _)
theorem KP {h':Heap} {t':Nat} {j:HO} (D:LC X pins σ H s) (N:cP (H a)) (L:Heap.SameBut a s.heap h') (J:∃q,h'.get? a>q) (O:tD X.prog X.w (JC H a j) h' a j):
  LC X pins σ (JC H a j) {s with heap:=h',toks:=t'}:=
 D.write (x:=a) (e:=a) N (.inl rfl) (λb q F U=>(L.2 b F).trans U) J O
theorem YR {P:Program} {w:World} {H':Hp} {h':Heap} {kvs:!(Key×V)} {vs:!(Key×Value)} (D:kvs.length<=sizeLine) (hd:(a == sysModules)=false) (j:KV kvs vs) (dd:h'.DictOf (lD P w) a vs):
 tD P w H' h' a (.dK kvs):=(D,hd,vs,j,dd)
theorem Yj {H':Hp} {Q:Unit->Shared->Prop} (a5:A.units+1 < cLine) (j:LC X pins σ H s) (g:qH H a y v H') (a0:SC y u) (Z:SC v r) (h:∀s',LC X pins σ H' s'->Q ⟨⟩ s'):
  wpAny (model X.prog X.w) A (setItem (.ref a) u r) Q E s:=by
 let(kvs,k,e,O,l,N)||(kvs,k,b,e,O,W,l,N):=g
 .subst O N;let(F,hd,vs,D,dd):=AT j.hok e;let hz:vs.length<=sizeLine:=by rw[<-D.length];show F
  let U:(iD kvs k v).length<=sizeLine:=by have:=IP kvs k v;omega
  show wpAny_setItem_pairs (hsz:=hz) (WJ a0) dd λh' J V=>h _ ?_;let a4:∃q,h'.get? a>q:=let ⟨q,_,_,L,_⟩:=J;⟨q,L⟩
  show KP j (by rw[e];show True.intro) V a4 (YR U hd (D.put k Z) J)
 .subst O N;cases (show u=Value.ref b from a0);let(F,hd,xs,D,dd):=JP j.hok e;let hz:xs.length<=sizeLine:=by rw[<-Paired.length D];show F
  let U:(iD kvs k v).length<=sizeLine:=by have:=IP kvs k v;omega
  show wpAny_setItem_heap (hsz:=hz) (kC a5) (HK j.hok W) dd λh' J V=>h _ ?_;let(q,es,ep,L,h2,a1,a2,_,a3):=J;show KP j (by rw[e];show True.intro) V ⟨q,L⟩ (U,hd,_,(D.put k W Z).keeps λc ys Y=>?_,q,es,ep,L,h2,a1,a2,a3);rw[WC (uD Y e nofun)];show Y
end
section
variable {X:Cx} {pins:!(Addr×Obj)} {σ:St} {H:Hp} {s:Shared} {a:Addr} {kvs:!(Key×V)} {k:Key} {u:Value} {A:Around} {E:Value->Shared->Prop}
theorem LP {v:V} {more:!Value} {Q:Value->Shared->Prop} (J:LC X pins σ H s) (e:H a>(.dK kvs)) (F:SC (kV k) u) (l:KC kvs k>v) (N:more=[]\/∃x,more=[x])
  (h:∀j s',LC X pins σ (JC H a (.dK (dD kvs k))) s'->SC v j->Q j s'):wpAny (model X.prog X.w) A (call (.builtin "dict.pop") (.ref a::u::more)) Q E s:=by
 let(O,hd,vs,D,dd):=AT J.hok e;let(j,a0,a1):=SE.some_of (v:=v) (o:=valueAt vs k) (by rw[<-l];show D.val k);let Y:(keyPart u).isSome=true:=by
  cases k with
  |inl i=>let(t,q):=(show ∃t,u=Value.int i t from F);subst q;rfl
  |inr x=>let(t,q):=(show ∃t,u=Value.str x t from F);subst q;rfl
 let U:argsOk "dict.pop" ⟨.ref a::u::more,[]⟩:=by
  let q||(x,q):=N
  .subst q;show PySem.F.args_dict_pop_2 _ _
  .subst q;show PySem.F.args_dict_pop_3 _ _ _
 show call_meetsIn PySem.F.slot_dict_pop dd.typeIs PySem.F.entry_dict_pop U (meets_dict_pop_there (lD X.prog X.w) a (WJ F) more N Y)
  (vs,j,dd,by rw[<-D.length];show O,a0,λh' L Z=>h j _ ?_ a1)
 let W:∃q,h'.get? a>q:=let ⟨q,_,_,hq,_⟩:=L;⟨q,hq⟩
 show KP J (by rw[e];show True.intro) Z W (YR (FB (ua kvs k) O) hd (D.drop k) L)
theorem MP {Q:Value->Shared->Prop} (j:LC X pins σ H s) (e:Rd H a (.dK kvs)) (h:∀t s',LC X pins σ H s'->Q (.int kvs.length t) s'):wpAny (model X.prog X.w) A (call (.builtin "len") [.ref a]) Q E s:=by
 let(F,hd,vs,D,dd):=mI j.hok e;show call_len_dict hd dd (by rw[<-D.length];rw[sizeLine_eq] at F;omega) ?_;rw[<-D.length];show h _ _ (j.tok _)
end
def NP (i:Expr):Prop:=∀ov iv,subscripted i false ov iv=operate [ov,iv] (getItem ov iv)
theorem Zj {prog:Program} {w:World} {A:Around} {j:Value->Shared->Prop} {s:Shared} {env:Env} {N D:Expr} {pos:Pos} {T id:String} {Q:Value->Shared->Prop}
  (W:typeLookup (.type T) "__getitem__"=pure (some (.builtin id))) (Y:NP D)
  (h:wpAny (model prog w) A (eval N env) (λo U=>wpAny (model prog w) A (eval D env) (λi F=>F.TypeIs o T/\wpAny (model prog w) A (getItem o i) Q j F) j U) j s):
  wpAny (model prog w) A (eval (.Subscript N D pos) env) Q j s:=by
 show Subscript_ (AB h (λo U Z=>AB Z (λi F L=>?_) λο ο x=>x) λο ο x=>x);let(O,L):=L;unfold subscriptTail;show fA ?_;rw[getitemInPython_of_ne O.not_modules];show fA (wpAny_specialOf O W ?_);let J:wpAny (model prog w) A (subscripted D false o i) (λr V=>wpAny (model prog w) A (letTemporaryGo N o r >>= λο=>pure r) Q j V) j F:=by
  rw[Y o i];show wpAny_operating (AB L (λr V a0=>fA (wpAny_letTemporaryGo (BA a0))) λο ο x=>x)
 first
  |exact BA (fA J)
  |exact fA (BA (fA J))
  |exact fA J
theorem ak {X:Cx} {D:!(Addr×Obj)} {F:St} {H:Hp} {s:Shared} {a:Addr} {y:V} {o:Option V} (j:LC X D F H s) (g:tE H a y o):s.TypeIs (.ref a) "dict":=by
 let(kvs,k,e,_,_)||(kvs,k,b,e,_,_,_):=g
 .let(_,_,vs,_,dd):=mI j.hok e;show dd.typeIs
 .let(_,_,xs,_,dd):=XJ j.hok e;show dd.typeIs
def DD (td ty:TE):TE:=λσ H Q=>td σ H λx H1=>ty σ H1 λy H2=>∃a v,x=.ref a/\tE H2 a y (some v)/\Q v H2
def nI (ty td:TE):TE:=λσ H Q=>ty σ H λy H1=>td σ H1 λx H2=>∃a o,x=.ref a/\tE H2 a y o/\Q (.bl o.isSome) H2
def UE (ty td:TE):TE:=λσ H Q=>ty σ H λy H1=>td σ H1 λx H2=>∃a o,x=.ref a/\tE H2 a y o/\Q (.bl (not o.isSome)) H2
def lE (td ty tv:TE):TS:=λD σ H=>tv σ H λv H1=>td σ H1 λx H2=>ty σ H2 λy H3=>∃a H4,x=.ref a/\qH H3 a y v H4/\D.nx σ H4
section
variable {X:Cx} {o i e value:Expr} {pos pos' tpos:Pos} {td ty tv:TE}
theorem BE (W:X.A.units+1 < cLine) (ho:PE X o td) (hi:PE X i ty) (V:NP i):PE X (.Subscript o i pos) (DD td ty):=by
 intro D s F H Q N h;show Zj PySem.F.slot_dict_getitem.lookup V (wD (ho D s F H _ N h) λu a3 ⟨x,J,O,a1,Y⟩=>wD (hi D a3 F J _ O Y) λa5 a6 a4=>?_);let(y,L,j,a2,a,v,ex,g,Z):=a4;subst ex;obtain rfl:u=Value.ref a:=a1;show⟨ak j g,Wj W j g a2 λab a9 U a0=>(v,L,U,a0,Z)⟩
theorem OP (V:X.A.units+1 < cLine) (hi:PE X i ty) (ho:PE X o td):PC X .In i o (nI ty td):=by
 intro j s D H Q L h;show wD (hi j s D H _ L h) λa4 a2 ⟨y,F,N,a1,Y⟩=>wD (ho j a2 D F _ N Y) λu a5 a3=>?_;let(x,J,O,a0,a,W,ex,g,Z):=a3;subst ex;obtain rfl:u=Value.ref a:=a0;show CT V O g a1 λa6 U=>(.bl W.isSome,J,U,rfl,Z)
theorem wO (V:X.A.units+1 < cLine) (hi:PE X i ty) (ho:PE X o td):PC X .NotIn i o (UE ty td):=by
 intro j s D H Q L h;show wD (hi j s D H _ L h) λa4 a2 ⟨y,F,N,a1,Y⟩=>wD (ho j a2 D F _ N Y) λu a5 a3=>?_;let(x,J,O,a0,a,W,ex,g,Z):=a3;subst ex;obtain rfl:u=Value.ref a:=a0;show Xj V O g a1 λa6 U=>(.bl (not W.isSome),J,U,rfl,Z)
theorem CG (a0:X.A.units+1 < cLine) (ho:PE X o td) (hi:PE X i ty) (a1:PE X value tv) (Z:swapsWith value (some (.Subscript o i pos')) pos.line X.env=pure false):
  PS X (.Assign [.Subscript o i pos'] value pos) (lE td ty tv):=by
 intro F s j H D O h;show wpAny_Assign_Subscript (wD (a1 F s j H _ O h) λr ab ⟨v,J,U,a5,a2⟩=>wD (ho F ab j J _ U a2) λu ac ⟨x,L,V,a6,a3⟩=>wD (hi F ac j L _ V a3) λal am ad=>?_) Z;let(y,ah,W,a9,a,N,ex,g,a4):=ad;subst ex;obtain rfl:u=Value.ref a:=a6;show Yj a0 W g a9 a5 λb0 Y=>(j,N,Y,a4)
end
theorem wa {P:Program} {w:World} {H:Hp} (h:Heap) (j:sysModules < h.objs.size):tD P w H (h.push {cls:=.type "dict",data:=.dict #[]}) h.objs.size (.dK []):=
 (Nat.zero_le _,fC.mpr (Ne.symm (XA j)),[],.nil,Heap.DictOf.new h)
theorem dk {P:Program} {w:World} {H:Hp} (h:Heap) (j:sysModules < h.objs.size):tD P w H (h.push {cls:=.type "dict",data:=.dict #[]}) h.objs.size (.dT []):=
 (Nat.zero_le _,fC.mpr (Ne.symm (XA j)),[],.nil,_, #[],0,MA _ rfl,(rfl,rfl,rfl),rfl,rfl,List.nodup_nil)
def tDNewK:TE:=λο H Q=>∀p,H p=none->Q (.ref p) (JC H p (.dK []))
def tDNewT:TE:=λο H Q=>∀p,H p=none->Q (.ref p) (JC H p (.dT []))
section
variable {X:Cx} {pos:Pos}
theorem NI:PE X (.Dict [] [] pos) tDNewK:=λD s F H Q j h=>
 wpAny_Dict_empty (.ref s.heap.objs.size,_,j.laid (a:=s.heap.objs.size) (o:=.dK []) (t':=s.toks) (λο ο q=>AA _ q) (vA _) (wa s.heap j.big),rfl,h _ (j.hok.fresh (vA _)))
theorem xa:PE X (.Dict [] [] pos) tDNewT:=λD s F H Q j h=>
 wpAny_Dict_empty (.ref s.heap.objs.size,_,j.laid (a:=s.heap.objs.size) (o:=.dT []) (t':=s.toks) (λο ο q=>AA _ q) (vA _) (dk s.heap j.big),rfl,h _ (j.hok.fresh (vA _)))
end
def XG:!(TE×TE)->St->Hp->(!(V×V)->Hp->Prop)->Prop
 |[],_,H,Q=>Q [] H
 |(tk,tv)::r,σ,H,Q=>tk σ H λx H1=>tv σ H1 λy H2=>XG r σ H2 λps H3=>Q ((x,y)::ps) H3
abbrev VV:!(V×V)->!(Value×Value)->Prop:=Paired λp q=>SC p.1 q.1/\SC p.2 q.2
def PP (X:Cx) (pos:Pos) (keys:!(Option Expr)) (values:!Expr) (trs:!(TE×TE)):Prop:=
 ∀(pins:!(Addr×Obj)) (s:Shared) (σ:St) (H:Hp) (Q:!(V×V)->Hp->Prop),LC X pins σ H s->XG trs σ H Q->
  wpAny (model X.prog X.w) X.A (evalPairs (pairTrees keys values X.env pos)) (λvs s'=>∃ps H',LC X pins σ H' s'/\VV ps vs/\Q ps H') X.xe s
theorem fk {X:Cx} {pos:Pos}:PP X pos [] [] []:=λD s F H Q j h=>pairTrees_nil_walk ([],H,j,.nil,h)
theorem gk {X:Cx} {pos:Pos} {k v:Expr} {ks:!(Option Expr)} {vs:!Expr} {F L:TE} {J:!(TE×TE)} (hk:PE X k F) (a1:PE X v L) (a0:PP X pos ks vs J):
  PP X pos (some k::ks) (v::vs) ((F,L)::J):=λj s D H Q V h=>
 pairTrees_cons_walk (wD (hk j s D H _ V h) λu ab ⟨x,N,W,a6,a2⟩=>wD (a1 j ab D N _ W a2) λah ac ⟨y,O,Y,a9,a3⟩=>
  wD (a0 j ac D O _ Y a3) λal ad ⟨ps,U,Z,a5,a4⟩=>((x,y)::ps,U,Z,.cons ⟨a6,a9⟩ a5,a4))
def LF (kvs more:!(Key×V)):!(Key×V):=more.foldl (λacc kv=>iD acc kv.1 kv.2) kvs
theorem KV.merge:∀{more:!(Key×V)} {rs:!(Key×Value)} {kvs:!(Key×V)} {vs:!(Key×Value)},KV more rs->KV kvs vs->KV (LF kvs more) (merged vs rs):=by
 intro more rs kvs vs r;unfold KV at r
 induction r generalizing kvs vs with
 |nil=>intro q;show q
 |@cons p q ps qs h t ih=>
  intro j;let e:KV (iD kvs p.1 p.2) (stored vs q.1 q.2):=by
   have:=j.put p.1 h.2;rw[<-h.1];show this
  show ih e
theorem ya:∀(more kvs:!(Key×V)),(LF kvs more).length<=kvs.length+more.length
 |[],kvs=>by change kvs.length<=kvs.length+0;omega
 |p::r,kvs=>by
  let h1:=ya r (iD kvs p.1 p.2);let h2:=IP kvs p.1 p.2;change (LF (iD kvs p.1 p.2) r).length<=_;rw[gB];omega
theorem za {P:Program} {w:World}:∀{kvs:!(Key×V)} {ws:!(Value×Value)},VV (kvs.map λkv=>(kV kv.1,kv.2)) ws->∃rs,Carries (lD P w) ws rs/\KV kvs rs
 |[],_,r=>by rw[EB] at r;cases r;show([],True.intro,.nil)
 |p::kvs,_,r=>by
  rw[rA] at r;cases r with
  |@cons a b as bs h t=>
   let(rs,c,q):=za (P:=P) (w:=w) t;let(b1,b2):=b;show((p.1,b2)::rs,(WJ h.1,rfl,c),.cons ⟨rfl,h.2⟩ q)
def OI (trs:!(TE×TE)):TE:=λσ H Q=>∀p,H p=none->XG trs σ (JC H p (.dK [])) λps H2=>H2 p>(.dK [])/\∃kvs:!(Key×V),ps=kvs.map (λkv=>(kV kv.1,kv.2))/\kvs.length<=15/\Q (.ref p) (JC H2 p (.dK (LF [] kvs)))
theorem ik {X:Cx} {pos:Pos} {keys:!(Option Expr)} {D:!Expr} {L:!(TE×TE)} (h:PP X pos keys D L) (U:keys.all (·.isSome)=true) (W:keys.length=D.length) (h0:keys≠[])
  (O:keys.length<=15):PE X (.Dict keys D pos) (OI L):=by
 intro a0 s a6 H Q j q;let Y:=j.hok.fresh (vA s.heap.objs.size);let N:=j.laid (a:=s.heap.objs.size) (o:=.dK []) (h':=s.heap.push {cls:=.type "dict",data:=.dict #[]}) (t':=s.toks) (λο ο q=>AA _ q) (vA _) (wa s.heap j.big);show wpAny_Dict_walk (knd:=lD X.prog X.w) U W h0 O (wD (h a0 _ a6 _ _ N (q _ Y)) λah ac a5=>?_);let(ps,a9,F,a3,e,kvs,ep,ab,a1):=a5;subst ep;let(rs,c,a4):=za (P:=X.prog) (w:=X.w) a3;let(al,hd,ad,a2,dd):=AT F.hok e;cases a2;show(rs,c,dd,λh' J Z=>(.ref s.heap.objs.size,_,?_,rfl,a1));let hz:(LF [] kvs).length<=sizeLine:=by
  let h1:=ya kvs [];rw[List.length_nil] at h1;rw[sizeLine_eq];omega
 let V:∃q,h'.get? s.heap.objs.size>q:=let ⟨q,_,_,hq,_⟩:=J;⟨q,hq⟩
 show KP F (by rw[e];show True.intro) Z V (YR hz hd (a4.merge .nil) J)
structure M1 (X:Cx) (o:Expr) (m:Str) (apos:Pos) (e:Expr) (cpos:Pos):Prop where
 base:attributeBase o m X.env (eval o X.env)=eval o X.env
 few:((backTo cpos (starEach [e] X.env)).all (λx=> not x.1)&&(backToKw cpos (keywordEach [] X.env)).all (λx=>x.1.isSome)
  &&decide (([e]:!Expr).length+([]:!Keyword).length+(if ([]:!Keyword).isEmpty then 0 else 1) < 30))=true
 line:(apos.endLine == cpos.line)=true
 trees:backTo cpos (starEach [e] X.env)=[(false,eval e X.env)]
structure M2 (X:Cx) (o:Expr) (m:Str) (apos:Pos) (e f:Expr) (cpos:Pos):Prop where
 base:attributeBase o m X.env (eval o X.env)=eval o X.env
 few:((backTo cpos (starEach [e,f] X.env)).all (λx=> not x.1)&&(backToKw cpos (keywordEach [] X.env)).all (λx=>x.1.isSome)
  &&decide (([e,f]:!Expr).length+([]:!Keyword).length+(if ([]:!Keyword).isEmpty then 0 else 1) < 30))=true
 line:(apos.endLine == cpos.line)=true
 trees:backTo cpos (starEach [e,f] X.env)=[(false,eval e X.env),(false,eval f X.env)]
def pM (H:Hp) (a:Addr):Prop:=(∃kvs,Rd H a (.dK kvs))\/∃kvs,Rd H a (.dT kvs)
theorem QP {X:Cx} {F:!(Addr×Obj)} {J:St} {H:Hp} {s:Shared} {a:Addr} (D:LC X F J H s) (d:pM H a):
  s.TypeIs (.ref a) "dict"/\(∀b,Value.ref a=.ref b->∃j,s.heap.get? b>j/\j.dict=none)/\(a == sysModules)=false:=by
 let(kvs,e)||(kvs,e):=d
 .let(_,hd,vs,_,dd):=mI D.hok e;show(dd.typeIs,λb q=>?_,hd);cases q;let(j,_,_,h1,h2,_):=dd;show(j,h1,h2.2.1)
 .let(_,hd,xs,_,dd):=XJ D.hok e;show(dd.typeIs,λb q=>?_,hd);cases q;let(j,_,_,h1,h2,_):=dd;show(j,h1,h2.2.1)
section
variable {X:Cx} {pins:!(Addr×Obj)} {σ:St} {H:Hp} {s:Shared} {a:Addr} {y d:V} {u r:Value} {o:Option V} {A:Around} {E:Value->Shared->Prop}
theorem qM {Q:Value->Shared->Prop} (O:A.units+1 < cLine) (j:LC X pins σ H s) (g:tE H a y o) (J:SC y u) (h:∀L s',LC X pins σ H s'->SC (o.getD .non) L->Q L s'):
  wpAny (model X.prog X.w) A (call (.builtin "dict.get") [.ref a,u]) Q E s:=by
 let(kvs,k,e,D,l)||(kvs,k,b,e,D,N,l):=g
 .subst D;let(U,hd,vs,F,dd):=mI j.hok e;show call_meetsIn PySem.F.slot_dict_get dd.typeIs PySem.F.entry_dict_get (PySem.F.args_dict_get_2 _ _) (meets_dict_get (lD X.prog X.w) a (WJ J) hd) (_,dd.mapOf,h _ _ (j.tok _) ?_);rw[l];show (F.val k).getD rfl
 .subst D;cases (show u=Value.ref b from J);let(U,hd,xs,F,dd):=XJ j.hok e;show call_meetsIn PySem.F.slot_dict_get dd.typeIs PySem.F.entry_dict_get (PySem.F.args_dict_get_2 _ _) (meetsH_dict_get (tupleKind (lD X.prog X.w)) a b hd) (kC O,k,xs,HK j.hok N,dd,h _ _ (j.tok _) ?_);rw[l];show (F.val k).getD rfl
theorem rM {Q:Value->Shared->Prop} (U:A.units+1 < cLine) (j:LC X pins σ H s) (g:tE H a y o) (L:SC y u) (J:SC d r) (h:∀N s',LC X pins σ H s'->SC (o.getD d) N->Q N s'):
  wpAny (model X.prog X.w) A (call (.builtin "dict.get") [.ref a,u,r]) Q E s:=by
 let(kvs,k,e,D,l)||(kvs,k,b,e,D,O,l):=g
 .subst D;let(V,hd,vs,F,dd):=mI j.hok e;show call_meetsIn PySem.F.slot_dict_get dd.typeIs PySem.F.entry_dict_get (PySem.F.args_dict_get_3 _ _ _) (meets_dict_get_default (lD X.prog X.w) a (WJ L) hd r) (_,dd.mapOf,h _ _ (j.tok _) ?_);rw[l];show (F.val k).getD J
 .subst D;cases (show u=Value.ref b from L);let(V,hd,xs,F,dd):=XJ j.hok e;show call_meetsIn PySem.F.slot_dict_get dd.typeIs PySem.F.entry_dict_get (PySem.F.args_dict_get_3 _ _ _) (meetsH_dict_get_default (tupleKind (lD X.prog X.w)) a b hd r) (kC U,k,xs,HK j.hok O,dd,h _ _ (j.tok _) ?_);rw[l];show (F.val k).getD J
end
def QI (td ty:TE):TE:=λσ H Q=>td σ H λx H1=>∃a,x=.ref a/\pM H1 a/\ty σ H1 λy H2=>∃o,tE H2 a y o/\Q (o.getD .non) H2
def YG (td ty tx:TE):TE:=λσ H Q=>td σ H λx H1=>∃a,x=.ref a/\pM H1 a/\ty σ H1 λy H2=>tx σ H2 λz H3=>∃o,tE H3 a y o/\Q (o.getD z) H3
def NF (td ty:TE):TE:=λσ H Q=>td σ H λx H1=>∃a,x=.ref a/\pM H1 a/\ty σ H1 λy H2=>∃kvs k v,H2 a>(.dK kvs)/\y=kV k/\KC kvs k>v/\Q v (JC H2 a (.dK (dD kvs k)))
section
variable {X:Cx} {o e f:Expr} {apos cpos:Pos} {td ty tx:TE}
theorem jk (W:X.A.units+1 < cLine) (ho:PE X o td) (V:PE X e ty) (m:M1 X o "get" apos e cpos):PE X (.Call (.Attribute o "get" apos) [e] [] cpos) (QI td ty):=by
 intro D s F H Q N h;show wpAny_Call_method m.base m.few m.line PySem.F.plainAttrs_dict PySem.F.slot_dict_get PySem.F.type_dict_get (wD (ho D s F H _ N h) λu a3 a5=>?_);let(x,J,j,a1,a,ex,d,Y):=a5;subst ex;obtain rfl:u=Value.ref a:=a1;let(a4,t2,_):=QP j d;show(a4,t2,?_);rw[m.trees];show OB rfl (lC (AC (wD (V D a3 F J _ j Y) λa6 ab ⟨y,L,O,a2,a9,g,Z⟩=>Calls.spliced_nil ?_)));show qM W O g a2 λad ac U a0=>(_,L,U,a0,Z)
theorem ZR (a0:X.A.units+1 < cLine) (ho:PE X o td) (Y:PE X e ty) (Z:PE X f tx) (m:M2 X o "get" apos e f cpos):PE X (.Call (.Attribute o "get" apos) [e,f] [] cpos) (YG td ty tx):=by
 intro j s D H Q O h;show wpAny_Call_method m.base m.few m.line PySem.F.plainAttrs_dict PySem.F.slot_dict_get PySem.F.type_dict_get (wD (ho j s D H _ O h) λu ab ah=>?_);let(x,J,F,a5,a,ex,d,a1):=ah;subst ex;obtain rfl:u=Value.ref a:=a5;let(ad,t2,_):=QP F d;show(ad,t2,?_);rw[m.trees];show OB rfl (lC (AC (wD (Y j ab D J _ F a1) λam ac ⟨y,L,U,a6,a2⟩=>
  AC (wD (Z j ac D L _ U a2) λal b1 ⟨b4,N,V,a9,b0,g,a3⟩=>Calls.spliced_nil ?_))))
 show rM a0 V g a6 a9 λb3 b2 W a4=>(_,N,W,a4,a3)
theorem sM (ho:PE X o td) (W:PE X e ty) (m:M1 X o "pop" apos e cpos):PE X (.Call (.Attribute o "pop" apos) [e] [] cpos) (NF td ty):=by
 intro D s F H Q L h;show wpAny_Call_method m.base m.few m.line PySem.F.plainAttrs_dict PySem.F.slot_dict_pop PySem.F.type_dict_pop (wD (ho D s F H _ L h) λu a3 a5=>?_);let(x,J,j,a1,a,ex,d,Y):=a5;subst ex;obtain rfl:u=Value.ref a:=a1;let(a4,t2,_):=QP j d;show(a4,t2,?_);rw[m.trees];show OB rfl (lC (AC (wD (W D a3 F J _ j Y) λa9 ab ⟨y,a6,N,a2,kvs,k,v,U,V,l,Z⟩=>Calls.spliced_nil ?_)));subst V;show LP N U a2 l (.inl rfl) λad ac O a0=>(v,_,O,a0,Z)
end
section
variable {X:Cx} {pins:!(Addr×Obj)} {σ:St} {H:Hp} {s:Shared} {a:Addr} {kvs:!(Key×V)} {A:Around} {E:Value->Shared->Prop}
theorem qk {Q:Value->Shared->Prop} (j:LC X pins σ H s) (e:Rd H a (.dK kvs)) (h:∀p s',H p=none->LC X pins σ (JC H p (.dK kvs)) s'->Q (.ref p) s'):wpAny (model X.prog X.w) A (call (.type "dict") [.ref a]) Q E s:=by
 let(J,hd,vs,F,dd):=mI j.hok e;show kt_call_dict hd dd (by rw[<-F.length];show J) λh' L N=>?_;show h _ _ (j.hok.fresh (vA _)) (j.laid (a:=s.heap.objs.size) (o:=.dK kvs) (t':=s.toks) (λb q D=>?_) (vA _) (YR J (fC.mpr (Ne.symm (XA j.big))) F L));show (N.2 b (XA (FA D))).trans (AA _ D)
end
section
variable {X:Cx} {pins:!(Addr×Obj)} {σ:St} {H:Hp} {s:Shared} {a:Addr} {y:V} {u:Value} {A:Around} {E:Value->Shared->Prop}
end
end L2
namespace Att
open PySem PySem.W PySem.Calls PyProof.Rows
theorem sk {P:Params} {h:Heap}:∀(ns:!Int) (vs:!Value),WellAll P h vs (ns.map WData.int)->IntsAre vs ns:=by
 intro ns
 induction ns with
 |nil=>
  intro vs w;rw[EB] at w;cases w;show .nil
 |cons n ns j=>
  intro vs w;rw[rA] at w;cases w with
  |cons a b=>
   cases a;show .cons _ _ (j _ b)
theorem uk {l:OpenLaw} {n:Nat} (V:l.most>n) {P:Params} {h:Heap} {args:!WData} {L:!Value}
  (J:l.row.toRowW.claim.pre args=true) (Y:WellAll P h L args):
  ∃a vs ns,L=[Value.ref a]/\args=[WData.list (ns.map WData.int)]/\h.get? a>{cls:=.type "list",data:=.seq vs.toArray}/\IntsAre vs ns/\ns.length<=n:=by
 let W:WShape.hasAll [] args [.list .int]=true:=(pre_splitW J).1;let F:l.pre.holds [] {args:=args}=true:=(pre_splitW J).2;let(d,r,rfl,h1,h2):=hasAllW_cons W;obtain rfl:=hasAllW_nil h2;let(xs,rfl,N):=hasW_list h1;let(ns,rfl):=items_int N;let U:ns.length<=n:=by
  unfold OpenLaw.pre at F;let j:(WTm.not (.lt (.lit (.int (n:Int))) (.len (.arg 0)))).holds [] {args:=[.list (ns.map .int)]}=true:=by
   let j:=(holds_andW F).1;rw[V] at j;show j
  let D:=condW_of j (w_not (w_lt w_lit (w_len_list (w_arg rfl))));rw[dA] at D;show Nat.le_of_not_lt λq=>?_;let Z:(n:Int) < ((ns.length:Nat):Int):=⋯
  first
   |(rw[qA Z] at D;show absurd D (by decide))
   |(simp at D;omega)
 cases Y with
 |cons a0 a1=>
  cases a1;cases a0 with
  |list ho O=>show(_,_,ns,rfl,rfl,ho,sk ns _ O,U)
theorem wk (l:OpenLaw) (args:!WData):l.row.toRowW.claim.post args (.bool true) args=true:=
 postW_of (r:=l.row.toRowW) (X:=(true == true))
  (show WShape.has [] (.bool true) .bool=true by first|rfl|decide|simp[WShape.has,WShape.arms,WShape.armsAll])
  (show (WTm.eq .res (.lit (.bool true))).value [] {args:=args,res:=some (.bool true),after:=args}>(.bool (true == true)) from w_eq_bool (w_res rfl) w_lit) rfl
theorem xk {l:OpenLaw} {n:Nat} {q:Program} {loose:!Str} {XP:(Str->Option Value)->Heap->Prop} {YP:World->Heap->Prop} {d:DefRec}
  (a9:l.most>n) (a1:d.params.defaults=[])
  (call:∀(w:World) (N j:Shared) (mg L:Str->Option Value) (D:Addr) (o:Obj) (pm F J:Value) (a:Addr) (vs:!Value) (ns:!Int),
   Ground q loose [] XP w N mg L j.heap->YP w j.heap->
   j.heap.get? D>o->o.data=.func (docDef d.name d.params d.body d.scope pm F J)->j.heap.CodeRec F d.name->mg d.name=↑D->
   j.heap.get? a>{cls:=.type "list",data:=.seq vs.toArray}->IntsAre vs ns->ns.length<=n->j.gens= #[]->
   codeAny (model l.prog w) callerA (.call (.ref D) ⟨[.ref a],[]⟩) (λr s'=>r=.ok (.ret (.bool true))/\OldK j.heap s'.heap/\s'.os=j.os/\AllBare s'.gens) j):
  WalkO q loose XP YP l.row.toRowW d [] (λf vs=>PySem.call f vs):=by
 intro w N j mg L U V D o pm F J W kV ho hd a0 O a6 a2 args b1 as ac al b0 ah am;obtain rfl:W=.none:=Dflts.none O a1;obtain rfl:kV=.none:=Dflts.noKw O;let(a,vs,ns,rfl,rfl,ab,a3,a4):=uk a9 ac ah;show enter_call (codeAny_mono (call w N j mg L D o pm F J a vs ns U V ho (fd_plain hd) a0 a6 ab a3 a4 a2) λr s' ad=>?_);let(rfl,h2,Y,Z):=ad;show(.inl (.bool true,.bool true,[],rfl,λο=>rfl,.bool true,wk l _,λο=>⟨List.Pairwise.nil,λο a5=>(nomatch a5)⟩),h2,Y,Z)
section
variable {prog:Program} {w:World} {A:Around} {E:Value->Shared->Prop} {s:Shared} {K:Frag}
def ledger (h:Heap) (L d:Addr):!(Addr×Obj):=(List.range h.objs.size).filterMap λa=>if a=L\/a=d then none else (h.get? a).map λo=>(a,o)
end
end Att
namespace L2
open PySem PySem.Spec PyProof.Rows
theorem Pa:∀{vs:!Value} {ns:!Int},IntsAre vs ns->VC (ns.map V.int) vs
 |_,_,.nil=>.nil
 |_,_,.cons n t h=>.cons ⟨t,rfl⟩ (Pa h)
def tM (H:Hp):Prop:=∀b,H b=none\/∃o xs,H b>(.frz o (.lst xs))
theorem yk {P:Program} {w:World} {K:PySem.W.Frag} {mg W:Str->Option Value} {CX:CXT} {k:Nat} {U a:Addr} {a2:FuncData} {x:Str} {sp:Sp} {j:Shared} {vs:!Value} {ns:!Int}
  (Y:K.In j.heap) (a9:j.heap.Ns mainGlobals mg) (F:j.heap.Ns builtinsNs W) (b5:∀x:Str,x≠"__name__"->W x=bootBuiltins x) (bc:j.heap.NoLimit) (bb:j.gens= #[])
  (L:j.heap.get? a>{cls:=.type "list",data:=.seq vs.toArray}) (hi:IntsAre vs ns) (a6:ns.length<=sizeLine) (be:cE k callerA)
  (ad:∀base:Heap,K.In base->base.Ns mainGlobals mg->qF P w K mg base CX k U a2 [x] sp) (b9:∀(s:Shared) (u:Value),BindsTo s a2 ⟨[u],[]⟩ [(x,u)])
  (bh:∀H:Hp,tM H->BD K H a (ns.map V.int)->sp [.ref a] H (λv ο=>v=.bl true) λο ο ο=>False)
  (b1:∀H e s',CX [] H j (λο ο ο=>False) e s'->False):
  codeAny (model P w) callerA (.call (.ref U) ⟨[.ref a],[]⟩) (λr s'=>r=.ok (.ret (.bool true))/\OldK j.heap s'.heap/\s'.os=j.os/\AllBare s'.gens) j:=by
 let ac:=Pa hi;let bl:=hi.length;let a0:∀H:Hp,tM H->BD K H a (ns.map V.int)->YE P w H j.heap->(∀b,H b≠none->b=a)->(H a≠none->K.lookup a=none)->
   codeAny (model P w) callerA (.call (.ref U) ⟨[.ref a],[]⟩) (λr s'=>r=.ok (.ret (.bool true))/\OldK j.heap s'.heap/\s'.os=j.os/\AllBare s'.gens) j:=by
  intro H a5 b4 ab a3 b2;let Z:∀{b:Addr} {o:Obj},j.heap.get? b>o->H b=none->(SG j.heap H).get? b>o:=λe n=>Ui e n;let bm:∀{b:Addr} {o:Obj} {es:Array DictEntry} {ep:Nat},j.heap.get? b>o->o.data=.dict es ep->H b=none:=λ{b o es ep} e d=>by
   cases q:H b with
   |none=>rfl
   |some u=>
    let O:b=a:=a3 b (by rw[q];simp);subst O;rw[L] at e;cases e;let d':Data.seq vs.toArray _=Data.dict es ep:=d;cases d'
  let N:∀{b:Addr} {m:Str->Option Value},j.heap.Ns b m->(SG j.heap H).Ns b m:=λ{b m} ⟨o,es,ep,e,d,r⟩=>(o,es,ep,Z e (bm e d),d,r)
  let a4:K.In (SG j.heap H):=λb o e=>Z (Y b o e) (by
   cases q:H b with
   |none=>rfl
   |some u=>
    let O:b=a:=a3 b (by rw[q];simp);subst O;rw[b2 (by rw[q];simp)] at e;cases e)
  let b3:Mod K mg (SG j.heap H):=(a4,N a9,(W,N F,b5),let ⟨mc,h1,h2⟩:=bc;(mc,N h1,h2))
  let al:FH P w K mg (SG j.heap H) callerA [] j H:=(rfl,b3,λb o e=>Vi e,Nat.le_of_eq (Ti _ _),trivial,λb F=>absurd (show b∈([]:!Addr) from F) (by simp),ab,.of_eq bb)
  show codeAny_mono ((ad _ a4 (N a9)).run callerA [] j H ⟨[.ref a],[]⟩ [.ref a] [.ref a] _ _ be al (b9 j (.ref a)) (.cons rfl .nil) (bh H a5 b4)) λr s' h=>?_;cases r with
  |error e=>show (b1 H e s' h).elim
  |ok b0=>
   cases b0 with
   |next=>show False.elim h
   |brk=>show False.elim h
   |cont=>show False.elim h
   |ret u=>
    let(v,H',bo,ah,un,bd,c0,q):=h;let bt:v=.bl true:=q;subst bt;obtain rfl:u=Value.bool true:=c0;show(rfl,OldK.of_keep λb o e=>?_,bo,ah);cases q:H b with
    |none=>show un.keep b o e q (by intro D;show absurd (show b∈([]:!Addr) from D) (by simp)) (by simp)
    |some u=>
     let D||(bn,xs,D):=a5 b
     .rw[q] at D;cases D
     .let z2:=un.frzs b bn _ D;let(a1,_):=ab b _ D;let(am,_):=bd b _ z2;rw[e] at a1;cases a1;show am
 cases hk:K.lookup a with
 |some o=>
  let e:=Y a o hk;rw[L] at e;cases e;show a0 (λο=>none) (λο=>.inl rfl) (.inr (_,vs.toArray,_,hk,rfl,rfl,rfl,by rw[LA,bl];show a6,by simpa using ac)) (λb u D=>by let J:(none:Option HO)>u:=D;cases J) (λb D=>absurd rfl D) λD=>absurd rfl D
 |none=>
  show a0 (λb=>if b=a then some (.frz {cls:=.type "list",data:=.seq vs.toArray} (.lst (ns.map V.int))) else none) (λb=>?_) (.inl (.inr ⟨{cls:=.type "list",data:=.seq vs.toArray},iA rfl⟩)) (λb u D=>?_) (λb D=>?_) λο=>hk
  .by_cases F:b=a
   .show .inr (_,_,iA F)
   .show .inl (gA F)
  .by_cases F:b=a
   .let J:=(iA F).symm.trans D;cases J;subst F;show(L,by rw[dA];show a6,vs,_,ac,L)
   .let J:=(gA F).symm.trans D;cases J
  .by_cases F:b=a
   .show F
   .show absurd (gA F) D
theorem zk {l:PySem.W.OpenLaw} {n k:Nat} {q:Program} {loose:!Str} {XP:(Str->Option Value)->Heap->Prop} {YP:World->Heap->Prop} {d:DefRec} {K:Params->PySem.W.Frag} {CX:World->CXT} {sp:World->Sp} {x:Str}
  (a6:l.most>n) (a9:n<=sizeLine) (a2:d.params.defaults=[]) (ac:cE k callerA)
  (a0:∀(w:World) (h:Heap),YP w h->(K w.params).In h)
  (N:∀(w:World) (mg:Str->Option Value) (D:Addr) (h:Heap),(K w.params).In h->h.Ns mainGlobals mg->mg d.name=↑D->
   ∃F:FuncData,(∀(s:Shared) (u:Value),BindsTo s F ⟨[u],[]⟩ [(x,u)])/\
    ∀base:Heap,(K w.params).In base->base.Ns mainGlobals mg->qF l.prog w (K w.params) mg base (CX w) k D F [x] (sp w))
  (ad:∀(w:World) (H:Hp) (a:Addr) (ns:!Int),ns.length<=n->tM H->BD (K w.params) H a (ns.map V.int)->sp w [.ref a] H (λv ο=>v=.bl true) λο ο ο=>False)
  (U:∀(w:World) (H:Hp) (s:Shared) (e:Value) (s':Shared),CX w [] H s (λο ο ο=>False) e s'->False):
  PySem.W.WalkO q loose XP YP l.row.toRowW d [] (λf vs=>PySem.call f vs):=by
 show Att.xk a6 a2 λw b2 ah mg b1 D o pm al am a vs ns j O ho hd b0 a5 ab a4 L a3=>?_;let J:=a0 w _ O;let(F,a1,W):=N w mg D _ J j.T.g a5;show yk J j.T.g j.T.b j.T.builtins j.T.nolimit a3 ab a4 (FB L a9) ac W a1 (λH Y Z=>ad w H a ns L Y Z) λH e s'=>U w H ah e s'
abbrev Qa:CXT:=λο ο ο ο ο ο=>False
structure HH (K:PySem.W.Frag) (x qual:Str) (st:Stmt) (f:Addr) (fd:FuncData):Prop where
 ex:∃(oc:Value) (od:Option Addr) (kV doc pm:Value) (an:Option Addr) (cdv ct:Value) (osl:Array (Option Value)),
  fd=PySem.W.fnOf x qual (cD st) (aD st) (EC st) .none kV doc pm an cdv ct/\K.lookup f>(oc,od,.func fd,osl)/\PySem.W.codeIn K cdv qual=true
 kp:PySem.W.keepIn K (.ref f)=true
section
variable {P:Program} {w:World} {K:PySem.W.Frag} {mg:Str->Option Value} {base:Heap}
theorem HH.ok {x J:Str} {st:Stmt} {f:Addr} {L:FuncData} {N ps:!Str} {k:Nat} {sp:Sp} (O:HH K x J st f L) (S:HC N ps (EC st)) (len:∀vs H Q j,sp vs H Q j->vs.length=ps.length)
  (U:∀(D:Value) (A:Around) (F:!Env) (s:Shared) (H:Hp) (vs:!V) (Q:VK) (j:XK),cE k (A.deeper (envOfC J (EC st) s.heap.objs.size f D))->sp vs H Q j->
   ∃t,AG (AE Qa P w K mg base N J (EC st) f D A F s H j).nox (aD st) t/\t {nx:=λο H'=>Q .non H',rt:=Q} (oF N vs) H):qF P w K mg base Qa (k+1) f L ps sp:=by
 let(a4,a5,kV,a3,pm,a1,D,a2,a6,rfl,a0,W):=O.ex;show xT a0 W S len λA F s H vs Q j Y Z=>?_;let(t,h,q):=U D A F s H vs Q j Y Z;show(t,h.nox,q)
theorem HH.binds {x N:Str} {st:Stmt} {f:Addr} {L:FuncData} {ps:!Str} (O:HH K x N st f L)
  (h:∀(kV J pm:Value) (j:Option Addr) (D F:Value) (us:!Value),us.length=ps.length->bindArgs (PySem.W.fnOf x N (cD st) (aD st) (EC st) .none kV J pm j D F) ⟨us,[]⟩=pure (ps.zip us)):zE K L ps []:=by
 let(W,Y,kV,J,pm,j,D,F,Z,rfl,V,U):=O.ex;show .all (h kV J pm j D F)
theorem DT {x D:Str} {st:Stmt} {f:Addr} {N:Value} {O F:Option Addr} {U:Array (Option Value)} {kV L pm j J:Value} (l:K.lookup f>(N,O,.func (PySem.W.fnOf x D (cD st) (aD st) (EC st) .none kV L pm F j J),U))
 (c:PySem.W.codeIn K j D=true) (k:PySem.W.keepIn K (.ref f)=true):HH K x D st f (PySem.W.fnOf x D (cD st) (aD st) (EC st) .none kV L pm F j J):=⟨(N,O,kV,L,pm,F,j,J,U,rfl,l,c),k⟩
end
theorem KD {A:Around} {k:Nat} (j:cE k A):A.units+1 < cLine:=Nat.lt_of_le_of_lt (Nat.add_le_add_left (by decide:1<=64) _) j.units
section
variable {X:Cx}
theorem pv (i:Nat) {x:Str} {pos:Pos} (j:X.N[i]?>x:=by rfl) (F:MR X.env.scope x:=by first|exact Or.inl rfl|exact Or.inr (Or.inl rfl)|exact Or.inr (Or.inr rfl)) (hd:(x == ("__debug__":Str))=false:=by decide)
 (D:(x == ("__classdict__":Str))=false:=by decide):PE X (.Name x pos) (OJ i):=U8 j F hd D
theorem RP:eE X (.builtin "len") (λxs H Q=>∃a kvs,xs=[V.ref a]/\H a>(.dK kvs)/\Q (.int kvs.length) H):=by
 intro L s N H xs us Q j r h;let(a,kvs,rfl,F,q):=h;let(u,rfl,J):=GE r;cases J;show MP j (.inl F) λt s' D=>(.int kvs.length,H,D,⟨t,rfl⟩,q)
end
theorem ND {A B:Prop} (h:B):if false=true then A else B:=by
 rw[gA zA];show h
theorem WD {A B:Prop} (h:A):if true=true then A else B:=by
 rw[iA rfl];show h
theorem rH {c A B:Prop} [Decidable c] (h1:c->A) (h2:¬c->B):if c then A else B:=by
 by_cases h:c
 .rw[iA h];show h1 h
 .rw[gA h];show h2 h
def OC (H H':Hp):Prop:=∀b o,H b>o->H' b>o
theorem OC.trans {H j D:Hp} (a:OC H j) (b:OC j D):OC H D:=λc o h=>b c o (a c o h)
theorem OC.free {H H':Hp} (e:OC H H') {l:Addr} (h:H' l=Option.none):H l=Option.none:=by
 cases q:H l with
 |none=>rfl
 |some o=>
  rw[e l o q] at h;cases h
theorem OC.seq {K:PySem.W.Frag} {H H':Hp} {a:Addr} {xs:!V} (e:OC H H') (h:BD K H a xs):BD K H' a xs:=by
 rcases h with (h|⟨o,h⟩)|h
 .show .inl (.inl (e _ _ h))
 .show .inl (.inr ⟨o,e _ _ h⟩)
 .show .inr h
section
variable {κ:Type} [DecidableEq κ]
theorem Ra {kvs:!(κ×V)} {k:κ} (h:KC kvs k=none):¬k∈kvs.map (·.1):=by
 intro m;let(p,j,e):=aA.mp m;let q:(kvs.any λkv=>decide (kv.1=k))=true:=List.any_eq_true.mpr (p,j,qA e);rw[BJ,h] at q;show absurd q (by simp)
theorem ET {kvs:!(κ×V)} {k:κ} {v:V} (h:KC kvs k>v):k∈kvs.map (·.1):=by
 let q:(kvs.any λkv=>decide (kv.1=k))=true:=by
  rw[BJ,h]
  all_goals rfl
 let(p,j,e):=List.any_eq_true.mp q;show aA.mpr (p,j,VA e)
end
end L2
set_option maxHeartbeats 4000000
namespace L2
open PySem PySem.Spec PyProof.Rows
section
variable {M:Model} {A:Around} {E:Value->Shared->Prop} {s:Shared}
def ZG (e:Addr) (h:Heap):Prop:=∃o vs,h.get? e>o/\o.data=.fields vs/\vs[2]?>.none
theorem RI {B:Heap} {env:Env} {O:!Env} {L e:Addr} {F:Obj} {vs:Array Value} {N a0:Value} {nx:Bool} {Q:Unit->Shared->Prop}
  (fr:A.frames>(env::O)) (J:s.heap.FunFrames B (env::O)) (a9:env.frame>L) (V:s.heap.get? e>F) (st:B.StaysIn s.heap) (ah:B.get? e=none) (dd:F.data=.fields vs) (sz:1 < vs.size) (b0:vs[0]?>a0) (b1:vs[2]?>.none)
  (q:∀h',Heap.NotedW B (env::O) e F.cls a0 (rawInt L) s.heap h'->ZG e h'->Q ⟨⟩ {s with heap:=h'}):
  wpAny M A (do let a<-frameOf env;let pl<-entryPlaceOf L nx;let b<-EntryCells.newEntry N a .none (rawInt L) .none pl;setField (.ref e) 1 b) Q E s:=by
 let al:e∉(env::O).filterMap (·.frame):=λm=>by
  let(_,o,go,D):=J.mem m;rw[V] at go;cases go;show D vs dd
 show fA (wpAny_frameOf_fun fr J a9 λk1 z1=>fA (wpAny_entryPlaceOf λpl b2=>?_));unfold EntryCells.newEntry newFields;show fA (wpAny_newObj_type ?_ (b2.sizeOk5 _ _ _ _ _));let a1:k1.get? e>F:=(z1.2.1 e al).trans V;let a6:B.StaysIn k1:=λb o j=>(z1.2.1 b λm=>by rw[(J.mem m).1] at j;cases j).trans (st b o j);generalize ho:({cls:=.type "traceback",dict:=none,data:=.fields ([N,.ref L,.none,rawInt L,.none]++(if pl.isEmpty then List.replicate 6 Value.none else pl)).toArray}:Obj)=nT;let a4:nT.data=.fields ([N,.ref L,.none,rawInt L,.none]++(if pl.isEmpty then List.replicate 6 Value.none else pl)).toArray:=by rw[<-ho]
 let ad:nT.isFreed=false:=Obj.isFreed_of_fields a4;let a2:(k1.push nT).get? e>F:=AA nT a1;let ab:(k1.push nT).get? k1.objs.size>nT:=MA k1 ad;show wpAny_setField a2 dd sz ?_;let Z:k1.objs.size≠e:=Nat.ne_of_gt (FA a1);let U:=Obj.data_mapFields dd (·.setIfInBounds 1 (Value.ref k1.objs.size));let a3:=UB (Obj.mapFields (·.setIfInBounds 1 (Value.ref k1.objs.size))) a2 (Obj.isFreed_of_fields U);let ac:=(fB (k1.push nT) (Obj.mapFields (·.setIfInBounds 1 (Value.ref k1.objs.size))) (Ne.symm Z)).trans ab;let kp:∀b o,b≠e->k1.get? b>o->((k1.push nT).update e (Obj.mapFields (·.setIfInBounds 1 (Value.ref k1.objs.size)))).get? b>o:=λb o n g=>by
  rw[fB _ _ (Ne.symm n)];show AA _ g
 let a5:∀b o,s.heap.get? b>o->(∀vs,o.data≠.fields vs)->b≠e:=λb o g D Y=>by
  rw[Y,V] at g;cases g;show D vs dd
 let am:([N,.ref L,.none,rawInt L,.none]++(if pl.isEmpty then List.replicate 6 Value.none else pl)).toArray[3]?>(rawInt L):=by simp
 show q _ (λb o j=>kp b o (λY=>by rw[Y,ah] at j;cases j) (a6 b o j),J.of_keeps λb o g D=>?_,(_,_,k1.objs.size,nT,_,a3,⟨Obj.cls_mapFields _ _,?_⟩,U,?_,a6.fresh,Z,ac,a4,am),λb o g D=>?_) (_,_,a3,U,?_)
 .let(sl,W):=z1.2.2 b o g;show(_,kp b _ (a5 b o g D) W,rfl)
 .rw[Array.getElem?_setIfInBounds_ne (by decide)];show b0
 .simp[sz]
 .let(sl,W):=z1.2.2 b o g;show⟨sl,kp b _ (a5 b o g D) W⟩
 .rw[Array.getElem?_setIfInBounds_ne (by decide)];show b1
theorem aH {B:Heap} {l:!Env} {e:Addr} {cls a0 a3:Value} {Q:Unit->Shared->Prop} (st:B.StaysIn s.heap) (a2:s.heap.FunFrames B l) (ac:s.heap.TracedAtW B e cls a0 a3) (a5:ZG e s.heap) (a6:B.get? e=none)
  (q:∀h',Heap.FlyingW B l e cls a0 h'->s.heap.UpToSlots h'->ZG e h'->Q ⟨⟩ {s with heap:=h'}):wpAny M A (setFlight (.ref e) none) Q E s:=by
 let(a9,vs,T,ah,Z,U,a4,dd,a1,V,J,L,F,ab):=ac;let Y:3 < Z.size:=(Array.getElem?_eq_some_iff.mp ab).1;unfold setFlight;show fA (wpAny_field U dd a1 ?_);rw[iA (show (Value.ref T != Value.none)=true by simp)];let D:∀b,b≠T->(s.heap.update T (Obj.mapFields (·.setIfInBounds 3 ((none:Option Addr).elim Value.none λf=>rawInt f)))).get? b=s.heap.get? b:=λb n=>fB _ _ (Ne.symm n);let W:∀b o,s.heap.get? b>o->(∀vs,o.data≠.fields vs)->b≠T:=λb o g j O=>by
  rw[O,L] at g;cases g;show j Z F
 show wpAny_setField L F Y (q _ (λb o N=>(D b λO=>by rw[O,V] at N;cases N).trans (st b o N),a6,a2.of_keeps λb o g j=>(o,(D b (W b o g j)).trans g,rfl),?_) (λb o g j=>⟨o.slots,(D b (W b o g j)).trans g⟩) ?_)
 .show(a9,vs,T,_,_,(D e (Ne.symm J)).trans U,a4,dd,a1,V,J,UB _ L (Obj.isFreed_of_fields (Obj.data_mapFields F _)),Obj.data_mapFields F _,by simp[Y])
 .let(o,ad,g,d,v):=a5;show(o,ad,(D e (Ne.symm J)).trans g,d,v)
theorem SI {B:Heap} {env:Env} {U:!Env} {L e:Addr} {cls a0:Value} {Q:Unit->Shared->Prop} (fr:A.frames>(env::U)) (W:env.frame>L) (a5:Heap.FlyingW B (env::U) e cls a0 s.heap) (ab:ZG e s.heap)
  (q:∀h',Heap.HeldW B (env::U) e cls a0 L h'->s.heap.UpToSlots h'->ZG e h'->Q ⟨⟩ {s with heap:=h'}):wpAny M A (noteFrame (.ref e) env) Q E s:=by
 let(st,Y,a4,b5,vs,T,b4,ad,N,(a6,ah),dd,a2,a9,a3,J,F,a1):=a5;let(b3,b9,g',d',al):=ab;rw[N] at g';cases g';rw[dd] at d';cases d';subst a6;unfold noteFrame;simp only[W];show fA (wpAny_field N dd a2 ?_);rw[iA (show (Value.ref T != Value.none)=true by simp)];show fA (wpAny_field J F a1 ?_);rw[gA (show ¬((Value.none == rawInt L)=true) by simp[rawInt])];show fA (wpAny_setField J F (Array.getElem?_eq_some_iff.mp a1).1 ?_);let D:∀b,b≠T->(s.heap.update T (Obj.mapFields (·.setIfInBounds 3 Value.none))).get? b=s.heap.get? b:=λb n=>fB _ _ (Ne.symm n);let Z:∀b o,s.heap.get? b>o->(∀vs,o.data≠.fields vs)->b≠T:=λb o g j V=>by
  rw[V,J] at g;cases g;show j ad F
 show RI fr (a4.of_keeps λb o g j=>(o,(D b (Z b o g j)).trans g,rfl)) W ((D e (Ne.symm a3)).trans N) (λb o O=>(D b λV=>by rw[V,a9] at O;cases O).trans (st b o O)) Y dd (Array.getElem?_eq_some_iff.mp a2).1 ah al λh' ⟨am,b0,b1,b2⟩ ac=>?_;show q h' (am,Y,b0,b1) (λb o g j=>b2 b o ((D b (Z b o g j)).trans g) j) ac
theorem YJ {B:Heap} {env:Env} {j:!Env} {L e:Addr} {cls a0:Value} {Q:Unit->Shared->Prop} (fr:A.frames>(env::j)) (D:env.frame>L) (U:Heap.FlyingW B (env::j) e cls a0 s.heap) (Z:ZG e s.heap)
  (q:∀h',Heap.FlyingW B j e cls a0 h'->s.heap.UpToSlots h'->ZG e h'->Q ⟨⟩ {s with heap:=h'}):wpAny M A (leaving env (.ref e)) Q E s:=by
 unfold leaving;show fA (SI fr D U Z λk ⟨h1,h2,V,W⟩ up nk=>?_);show aH (s:={s with heap:=k}) h1 V W nk h2 λY ⟨F,J,⟨_,_,N⟩,O⟩ a2 a1=>?_;show q Y (F,J,N,O) (up.trans a2) a1
theorem sH {B h:Heap} {env:Env} {D:!Env} {L e:Addr} {cls:Value} {args:!Value} {Q:Unit->Shared->Prop} (fr:A.frames>(env::D)) (F:env.frame>L) (st:B.StaysIn h) (Y:h.FunFrames B (env::D)) (mk:Heap.MadeExcOf h s.heap e cls args)
  (q:∀h' t,Heap.FlyingW B D e cls (.ref t) h'->s.heap.UpToSlots h'->ZG e h'->Q ⟨⟩ {s with heap:=h'}):wpAny M A (leaving env (.ref e)) Q E s:=by
 let(t,J,_,_):=mk.there;let N:∀b,h.get? b=none->B.get? b=none:=λb j=>by
  cases ab:B.get? b with
  |none=>rfl
  |some o=>have:=st b o ab;rw[j] at this;cases this
 unfold leaving noteFrame;simp only[F];show fA (fA (wpAny_field J rfl (x:=.none) rfl ?_));rw[gA (by decide)];show RI fr (Y.of_keeps λb o j ο=>(o,mk.keeps b o j,rfl)) F J (λb o j=>mk.keeps b o (st b o j)) (N e mk.new) rfl (by simp) (a0:=.ref t) rfl rfl λk ⟨a4,a5,a6,a9⟩ nk=>?_;show aH (s:={s with heap:=k}) a4 a5 a6 nk (N e mk.new) λZ ⟨O,U,⟨_,_,V⟩,W⟩ a3 a2=>?_;show q Z t (O,U,V,W) (Heap.UpToSlots.trans (λb o g a1=>a9 b o g a1) a3) a2
end
structure aS (B:Heap) (l:!Env) (h:Heap) (H H':Hp) (h':Heap) (ea:Addr) (cls:Value):Prop where
 fl:∃a0,Heap.FlyingW B l ea cls a0 h'
 trk:∀b u,H' b>u->∃o,B.get? b>o
 kept:∀b o,h.get? b>o->H b=none->b∉xE l->B.get? b>o
 alive:∀b o,h.get? b>o->b∉xE l->∃o',B.get? b>o'
 nc:ZG ea h'
def tH (P:Program) (w:World):CXT:=λouter H s E e s'=>∃ea cls H' B,e=.ref ea/\s'.os=s.os/\AllBare s'.gens/\Un (xE outer) [] H H' s.heap s'.heap/\YE P w H' s'.heap/\aS B outer s.heap H H' s'.heap ea cls/\E cls none H'
abbrev XKs:=Value->St->Hp->Prop
def XW (X:Cx) (K:XKs):Prop:=∀(pins:!(Addr×Obj)) (σ:St) (H:Hp) (s s':Shared) (ea:Addr) (cls:Value) (H':Hp) (B:Heap),LC X pins σ H s->s'.os=s.os->AllBare s'.gens->
 Un (xE X.stack) [] H H' s.heap s'.heap->YE X.prog X.w H' s'.heap->aS B X.stack s.heap H H' s'.heap ea cls->K cls σ H'->X.xe (.ref ea) s'
theorem Sa {env:Env} {l:!Env} {L:Addr} (h:env.frame>L):xE (env::l)=L::xE l:=by
 unfold xE;rw[qC,h]
theorem YE.flown {P:Program} {w:World} {H:Hp} {B h h':Heap} (x:YE P w H h) (t:∀b u,H b>u->∃o,B.get? b>o) (s:B.StaysIn h) (s':B.StaysIn h'):YE P w H h':=λa o e=>
 (x a o e).stay (λb u j q=>by
  let F:∃o,B.get? b>o:=by
   let rfl||j:=j
   .show t _ _ e
   .show t _ _ j
  let(J,ho):=F;let D:=s b J ho;rw[q] at D;cases D;show s' b _ ho) (λο q=>q) λο ο q=>q
theorem qD {P:Program} {w:World} {K:PySem.W.Frag} {mg:Str->Option Value} {base:Heap} {N:!Str} {O:Str} {scope:Scope} {f:Addr} {L:Value} {A:Around} {J:!Env} {F:Shared} {a2:Hp} {a1:XK}:
  XW (AE (tH P w) P w K mg base N O scope f L A J F a2 a1) (λc ο H'=>a1 c none H'):=by
 intro bd be H s s' ab cls H' B Y bb a9 un am W b3;let U:=Y.call' (s':=s') (ch:=[]) bb un am a9 (λb j=>absurd j (by simp));let ad:=Y.ok.frames;let b5:(AE (tH P w) P w K mg base N O scope f L A J F a2 a1).stack=envOfC O scope F.heap.objs.size f L::J:=rfl;rw[b5] at ad;let(a0,a5):=W.fl;let ac:(envOfC O scope F.heap.objs.size f L).frame>F.heap.objs.size:=rfl;change wpAny _ _ (leaving (envOfC O scope F.heap.objs.size f L) (.ref ab)) _ _ s';show YJ ad ac a5 W.nc λh' a3 up b9=>?_;let ah:xE (envOfC O scope F.heap.objs.size f L::J)=F.heap.objs.size::xE J:=Sa ac;let b0:∀b o,F.heap.get? b>o->b∉xE J->b∉xE (envOfC O scope F.heap.objs.size f L::J):=λb o e n j=>by
  rw[ah] at j;let j||j:=pA.mp j
  .show absurd (FA e) (by rw[j];show vC _)
  .show n j
 let stay:∀b o,F.heap.get? b>o->a2 b=none->b∉xE J->B.get? b>o:=λb o e n D=>
  W.kept b o (Y.base.keep b o e n D (by intro j;show absurd j (by simp[AE]))) (Y.base.free b o e n (by intro j;show absurd j (by simp[AE]))) (b0 b o e D)
 let live:∀b o,F.heap.get? b>o->b∉xE J->∃b1,B.get? b>b1:=λb o e D=>by
  let(Z,V):=Y.base.there b o e (by intro j;show absurd j (by simp[AE]));show W.alive b Z V (b0 b o e D)
 show(ab,cls,H',B,rfl,U.os,a9,?_,am.flown W.trk a5.1 a3.1,(⟨a0,a3⟩,W.trk,stay,live,b9),b3);let a6:∀b:Addr,b∉(AE (tH P w) P w K mg base N O scope f L A J F a2 a1).ex:=λb j=>absurd j (by simp[AE]);let b2:∀b,b∈xE J->∀o,s'.heap.get? b>o->∃sl,h'.get? b>{o with slots:=sl}:=λb D o e=>by
  let b4:b∈xE (envOfC O scope F.heap.objs.size f L::J):=by rw[ah];show kA _ D
  let(_,b1,al,hd):=a5.2.2.1.mem b4;rw[e] at al;cases al;show up b o e hd
 show(λb o e n D ο=>a3.1 b o (stay b o e n D),λb o e n D ο=>?_,λb o e n ο=>U.base.free b o e n (a6 b),λb o e ο=>?_,U.base.tups,U.base.frzs,U.base.tbls)
 .let(sl,V):=U.base.slot b o e n D (a6 b);let(bc,a4):=b2 b D _ V;show⟨bc,a4⟩
 .by_cases D:b∈xE J
  .let(Z,V):=U.base.there b o e (a6 b);let(sl,a4):=b2 b D _ V;show⟨_,a4⟩
  .let(Z,V):=live b o e D;show⟨Z,a3.1 b Z V⟩
def qE (P:Program) (w:World) (K:PySem.W.Frag) (mg:Str->Option Value) (base:Heap) (x:Str) (k:Nat) (ps:!Str) (dvs:!V) (sp:Sp):Prop:=
 ∃f fd ds,mg x=↑f/\PySem.W.keepIn K (.ref f)=true/\zE K fd ps ds/\VC dvs ds/\qF P w K mg base (tH P w) k f fd ps sp
def YC (P:Program) (w:World) (K:PySem.W.Frag) (mg:Str->Option Value) (base:Heap) (C:Addr) (m:Str) (k:Nat) (ps:!Str) (dvs:!V) (sp:Sp):Prop:=
 ∃f fd ds,EH K C m f/\zE K fd ps ds/\VC dvs ds/\qF P w K mg base (tH P w) k f fd ps sp
def TF (P:Program) (w:World) (K:PySem.W.Frag) (mg:Str->Option Value) (base:Heap) (x:Str) (C:Addr) (k:Nat) (ps:!Str) (dvs:!V) (sp:Sp):Prop:=
 ∃f fd ds,mg x=↑C/\Mk K C f/\zE K fd ps ds/\VC dvs ds/\qF P w K mg base (tH P w) k f fd ps sp
def UI (Kx:XKs) (sp:Sp) (dvs:!V) (t:TA):TE:=λσ H Q=>t σ H λvs H1=>sp (vs++dvs) H1 Q (λc ο H'=>Kx c σ H')
def IH (Kx:XKs) (C:Addr) (m:Str) (sp:Sp) (dvs:!V) (ta:TE) (t:TA):TE:=λσ H Q=>ta σ H λx H1=>∃a dx fs,x=.ref a/\H1 a>(.ins C dx fs)/\fs.lookup m=none/\
 t σ H1 λvs H2=>sp (x::(vs++dvs)) H2 Q (λc ο H'=>Kx c σ H')
def JH (Kx:XKs) (C:Addr) (sp:Sp) (dvs:!V) (t:TA):TE:=λσ H Q=>t σ H λvs H1=>∀x dx,H1 x=none->H1 dx=none->dx≠x->
 sp (.ref x::(vs++dvs)) (JC (JC H1 dx (.own x)) x (.ins C dx [])) (λv H2=>v=.non/\Q (.ref x) H2) (λc ο H'=>Kx c σ H')
section
variable {X:Cx} {Kx:XKs} {k:Nat} {f C:Addr} {fd:FuncData} {ps:!Str} {sp:Sp} {dvs:!V} {ds:!Value} {x m:Str} {p pos apos:Pos} {e o:Expr} {es:!Expr} {ta:TE} {t:TA}
theorem FT {J:!(Addr×Obj)} {F:St} {H:Hp} {s:Shared} {Q:VK} {us:!Value} {vs:!V} (L:qF X.prog X.w X.K X.mg X.base (tH X.prog X.w) k f fd ps sp) (a3:cE k X.A) (a0:zE X.K fd ps ds) (hd:VC dvs ds) (a4:XW X Kx)
  (D:LC X J F H s) (r:VC vs us) (h:sp (vs++dvs) H Q (λc ο H'=>Kx c F H')):wpAny (model X.prog X.w) X.A (call (.ref f) us) (EP X J F Q) X.xe s:=by
 let N:VC (vs++dvs) (us++ds):=r.append hd;let a1:(us++ds).length=ps.length:=by rw[<-N.length];show L.len _ _ _ _ h
 show wpAny_call (codeAny_mono (L.run X.A X.stack s H ⟨us,[]⟩ (us++ds) (vs++dvs) Q _ a3 D.env0 (a0 s us D.kIn a1) N h) λr s' j=>?_);cases r with
 |error e=>
  let(U,cls,H',B,rfl,a5,O,un,a2,Y,Z):=j;show a4 J F H s s' U cls H' B D a5 O un a2 Y Z
 |ok W=>
  cases W with
  |ret u=>show D.after j
  |next=>show False.elim j
  |brk=>show False.elim j
  |cont=>show False.elim j
theorem kE (j:qE X.prog X.w X.K X.mg X.base x k ps dvs sp) (Y:cE k X.A) (Z:XW X Kx) (J:PA X (e::es) t) (U:Gl X x:=by rfl) (N:(x == ("__debug__":Str))=false:=by decide)
  (O:starEach (e::es) X.env=(false,eval e X.env)::starEach es X.env:=by rfl) (W:(backTo pos (starEach es X.env)).any (·.1)=false:=by rfl):
  PE X (.Call (.Name x p) (e::es) [] pos) (UI Kx sp dvs t):=by
 let(f,a4,a3,V,hk,L,hd,j):=j;intro a0 s a1 H Q D h;show CC (lO D U V ?_ N);show PySem.W.callWith_K (h₀:=X.base) D.ok.mod.kin hk (wD (J pos a0 s a1 H _ D h) λus a5 ⟨vs,a2,F,r,q⟩=>⟨F.kIn,?_⟩) O W;show FT j Y L hd Z F r q
theorem VD {pl:Sem Bool} (ho:PE X o ta) (c:WG X.K C) (j:YC X.prog X.w X.K X.mg X.base C m k ps dvs sp) (a0:cE k X.A) (a3:XW X Kx) (W:PA X (e::es) t)
  (a1:starEach (e::es) X.env=(false,eval e X.env)::starEach es X.env:=by rfl) (Z:(backTo pos (starEach es X.env)).any (·.1)=false:=by rfl)
  (a2:eval (.Call (.Attribute o m apos) (e::es) [] pos) X.env=(do
   let ov<-eval o X.env
   standAt apos.atName
   let (f,first)<-holding [ov] (getMethod ov m pl)
   callWith pos f first (backTo pos (starEach (e::es) X.env)) (backToKw pos (keywordEach [] X.env))):=by rfl):
  PE X (.Call (.Attribute o m apos) (e::es) [] pos) (IH Kx C m sp dvs ta t):=by
 let(f,ah,ac,L,Y,hd,j):=j;intro N s O H Q D h;show PySem.W.methodCall_KW (pl:=pl) (wD (ho N s O H _ D h) λu a6 a9=>?_) a2;let(x,U,F,a5,a,ad,fs,ex,V,l,q):=a9;subst ex;obtain rfl:u=Value.ref a:=a5;show R9 F V c L l ?_;show PySem.W.callWith_K (first:=[.ref a]) (h₀:=X.base) D.ok.mod.kin L.kp (wD (W pos N a6 O U _ F q) λus al ⟨vs,ab,J,r,a4⟩=>⟨J.kIn,?_⟩) a1 Z;show FT (us:=.ref a::us) (vs:=.ref a::vs) j a0 Y hd a3 J (.cons rfl r) a4
theorem IK {pl:Sem Bool} (ho:PE X o ta) (c:WG X.K C) (j:YC X.prog X.w X.K X.mg X.base C m k ps dvs sp) (O:cE k X.A) (V:XW X Kx)
  (U:eval (.Call (.Attribute o m apos) [] [] pos) X.env=(do
   let ov<-eval o X.env
   standAt apos.atName
   let (f,first)<-holding [ov] (getMethod ov m pl)
   callWith pos f first (backTo pos (starEach [] X.env)) (backToKw pos (keywordEach [] X.env))):=by rfl):
  PE X (.Call (.Attribute o m apos) [] [] pos) (IH Kx C m sp dvs ta tNil):=by
 let(f,a4,a2,F,N,hd,j):=j;intro W s a0 H Q J h;show PySem.W.methodCall_KW (pl:=pl) (wD (ho W s a0 H _ J h) λu a5 Z=>?_) U;let(x,a1,D,Y,a,a3,fs,ex,L,l,q):=Z;subst ex;obtain rfl:u=Value.ref a:=Y;show R9 D L c F l ?_;show PySem.W.callWith_K0 (first:=[.ref a]) D.kIn F.kp (FT (us:=[.ref a]) (vs:=[.ref a]) j O N hd V D (.cons rfl .nil) q)
theorem Ta {N:!(Addr×Obj)} {L:St} {H:Hp} {s:Shared} {Q:VK} {us:!Value} {vs:!V} (M:Mk X.K C f) (O:qF X.prog X.w X.K X.mg X.base (tH X.prog X.w) k f fd ps sp) (ac:cE (k+1) X.A) (a6:zE X.K fd ps ds) (hd:VC dvs ds)
  (ad:XW X Kx) (D:LC X N L H s) (r:VC vs us)
  (h:∀x J,H x=none->H J=none->J≠x->sp (.ref x::(vs++dvs)) (JC (JC H J (.own x)) x (.ins C J [])) (λv Y=>v=.non/\Q (.ref x) Y) (λc ο H'=>Kx c L H')):
  wpAny (model X.prog X.w) X.A (call (.ref C) us) (EP X N L Q) X.xe s:=by
 let U:=h (s.heap.objs.size+1) s.heap.objs.size (D.hok.fresh (Nat.le_succ _)) (D.hok.fresh (vA _)) (XA (Nat.lt_succ_self _));let F:=LC.made (C:=C) D;let W:VC (V.ref (s.heap.objs.size+1)::(vs++dvs)) (Value.ref (s.heap.objs.size+1)::(us++ds)):=.cons rfl (r.append hd);let a9:(Value.ref (s.heap.objs.size+1)::us++ds).length=ps.length:=by
  let e:=W.length;rw[O.len _ _ _ _ U] at e;show e.symm
 show wpAny_call (qj (f:=f) D.kIn M.makes M.init (XB.mp M.fn) (codeAny_mono (O.run _ X.stack _ _ ⟨Value.ref (s.heap.objs.size+1)::us,[]⟩ (Value.ref (s.heap.objs.size+1)::(us++ds)) _ _ _ (ac.make C us [])
  (F.env0.make C us []) (a6 _ (Value.ref (s.heap.objs.size+1)::us) F.kIn a9) W U) λr s' j=>?_))
 cases r with
 |error e=>
  let(a1,cls,H',B,rfl,ah,a0,un,ab,a4,a5):=j;show ad N L _ _ s' a1 cls H' B F ah a0 un ab a4 a5
 |ok a3=>
  cases a3 with
  |ret u=>
   let(v,H',Z,am,a2,al):=F.after j;subst a2;show⟨am,(V.ref (s.heap.objs.size+1),H',Z,rfl,al)⟩
  |next=>show False.elim j
  |brk=>show False.elim j
  |cont=>show False.elim j
theorem GT (j:TF X.prog X.w X.K X.mg X.base x C k ps dvs sp) (Y:cE (k+1) X.A) (Z:XW X Kx) (J:PA X (e::es) t) (U:Gl X x:=by rfl) (N:(x == ("__debug__":Str))=false:=by decide)
  (O:starEach (e::es) X.env=(false,eval e X.env)::starEach es X.env:=by rfl) (W:(backTo pos (starEach es X.env)).any (·.1)=false:=by rfl):
  PE X (.Call (.Name x p) (e::es) [] pos) (JH Kx C sp dvs t):=by
 let(f,a4,a3,V,M,L,hd,j):=j;intro a0 s a1 H Q D h;show CC (lO D U V ?_ N);show PySem.W.callWith_K (h₀:=X.base) D.ok.mod.kin M.kp (wD (J pos a0 s a1 H _ D h) λus a5 ⟨vs,a2,F,r,q⟩=>⟨F.kIn,?_⟩) O W;show Ta M j Y L hd Z F r q
theorem Ua (j:TF X.prog X.w X.K X.mg X.base x C k ps dvs sp) (O:cE (k+1) X.A) (U:XW X Kx) (L:Gl X x:=by rfl) (J:(x == ("__debug__":Str))=false:=by decide):
  PE X (.Call (.Name x p) [] [] pos) (JH Kx C sp dvs tNil):=by
 let(f,W,V,N,M,F,hd,j):=j;intro Y s Z H Q D h;show CC (lO D L N ?_ J);show PySem.W.callWith_K0 D.kIn M.kp (Ta (us:=[]) M j O F hd U D .nil h)
theorem ZJ {v:V} (D:Gl X x) (j:∃u,X.mg x>u/\SC v u) (hd:(x == ("__debug__":Str))=false:=by decide):PE X (.Name x pos) (tC v):=by
 let(u,j,r):=j;show Wi D j r hd
theorem UP {n:String} (j:Gl X x) (D:X.mg x=none) (J:bootBuiltins x>(.type n)) (F:x≠"__name__":=by decide) (hd:(x == ("__debug__":Str))=false:=by decide):PE X (.Name x pos) (tC (.ty n)):=Xi j D J rfl F hd
end
def aG (K:PySem.W.Frag) (mg:Str->Option Value) (x qual:Str) (st:Stmt) (ps:!Str) (dvs:!V):Prop:=∃f fd ds,mg x=↑f/\HH K x qual st f fd/\zE K fd ps ds/\VC dvs ds
def yD (K:PySem.W.Frag) (C:Addr) (m qual:Str) (st:Stmt) (ps:!Str) (dvs:!V):Prop:=∃f fd ds,EH K C m f/\HH K m qual st f fd/\zE K fd ps ds/\VC dvs ds
def KH (K:PySem.W.Frag) (mg:Str->Option Value) (x:Str) (C:Addr) (qual:Str) (st:Stmt) (ps:!Str) (dvs:!V):Prop:=∃f fd ds,mg x=↑C/\Mk K C f/\HH K "__init__" qual st f fd/\zE K fd ps ds/\VC dvs ds
section
variable {P:Program} {w:World} {K:PySem.W.Frag} {mg:Str->Option Value} {base:Heap}
def bG (P:Program) (w:World) (K:PySem.W.Frag) (mg:Str->Option Value) (base:Heap) (qual:Str) (st:Stmt) (N:!Str) (k:Nat) (sp:Sp):Prop:=
 ∀(f:Addr) (cdv:Value) (A:Around) (outer:!Env) (s:Shared) (H:Hp) (vs:!V) (Q:VK) (E:XK),cE k (A.deeper (envOfC qual (EC st) s.heap.objs.size f cdv))->sp vs H Q E->
  ∃t,AG (AE (tH P w) P w K mg base N qual (EC st) f cdv A outer s H E) (aD st) t/\t {nx:=λο H'=>Q .non H',rt:=Q} (oF N vs) H
theorem HH.okE {x F:Str} {st:Stmt} {f:Addr} {D:FuncData} {N ps:!Str} {k:Nat} {sp:Sp} (J:HH K x F st f D) (S:HC N ps (EC st)) (len:∀vs H Q j,sp vs H Q j->vs.length=ps.length)
  (O:bG P w K mg base F st N k sp):qF P w K mg base (tH P w) (k+1) f D ps sp:=by
 let(a3,a4,kV,a2,pm,a0,L,a1,a5,rfl,Y,U):=J.ex;show xT Y U S len λA Z s H vs Q j V W=>O f L A Z s H vs Q j V W
theorem aG.have {x D:Str} {st:Stmt} {N ps:!Str} {j:!V} {k:Nat} {sp:Sp} (L:aG K mg x D st ps j) (S:HC N ps (EC st)) (len:∀vs H Q J,sp vs H Q J->vs.length=ps.length)
  (O:bG P w K mg base D st N k sp):qE P w K mg base x (k+1) ps j sp:=
 let ⟨f,fd,ds,hm,F,hb,hd⟩:=L
 (f,fd,ds,hm,F.kp,hb,hd,F.okE S len O)
theorem yD.have {C:Addr} {m D:Str} {st:Stmt} {N ps:!Str} {j:!V} {k:Nat} {sp:Sp} (L:yD K C m D st ps j) (S:HC N ps (EC st)) (len:∀vs H Q J,sp vs H Q J->vs.length=ps.length)
  (O:bG P w K mg base D st N k sp):YC P w K mg base C m (k+1) ps j sp:=
 let ⟨f,fd,ds,hm,F,hb,hd⟩:=L
 (f,fd,ds,hm,hb,hd,F.okE S len O)
theorem KH.have {C:Addr} {x D:Str} {st:Stmt} {N ps:!Str} {j:!V} {k:Nat} {sp:Sp} (L:KH K mg x C D st ps j) (S:HC N ps (EC st)) (len:∀vs H Q J,sp vs H Q J->vs.length=ps.length)
  (O:bG P w K mg base D st N k sp):TF P w K mg base x C (k+1) ps j sp:=
 let ⟨f,fd,ds,hm,M,F,hb,hd⟩:=L
 (f,fd,ds,hm,M,hb,hd,F.okE S len O)
end
def XR (X:Cx) (K:XKs):Prop:=∀(pins:!(Addr×Obj)) (σ:St) (H:Hp) (s:Shared) (h':Heap) (e:Addr) (cls:Value) (args:!Value),LC X pins σ H s->Heap.MadeExcOf s.heap h' e cls args->K cls σ H->X.xe (.ref e) {s with heap:=h'}
theorem YE.alive {P:Program} {w:World} {H:Hp} {h:Heap} (x:YE P w H h) {b:Addr} {u:HO} (e:H b>u):∃o,h.get? b>o:=by
 let q:=x b u e;cases u with
 |lst xs=>let(_,_,_,_,e):=q;show⟨_,e⟩
 |tup xs=>let(_,_,_,(o,e,_)):=q;show⟨_,e⟩
 |dK kvs=>let(_,_,_,_,o,_,_,e,_):=q;show⟨_,e⟩
 |dT kvs=>let(_,_,_,_,o,_,_,e,_):=q;show⟨_,e⟩
 |set S n=>let(o,_,_,_,e,_):=q;show⟨_,e⟩
 |ins C j fs=>let(_,_,_,e,_):=q;show⟨_,e⟩
 |own y=>show q
 |xd fs=>let(_,(_,_,_,e,_),_):=q;show⟨_,e⟩
 |rng lo hi=>let(_,_,_,e):=q;show⟨_,e⟩
 |frz D u=>let(e,_):=q;show⟨_,e⟩
 |tbl ps=>show⟨_,q⟩
 |met f y=>show⟨_,q⟩
 |ext F=>let(_,e,_):=q;show e
theorem LH {P:Program} {w:World} {K:PySem.W.Frag} {mg:Str->Option Value} {base:Heap} {N:!Str} {O:Str} {scope:Scope} {f:Addr} {L:Value} {A:Around} {D:!Env} {j:Shared} {a0:Hp} {Z:XK}:
  XR (AE (tH P w) P w K mg base N O scope f L A D j a0 Z) (λc ο H'=>Z c none H'):=by
 intro b9 bb H s h1 a5 cls args J mk b0;let a9:=J.ok.frames;let b3:(AE (tH P w) P w K mg base N O scope f L A D j a0 Z).stack=envOfC O scope j.heap.objs.size f L::D:=rfl;let a3:=J.stack;let ab:=J.stkFree;rw[b3] at a9 a3 ab;let a6:(envOfC O scope j.heap.objs.size f L).frame>j.heap.objs.size:=rfl;let ac:xE (envOfC O scope j.heap.objs.size f L::D)=j.heap.objs.size::xE D:=Sa a6;let Y:∀b:Addr,b∉(AE (tH P w) P w K mg base N O scope f L A D j a0 Z).ex:=λb U=>absurd U (by simp[AE]);let ah:∀b o,j.heap.get? b>o->b∉xE D->b∉xE (envOfC O scope j.heap.objs.size f L::D):=λb o e n U=>by
  rw[ac] at U;let U||U:=pA.mp U
  .show absurd (FA e) (by rw[U];show vC _)
  .show n U
 change wpAny _ _ (leaving (envOfC O scope j.heap.objs.size f L) (.ref a5)) _ _ _;show sH (B:=PySem.W.hideAll s.heap (xE (envOfC O scope j.heap.objs.size f L::D))) (h:=s.heap) a9 a6 (λb o q=>PySem.W.of_hideAll _ q)
  (PySem.W.funFrames_hide a3 λenv b1 b F=>List.mem_filterMap.mpr (env,b1,F)) mk λh' t a1 up b4=>?_
 let a4:∀b o,s.heap.get? b>o->b∉xE (envOfC O scope j.heap.objs.size f L::D)->(PySem.W.hideAll s.heap (xE (envOfC O scope j.heap.objs.size f L::D))).get? b>o:=λb o e n=>PySem.W.hideAll_get _ e n;let stay:∀b o,j.heap.get? b>o->a0 b=none->b∉xE D->(PySem.W.hideAll s.heap (xE (envOfC O scope j.heap.objs.size f L::D))).get? b>o:=λb o e n F=>
  a4 b o (J.base.keep b o e n F (Y b)) (ah b o e F)
 let live:∀b o,j.heap.get? b>o->b∉xE D->∃al,(PySem.W.hideAll s.heap (xE (envOfC O scope j.heap.objs.size f L::D))).get? b>al:=λb o e F=>by
  let(W,V):=J.base.there b o e (Y b);show⟨W,a4 b W V (ah b o e F)⟩
 let trk:∀b u,H b>u->∃o,(PySem.W.hideAll s.heap (xE (envOfC O scope j.heap.objs.size f L::D))).get? b>o:=λb u e=>by
  let(o,ho):=J.hok.alive e;show⟨o,a4 b o ho λU=>by rw[ab b U] at e;cases e⟩
 let am:∀b,b∈xE D->∀o,s.heap.get? b>o->∃sl,h'.get? b>{o with slots:=sl}:=λb F o e=>by
  let b2:b∈xE (envOfC O scope j.heap.objs.size f L::D):=by rw[ac];show kA _ F
  let(_,al,ad,hd):=a3.mem b2;rw[e] at ad;cases ad;show up b o (mk.keeps b o e) hd
 show(a5,cls,H,_,rfl,J.os,J.bare,?_,J.hok.flown trk (λb o q=>PySem.W.of_hideAll _ q) a1.1,(⟨_,a1⟩,trk,stay,live,b4),b0);show(λb o e n F ο=>a1.1 b o (stay b o e n F),λb o e n F ο=>?_,λb o e n ο=>J.base.free b o e n (Y b),λb o e ο=>?_,J.base.tups,J.base.frzs,J.base.tbls)
 .let(sl,V):=J.base.slot b o e n F (Y b);let(b5,a2):=am b F _ V;show⟨b5,a2⟩
 .by_cases F:b∈xE D
  .let(W,V):=J.base.there b o e (Y b);let(sl,a2):=am b F _ V;show⟨_,a2⟩
  .let(W,V):=live b o e F;show⟨W,a1.1 b W V⟩
nonrec abbrev eF:!Value:=[.type "ValueError",.type "Exception",.type "BaseException",.type "object"]
structure XC (K:PySem.W.Frag) (mg:Str->Option Value) (x:Str) (C:Addr):Prop where
 m:mg x=↑C
 ex:PySem.W.excIn K C eF "ValueError.__new__"=true
set_option tactic.hygienic true in
theorem Pk {K:PySem.W.Frag} {h:Heap} {C:Addr} {l:!Value} {id:String} (hin:K.In h) (q:PySem.W.excIn K C l id=true):
  ∃bm N nm qn bs hdct sn sub ab col dd k0 k1 k2 k3 k5 mN,h.get? C>(excClassObj nm qn C N bs bm hdct sn sub ab col dd k0 k1 k2 k3 k5 id)/\h.Ns N mN/\mN "__init__"=none/\OwnTail h l bm:=by
 unfold PySem.W.excIn at q
 split at q
 case h_2=>cases q
 case h_1 dd cd sl ho=>
  split at q
  case h_2=>cases q
  case h_1 C' bm k0 k1 k2 k3 n k5 hm hs=>
   rw[OA,OA,OA,OA,OA] at q;let(((((q1,q2),q3),q4),q5),q6):=q;let e1:=XB.mp q1;let e2:=XB.mp q2;let e6:=XB.mp q6;subst e1 e2;let(nm,bs,mro,ns,qn,hd,sn,sub,ab,col,del):=cd;let e3:del=false:=by
    cases del with
    |false=>rfl
    |true=>cases q3
   let hm':mro=.ref C'::bm:=hm;subst e3 hm';obtain⟨l'⟩:=sl;let hs':l'=[k0,k1,k2,k3,some (.builtin n),k5]:=hs;subst hs';show(bm,ns,nm,qn,bs,hd,sn,sub,ab,col,dd,k0,k1,k2,k3,k5,_,hin _ _ ho,.of_isNs (PySem.W.isNs_of_in hin q5),PySem.W.nsMap_none_of_in hin q5 e6,PySem.W.tail_of_in hin q4)
def VI (Kx:XKs) (C:Addr) (t:TA):TS:=λο σ H=>t σ H λvs H1=>vs.length<=sizeLine/\Kx (.ref C) σ H1
theorem NH {X:Cx} {L:XKs} {C:Addr} {x:Str} {ad J pos:Pos} {e:Expr} {es:!Expr} {t:TA} (ac:XR X L) (a2:X.calm=true) (c:XC X.K X.mg x C) (a1:PA X (e::es) t) (a3:Gl X x:=by rfl) (hd:(x == ("__debug__":Str))=false:=by decide)
  (O:starEach (e::es) X.env=(false,eval e X.env)::starEach es X.env:=by rfl) (a6:(backTo J (starEach es X.env)).any (·.1)=false:=by rfl):
  PS X (.Raise (some (.Call (.Name x ad) (e::es) [] J)) none pos) (VI L C t):=by
 intro U s V H D j h;let(bm,N,nm,ah,bs,hdct,sn,sub,ab,col,dd,k0,k1,k2,k3,k5,mN,Z,a0,a5,T):=Pk j.mod.kin c.ex;show wpAny_Raise_call_subT (C:=C) (nm:=nm) (q:=ah) (N:=N) (bs:=bs) (bm:=bm) (hdct:=hdct) (sn:=sn) (sub:=sub) (ab:=ab) (col:=col) (dd:=dd) (k0:=k0) (k1:=k1) (k2:=k2) (k3:=k3) (k5:=k5) (mN:=mN) PySem.F.excBase_ValueError (T.hasType PySem.F.excBase_ValueError.hasBase) (j.ok.hd a2) (by rw[O];change (false || (backTo J (starEach es X.env)).any (·.1))=false;rw[a6];rfl) a5
  (lO j a3 c.m ⟨rfl,?_⟩ hd)
 let q:=a1 J U s V H _ j h;rw[O] at q ⊢;show lC (AB q (λus al a9=>?_) λο ο y=>y);let(vs,W,F,r,a4,hk):=a9;show(rfl,by rw[<-r.length];show a4,F.bk _ _ Z,a0.keeps F.bk,T.keeps F.bk,λh' Y mk=>ac U V W al h' Y (.ref C) us F mk hk)
theorem LC.flown {X:Cx} {Y:!(Addr×Obj)} {Z:St} {H H':Hp} {s s':Shared} {B V:Heap} {ad:Addr} {cls:Value} (O:LC X Y Z H s) (j:LC X Y Z H' s') (U:aS B X.stack s.heap H H' s'.heap ad cls)
  (st:B.StaysIn V) (up:s'.heap.UpToSlots V):LC X Y Z H' {s' with heap:=V}:=by
 let(a0,ah):=U.fl;let W:∀b,b∉X.fs->b≠X.env.locals->b∉xE X.stack:=λb h1 h2 F=>by
  let q||q:=pA.mp (O.stkSub b F)
  .show h2 q
  .show h1 q
 let a4:∀b o,X.s₀.heap.get? b>o->b≠X.env.locals:=λb o e=>XA (KA (FA e) O.ok.above);let a1:∀{c:Addr} {v:Option Value},s'.heap.IsCell c v->V.IsCell c v:=λ{c v} ⟨o,ho,hd⟩=>by
  let(sl,e):=up c o ho λvs F=>by rw[hd] at F;cases F
  show(_,e,hd)
 let ab:∀b,b∈X.fs->∀o,s'.heap.get? b>o->∃sl,V.get? b>{o with slots:=sl}:=λb D o e=>by
  let(_,b2,a2,hd):=j.funs.mem D;rw[e] at a2;cases a2;show up b o e hd
 show(j.ok,j.os,j.bare,(λb o e n D N=>?_,λb o e n D N=>?_,j.base.free,λb o e N=>?_,j.base.tups,j.base.frzs,j.base.tbls),?_,λx c e=>?_,j.free,j.freeC,λp a3=>?_,j.hok.flown U.trk ah.1 st,j.len)
 .show st b o (U.kept b o (O.base.keep b o e n D N) (O.base.free b o e n N) (W b D (a4 b o e)))
 .let(sl,J):=j.base.slot b o e n D N;let(b1,L):=ab b D _ J;show⟨b1,L⟩
 .by_cases D:b∈X.fs
  .let(a9,J):=j.base.there b o e N;let(sl,L):=ab b D _ J;show⟨_,L⟩
  .let(a9,J):=O.base.there b o e N;let(o2,L):=U.alive b a9 J (W b D (a4 b o e));show⟨o2,st b o2 L⟩
 .let(m,am,al):=j.loc;show(m,up.ns am,λi x v J L ac=>?_);let(u,r,l):=al i x v J L ac;show(u,r,?_);let l||(k,c,e,F):=l
  .show .inl l
  .show .inr (k,c,e,a1 F)
 .let(v,F):=j.cell x c e;show⟨v,a1 F⟩
 .let(e,n,a5,a6,d):=O.pin p a3;let(_,b0,_,_,_):=j.pin p a3;show(st _ _ (U.kept p.1 p.2 e n (W p.1 a6 a5)),b0,a5,a6,d)
def mG (a:Addr) (C:Addr):HO:=.ext λh=>∃o vs,h.get? a>o/\o.cls=.ref C/\o.data=.fields vs/\vs[2]?>.none
theorem LC.track {X:Cx} {J:!(Addr×Obj)} {O:St} {H:Hp} {s:Shared} {a:Addr} {u:HO} (j:LC X J O H s) (D:H a=none) (U:a≠X.env.locals) (h0:∀o,X.s₀.heap.get? a>o->a∈X.ex)
  (V:∀x c,X.env.cells.lookup x>c->c≠a) (W:∀p∈X.pn++J,p.1≠a) (ok:∀H',tD X.prog X.w H' s.heap a u):LC X J O (JC H a u) s:=by
 show(j.ok,j.os,j.bare,(j.base.keep,j.base.slot,λb o e n N=>?_,j.base.there,λb xs e=>?_,λb o xs e=>?_,λb ps e=>?_),j.loc,j.cell,?_,λx c e=>?_,λp L=>?_,λb o e=>?_,j.len)
 .let F:b≠a:=λY=>N (by rw[Y] at e ⊢;show h0 o e);rw[WC F];show j.base.free b o e n N
 .let q:=j.base.tups b xs e;rw[WC (FD q D)];show q
 .let q:=j.base.frzs b o xs e;rw[WC (FD q D)];show q
 .let(more,q):=j.base.tbls b ps e;show⟨more,by rw[WC (FD q D)];show q⟩
 .rw[WC (Ne.symm U)];show j.free
 .rw[WC (V x c e)];show j.freeC x c e
 .let(e,n,r):=j.pin p L;show(e,by rw[WC (W p L)];show n,r)
 .by_cases F:b=a
  .subst F;rw[nD] at e;cases e;show ok _
  .rw[WC F] at e;show (j.hok b o e).stay (λc v ο q=>q) (λc q=>by rw[WC (FD q D)];show q) λc xs q=>by rw[WC (FD q D)];show q
theorem LC.nameGone {X:Cx} {a1:!(Addr×Obj)} {Y:St} {H:Hp} {s:Shared} {i:Nat} {n:Str} {pos:Pos} {M:Model} {A:Around} {a3:Value->Shared->Prop} {Q:Unit->Shared->Prop} (D:LC X a1 Y H s) (a5:X.N.Nodup) (hi:X.N[i]?>n)
  (ab:X.env.kindOf n>.local) (h:∀s',LC X a1 (Y.set i none) H s'->Q ⟨⟩ s'):wpAny M A (do bindName X.env n .none;unbindBehindTheSuite X.env n pos) Q a3 s:=by
 let(m,Z,ah):=id D.loc;let a6:(X.env.scope.kind == .class || (X.env.scope.kind == .module&&X.env.locals != X.env.globals))=false:=by rw[D.ok.kind];rfl
 let cne:=D.cne;let a9:i < Y.length:=by rw[D.len];show (JA.mp hi).1
 show wpAny_nameGoes_keeps ab Z a6 λh' v ac F=>?_;let(b5,_,_,b4,_):=id Z;show h _ (D.ok,D.os,D.bare,(λb o e n U L=>?_,λb o e n U L=>?_,D.base.free,λb o e L=>?_,D.base.tups,D.base.frzs,D.base.tbls),(_,ac,λj y b3 J N a4=>?_),λy c e=>?_,D.free,D.freeC,λp ad=>?_,λb b0 e=>?_,by simpa using D.len)
 .show (F.2 b (XA (KA (FA e) D.ok.above))).trans (D.base.keep b o e n U L)
 .let(sl,J):=D.base.slot b o e n U L;show⟨sl,(F.2 b (XA (KA (FA e) D.ok.above))).trans J⟩
 .let(am,J):=D.base.there b o e L;show⟨am,(F.2 b (XA (KA (FA e) D.ok.above))).trans J⟩
 .by_cases V:j=i
  .subst V;rw[List.getElem?_set_self a9] at N;cases N
  .rw[List.getElem?_set_ne (Ne.symm V)] at N;let(b2,b1,q):=ah j y b3 J N a4;show(b2,b1,?_);let(k,e)||(k,c,e,W):=q
   .show .inl ⟨k,?_⟩;have:y≠n:=λe=>V (mT a5 J (e ▸ hi));simp[this,e]
   .show .inr (k,c,e,W.sameBut F (cne y c e))
 .let(a2,W):=D.cell y c e;show⟨a2,W.sameBut F (cne y c e)⟩
 .let(e,n,a0,al,d):=D.pin p ad;show((F.2 p.1 a0).trans e,n,a0,al,d)
 .show (D.hok b b0 e).stay (λc a2 O q=>(F.2 c ?_).trans q) (λο q=>q) λο ο q=>q;rintro rfl;let rfl||O:=O
  .rw[D.free] at e;cases e
  .rw[D.free] at O;cases O
structure XH (K:PySem.W.Frag) (mg:Str->Option Value) (x:Str) (D:Addr):Prop where
 m:mg x=↑D
 ty:PySem.W.typeIn K (.ref D)>(.type "type")
 cl:∃cd,PySem.W.clsIn K D>cd
 be:PySem.W.mroIn K D (.type "BaseException")>true
def aK (K:PySem.W.Frag) (C D:Addr):Prop:=PySem.W.mroIn K C (.ref D)>true
set_option tactic.hygienic true in
theorem Qk {K:PySem.W.Frag} {M:Model} {A:Around} {E:Value->Shared->Prop} {Q:Bool->Shared->Prop} {s:Shared} {mg:Str->Option Value} {x:Str} {ea C D:Addr} {o:Obj} (hin:K.In s.heap) (c:XH K mg x D) (sub:aK K C D)
  (ho:s.heap.get? ea>o) (hcl:o.cls=.ref C) (q:Q true s):wpAny M A (excMatches (.ref ea) (.ref D)) Q E s:=by
 let(cd,hcd):=c.cl;let L1:=PySem.W.looks_typeIn (M:=M) hin c.ty;let L2':=PySem.W.looks_mroIn (M:=M) hin c.be;let L3:=PySem.W.looks_mroIn (M:=M) hin sub;let L4:PySem.W.Looks M s.heap (typeOf (.ref ea)) (.ref C):=hcl ▸ (PySem.W.Looks.ld ho).andThen .now;let L5:PySem.W.Looks M s.heap (isType (.ref D)) true:=by
  unfold PySem.W.clsIn at hcd
  split at hcd
  .rename_i ho';intro A' Q' E' s' k q';unfold isType loadHead;show fA (wpAny_loadPart (k _ _ (hin _ _ ho')) (BA q'))
  .cases hcd
 let L6:PySem.W.Looks M s.heap (isExcClass (.ref D)) true:=L5.andThen L2';let(h,g,d,t,os):=s;let f:=tc_notTuple;unfold excMatches isInstance;show fA (fA (L1.at ?_));rw[f];show BA ?_;simp only[SA,HB];show fA (BA ?_);rw[List.forIn_cons];show fA (fA (fA (L6.at ?_)));simp only[Bool.not_true,SA,HB];show BA ?_;dsimp only;rw[List.forIn_nil];show BA ?_;show fA (L4.at ?_);rw[List.forIn_cons];show fA (fA (fA (L3.at ?_)));simp only[if_true];show BA ?_;dsimp only;show BA ?_;show BA q
def lH:Option HO->String
 |some (.lst _)=>"list"
 |some (.frz _ (.lst _))=>"list"
 |some (.tup _)=>"tuple"
 |some (.dK _)=>"dict"
 |some (.dT _)=>"dict"
 |_=>""
def kd (H:Hp):V->String
 |.non=>"NoneType"
 |.bl _=>"bool"
 |.int _=>"int"
 |.str _=>"str"
 |.ref a=>lH (H a)
 |_=>""
def Kn (H:Hp) (x:V):Prop:=kd H x≠""
def WI (n:String) (H:Hp) (x:V):Bool:=kd H x == n || (kd H x == "bool"&&n == "int")
theorem VP {K:PySem.W.Frag} {H:Hp} {x:V} (h:Kn H x):AF K H x (.type (kd H x)):=by
 cases x with
 |non=>show .non
 |bl b=>show .bl b
 |int i=>show .int i
 |str s=>show .str s
 |ref a=>
  let h:lH (H a)≠"":=h;change AF K H (.ref a) (.type (lH (H a)));cases e:H a with
  |none=>rw[e] at h;show absurd rfl h
  |some o=>
   rw[e] at h;cases o with
   |lst xs=>show .lst e
   |tup xs=>show .tup e
   |dK k=>show .dK e
   |dT k=>show .dT e
   |frz j u=>
    cases u with
    |lst xs=>show .frz e
    |_=>show absurd rfl h
   |_=>show absurd rfl h
 |_=>show absurd rfl h
theorem Va (o:Option HO):lH o=""\/lH o="list"\/lH o="tuple"\/lH o="dict":=by
 unfold lH
 split<;>simp
theorem Kn.cases {H:Hp} {x:V} (h:Kn H x):kd H x="NoneType"\/kd H x="bool"\/kd H x="int"\/kd H x="str"\/kd H x="list"\/kd H x="tuple"\/kd H x="dict":=by
 cases x with
 |ref a=>
  let h:lH (H a)≠"":=h;change lH (H a)=_\/lH (H a)=_\/lH (H a)=_\/lH (H a)=_\/lH (H a)=_\/lH (H a)=_\/lH (H a)=_;let e||e||e||e:=Va (H a)
  .show absurd e h
  .show .inr (.inr (.inr (.inr (.inl e))))
  .show .inr (.inr (.inr (.inr (.inr (.inl e)))))
  .show .inr (.inr (.inr (.inr (.inr (.inr e)))))
 |non=>show .inl rfl
 |bl b=>show .inr (.inl rfl)
 |int i=>show .inr (.inr (.inl rfl))
 |str z=>show .inr (.inr (.inr (.inl rfl)))
 |_=>show absurd rfl h
theorem Uk (K:PySem.W.Frag):∀k∈["NoneType","bool","int","str","list","tuple","dict"],∀n∈["bool","int","str","list","tuple","dict"],PySem.W.kitOne K (.type k) (.type n)>(k == n || (k == "bool"&&n == "int")):=by
 let e:∀k∈["NoneType","bool","int","str","list","tuple","dict"],∀n∈["bool","int","str","list","tuple","dict"],(if (Value.type k == Value.type n)=true then some true else if PySem.W.kitMeta n=true then (fastBuiltinMro k).map (·.contains (.type n)) else none)>(k == n || (k == "bool"&&n == "int")):=∅;show λk hk n j=>e k hk n j
theorem bS {X:Cx}:eE X (.builtin "isinstance") (λxs H Q=>∃x n,xs=[x,.ty n]/\n∈["bool","int","str","list","tuple","dict"]/\Kn H x/\Q (.bl (WI n H x)) H):=by
 intro O s U H xs us Q D r h;let(x,n,rfl,F,hk,q):=h;cases r with
 |cons J j=>
  cases j with
  |cons L j=>
   cases j;cases L;show vj D J (VP hk) (Uk X.K _ ?_ n F) λN=>(.bl _,H,D.tok N,rfl,q)
   let e||e||e||e||e||e||e:=hk.cases<;>rw[e]<;>simp
theorem uM {X:Cx}:j9 X (unaryOp .USub) (rU λi=>.int (Neg.neg i)):=by
 intro F s J H x v Q j D h;let(i,rfl,q):=h;let(t,rfl):=D;show neg_int (.int _,H,j.tok _,⟨_,rfl⟩,q)
theorem Vk {X:Cx} {pos:Pos} {keys:!(Option Expr)} {j:!Expr} {D:!(TE×TE)} (h:PP X pos keys j D) (h1:(keys.all (·.isSome))=true:=by rfl) (h2:keys.length=j.length:=by rfl) (F:keys≠[]:=by show nofun)
 (J:keys.length<=15:=by decide):PE X (.Dict keys j pos) (OI D):=ik h h1 h2 F J
theorem vM {H:Hp} {i:Int}:Kn H (.int i)↔True:=⟨λο=>trivial,λο=>(by decide:"int"≠"")⟩
theorem wM {CX:CXT} {P:Program} {w:World} {K:PySem.W.Frag} {mg:Str->Option Value} {base:Heap} {N:!Str} {J:Str} {scope:Scope} {f:Addr} {D:Value} {A:Around} {F:!Env} {s:Shared} {H:Hp} {j:XK}:
 (AE CX P w K mg base N J scope f D A F s H j).K=K:=rfl
def nG:V->Bool
 |.int _=>true
 |_=>false
def DE (x:V) (l h:Int):Bool:=match x with
 |.int i=>decide (l<=i)&&decide (i<=h)
 |_=>false
theorem YI {i l h:Int}:DE (.int i) l h=(decide (l<=i)&&decide (i<=h)):=rfl
theorem Wk {H:Hp} {x:V} (h:Kn H x):(WI "int" H x&& not (WI "bool" H x))=nG x:=by
 cases x with
 |ref a=>
  let h:lH (H a)≠"":=h;let e:kd H (.ref a)=lH (H a):=rfl;unfold WI;rw[e];let e||e||e||e:=Va (H a)<;>rw[e]<;>first|rfl|exact absurd e h
 |_=>first|rfl|exact absurd rfl h
inductive Wa (t u:TS):Type where
 |mk:Wa t u
def IT (t u:TS) (_:Wa t u):TS:=λD σ H=>∃M:St->Hp->Prop,t {D with nx:=M} σ H/\∀σ' H',M σ' H'->u D σ' H'
theorem oI {X:Cx} {st:Stmt} {rest:!Stmt} {t u:TS} (h1:PS X st t) (h2:AG X rest u):AG X (st::rest) (IT t u .mk):=by
 intro j s U H D J h;let(M,h,N):=h;show wpAny_execs_cons (wD (h1 j s U H {D with nx:=M} J h) λf O q=>?_);cases f with
 |next=>
  let(F,H',L,q):=q;show h2 j O F H' D L (N F H' q)
 |ret v=>show q
 |brk=>show q
 |cont=>show q
def bK:Option HO->Option (!V)
 |some (.lst xs)=>some xs
 |some (.frz _ (.lst xs))=>some xs
 |_=>none
def cK:Option HO->Option (!V)
 |some (.tup xs)=>some xs
 |some (.frz _ (.tup xs))=>some xs
 |_=>none
theorem Xk {xs:!V}:bK (some (.lst xs))>xs:=rfl
theorem Yk {xs:!V}:cK (some (.tup xs))>xs:=rfl
set_option tactic.hygienic true in
theorem Zk {K:PySem.W.Frag} {H:Hp} {a:Addr} {xs:!V} (h:bK (H a)>xs):BD K H a xs:=by
 unfold bK at h
 split at h
 .rename_i e;cases h;show .inl (.inl e)
 .rename_i e;cases h;show .inl (.inr ⟨_,e⟩)
 .cases h
set_option tactic.hygienic true in
theorem gl {K:PySem.W.Frag} {H:Hp} {a:Addr} {xs:!V} (h:cK (H a)>xs):HD K H a xs:=by
 unfold cK at h
 split at h
 .rename_i e;cases h;show .inl (.inl e)
 .rename_i e;cases h;show .inl (.inr ⟨_,e⟩)
 .cases h
def rIxH:R2:=λx y H Q=>∃p xs i v,x=.ref p/\y=.int i/\bK (H p)>xs/\VH xs i>v/\Q v H
theorem xM {X:Cx}:BP X rIxH:=by
 intro Y W O s a0 H x y v u Q j U V h N;let(p,xs,i,Z,D,F,J,L,q):=h;show uO Y W O s a0 H x y v u Q j U V (p,xs,i,Z,D,F,Zk J,L,q) N
theorem il {i j:Int}:JI (.int i) (.int j)=true:=rfl
theorem jl {i j:Bool}:JI (.bl i) (.bl j)=true:=rfl
theorem ll {i j:Str}:JI (.str i) (.str j)=true:=rfl
theorem JT:Int.natAbs 10=10:=rfl
theorem mE {H:Hp}:OC H H:=λο ο h=>h
theorem wE {H H':Hp} {p:Addr} {o:HO} (s:OC H H') (h:H' p=none):OC H (JC H' p o):=λb u e=>by
 let q:=s b u e;rw[WC (FD q h)];show q
inductive OH (g:TG) (tb:TS):Type where
 |mk:OH g tb
def ZI (g:TG) (tb:TS) (_:OH g tb) (J:It):TS:=λD σ H=>∃W:Nat->Nat->St->Hp->Prop,(∃m,W 0 m σ H)/\∀i m σ H,W i m σ H->
 (J.stop i H/\D.nx σ H)\/(J.go i H/\∃N:St->Hp->Prop,(∀σ' H',N σ' H'->∃m',m' < m/\W (i+1) m' σ' H')/\∀x H',J.yld i H x H'->g x σ H' λσ2 H2=>tb {D with nx:=N,ct:=N,bk:=D.nx} σ2 H2)
def JK (wi:TI) (g:TG) (tb:TS) (h:OH g tb):TS:=λD σ H=>wi σ H λJ H1=>ZI g tb h J D σ H1
theorem AI {X:Cx} {D j:Expr} {F:!Stmt} {L:TI} {g:TG} {J:TS} {pos:Pos} (V:PassesOwn (model X.prog X.w) X.A X.env X.xe) (O:X.calm=true) (hi:PI X D j L) (U:PG X D g) (N:AG X F J)
 (W:∀x,foldedSetIterable j X.env x=pure x:=by intro _;rfl):PS X (.For D j F [] pos) (JK L g J .mk):=YL V O hi U N W
theorem MT {lo:Int} {n:Nat} {g:TG} {F:TS} {h:OH g F} {D:ZE} {j:St} {H:Hp} (Pv:Nat->St->Hp->Prop) (h0:Pv 0 j H)
 (L:∀i j H,i < n->Pv i j H->g (.int (lo+i)) j H λN J=>F {D with nx:=Pv (i+1),ct:=Pv (i+1),bk:=D.nx} N J) (hd:∀j H,Pv n j H->D.nx j H):ZI g F h (QJ lo n) D j H:=gj Pv h0 L hd
theorem yM {K:PySem.W.Frag} {a:Addr} {xs:!V} {g:TG} {F:TS} {h:OH g F} {D:ZE} {j:St} {H:Hp} (Pv:Nat->St->Hp->Prop) (h0:Pv 0 j H) (L:∀i j H,i<=xs.length->Pv i j H->BD K H a xs)
 (N:∀i x j H,xs[i]?>x->Pv i j H->g x j H λO J=>F {D with nx:=Pv (i+1),ct:=Pv (i+1),bk:=D.nx} O J) (hd:∀j H,Pv xs.length j H->D.nx j H):ZI g F h (WL K a) D j H:=fj Pv h0 L N hd
def pw (n:Int):Int:=2 ^ n.toNat
theorem Xa (n:Nat):pw (n:Int)=2 ^ n:=by unfold pw;rw[SB]
theorem cS (n:Nat):pw ((n+1:Nat):Int)=pw (n:Int) * 2:=by rw[Xa,Xa,Int.pow_succ]
theorem dS (n:Int):1<=pw n:=by
 unfold pw;generalize n.toNat=k
 induction k with
 |zero=>decide
 |succ k j=>rw[Int.pow_succ];omega
theorem Za {n m : Nat} (h : n <= m) : pw (n : Int) <= pw (m : Int) := by
  induction m with
  | zero => have : n = 0 := by omega
            subst this; show QB _
  | succ k ih =>
    let e||e:=(by omega : n <= k \/ n = k + 1)
    . have := ih e; have := dS k; rw [cS]; omega
    . subst e; show QB _
theorem NT {n m:Int} (h:n<=m) (F:0<=m):pw n<=pw m:=by
 let j:pw n=pw (n.toNat:Int):=by unfold pw;rw[SB]
 let D:pw m=pw (m.toNat:Int):=by unfold pw;rw[SB]
 rw[j,D];show Za ⋯
theorem OT {n:Int} (h:n<=24):pw n<=16777216:=NT (m:=24) h (by decide)
theorem ql {n:Int} (h:n<=4):pw n<=16:=NT (m:=4) h (by decide)
theorem QT {x y:Int} (h1:2<=x) (h2:x<=3) (j:1<=y) (D:y<=8):2<=x * y/\x * y<=24:=by
 let e||e:=(by omega:x=2\/x=3)<;>subst e<;>omega
set_option tactic.hygienic true in
theorem cb {f:Str} {v:V} {n:Nat}:∀{fs:!(Str×V)},fs.length < n->(QC f v fs).length < n+1
 |[],_=>by change 1 < n+1;rename_i h;simp at h;omega
 |(g,x)::r,h=>by
  unfold QC
  split
  .show Nat.lt_succ_of_lt h
  .cases n with
   |zero=>show absurd h (Nat.not_lt_zero _)
   |succ m=>show Nat.succ_lt_succ (cb (Nat.lt_of_succ_lt_succ h))
section
variable {X:Cx} {pins pins2:!(Addr×Obj)} {σ:St} {H:Hp} {s:Shared} {E':Value->Shared->Prop}
theorem Cx.Ok.re {pn:!(Addr×Obj)} (ok:X.Ok):({X with xe:=E',pn:=pn}:Cx).Ok:=
 (ok.mod,ok.kind,ok.glob,ok.blt,ok.above,ok.inj,ok.has,ok.cab,ok.hd,ok.frames,ok.stk,ok.exf,ok.bs,ok.bsz,ok.noex,ok.exfs,ok.funs,ok.frf)
theorem LC.re (j:LC X pins σ H s):LC {X with xe:=E',pn:=X.pn++pins} [] σ H s:=
 (j.ok.re,j.os,j.bare,j.base,j.loc,j.cell,j.free,j.freeC,λp D=>j.pin p (by rw[MB] at D;show D),j.hok,j.len)
theorem LC.unre (ok:X.Ok) (j:LC {X with xe:=E',pn:=X.pn++pins} pins2 σ H s):LC X pins σ H s:=
 (ok,j.os,j.bare,j.base,j.loc,j.cell,j.free,j.freeC,λp D=>j.pin p (CA _ D),j.hok,j.len)
theorem LC.marked {v : Option Value} (I : LC X pins σ H s) : LC { X with A := X.A.mark v, calm := false, xe := E' } pins σ H s :=
  ((I.ok.mod, I.ok.kind, I.ok.glob, I.ok.blt, I.ok.above, I.ok.inj, I.ok.has, I.ok.cab, λz => Bool.noConfusion z, I.ok.frames, I.ok.stk, I.ok.exf, I.ok.bs, I.ok.bsz, I.ok.noex, I.ok.exfs, I.ok.funs, I.ok.frf),
    I.os, I.bare, I.base, I.loc, I.cell, I.free, I.freeC, I.pin, I.hok, I.len)
theorem LC.unmarked {v:Option Value} (ok:X.Ok) (I:LC {X with A:=X.A.mark v,calm:=false,xe:=E'} pins σ H s):LC X pins σ H s:=
 (ok,I.os,I.bare,I.base,I.loc,I.cell,I.free,I.freeC,I.pin,I.hok,I.len)
end
def aJ (K:PySem.W.Frag) (D:Addr) (i:Nat) (tb:XKs->TS) (to th:TS):TS:=λDn σ H=>
 tb (λcls σ' H'=>∃C,cls=.ref C/\aK K C D/\∀ea,H' ea=none->th {nx:=λσ2 H2=>Dn.nx (σ2.set i none) H2,rt:=Dn.rt,bk:=λσ2 H2=>Dn.bk (σ2.set i none) H2,ct:=λσ2 H2=>Dn.ct (σ2.set i none) H2}
  (σ'.set i (↑ea)) (JC H' ea (mG ea C))) {Dn with nx:=to Dn} σ H
theorem ul {X:Cx} {i:Nat} {n x:Str} {D:Addr} {be c7:!Stmt} {b0:Stmt} {b4:!Stmt} {c5 b2 pos:Pos} {ca:XKs->TS} {to b9:TS}
  (ab:X.N.Nodup) (hi:X.N[i]?>n) (a6:X.env.kindOf n>.local) (c:XH X.K X.mg x D)
  (dm:∀(am:Value->Shared->Prop) (pn:!(Addr×Obj)) (bd:XKs),PassesOwn (model X.prog X.w) X.A X.env am->XW {X with xe:=am,pn:=pn} bd->AG {X with xe:=am,pn:=pn} be (ca bd))
  (ho:AG X c7 to) (dv:∀j:Addr,AG {X with A:=X.A.mark (↑j),calm:=false,xe:=λο ο=>False} (b0::b4) b9)
  (dr:Gl X x:=by rfl) (e6:X.stack=X.env::X.outer:=by rfl) (dp:X.env.frame>X.env.locals:=by rfl) (hd:(x == ("__debug__":Str))=false:=by decide):
  PS X (.Try be [.ExceptHandler (some (.Name x c5)) (some n) (b0::b4) b2] c7 [] pos) (aJ X.K D i ca to b9):=by
 intro O s ev H Dn L h;show wpAny_Try_except ?_;let et:XW {X with xe:=(λe el=>wpAny (model X.prog X.w) X.A (noteFrame e X.env) (λο em=>wpAny (model X.prog X.w) X.A (setFlight e none) (λο b5=>
   wpAny (model X.prog X.w) X.A (handleBy e X.env [.ExceptHandler (some (.Name x c5)) (some n) (b0::b4) b2]) (SP X O Dn) X.xe b5) X.xe em) X.xe el),pn:=X.pn++O}
   (λcls J H'=>∃C,cls=.ref C/\aK X.K C D/\∀j,H' j=none->b9 {nx:=λU W=>Dn.nx (U.set i none) W,rt:=Dn.rt,bk:=λU W=>Dn.bk (U.set i none) W,ct:=λU W=>Dn.ct (U.set i none) W}
    (J.set i (↑j)) (JC H' j (mG j C))):=by
  intro f1 U W c9 s' j cls H' B cm eh d1 un e4 V b1;let(C,rfl,e7,b1):=b1;let a3:LC X O U W c9:=cm.unre L.ok;let bb:LC X O U H' s':=a3.call' (s':=s') (ch:=[]) eh un e4 d1 (λb F=>absurd F (by simp));let V:aS B X.stack c9.heap W H' s'.heap j (.ref C):=V;let(a0,bt):=id V.fl;let c0:=L.ok.frames;rw[e6] at c0 bt;change wpAny (model X.prog X.w) X.A (noteFrame (.ref j) X.env) _ X.xe s';show SI c0 dp bt V.nc λdl al cd e8=>?_;show aH (s:={s' with heap:=dl}) al.1 al.2.2.1 al.2.2.2 e8 al.2.1 λbh a5 ck e9=>?_;let bc:LC X O U H' {s' with heap:=bh}:=LC.flown a3 bb V a5.1 (cd.trans ck);let(f0,f3,e3,e2,ey,_):=a5.first;show wpAny_handleBy_cons (codeAny_handlers_test (lO (X:={X with A:=X.A.mark (↑j),calm:=false,xe:=λο ο=>False}) (bc.marked (v:=↑j)) dr c.m ?_ hd)) (by intro q;cases q);show Qk (x:=x) (mg:=X.mg) bc.kIn c e7 e3 e2 ?_;show codeAny_handlers_suite_as ?_;show aH (s:={s' with heap:=bh}) a5.1 a5.2.2.1 a5.2.2.2.at e9 a5.2.1 λbl ah en ea=>?_;let ad:LC X O U H' {s' with heap:=bl}:=LC.flown a3 bb V ah.1 ((cd.trans ck).trans en);let(c6,cl,a9,dn,ac,_):=ah.first;let eq:cl[2]?>.none:=by
   let(ee,f2,g',d',eo):=ea;rw[a9] at g';cases g';rw[ac] at d';cases d';show eo
  let c1:H' j=none:=by
   cases F:H' j with
   |none=>rfl
   |some u=>
    let(o,e):=V.trk j u F;rw[ah.2.1] at e;cases e
  let c4:∀b o,B.get? b>o->b≠j:=λb o e F=>by rw[F,ah.2.1] at e;cases e
  let co:LC X O U (JC H' j (mG j C)) {s' with heap:=bl}:=by
   show ad.track c1 ?_ ?_ ?_ ?_ ?_
   .intro F;let(m,(ez,es,ep,c2,bm,_),_):=ad.loc;rw[<-F] at c2;let e:=a9.symm.trans c2;cases e;rw[ac] at bm;cases bm
   .intro o e;by_cases c3:j∈X.ex
    .show c3
    .exfalso;by_cases bo:j∈X.fs
     .let(_,ee,e1,e0):=ad.funs.mem bo;let e:=a9.symm.trans e1;cases e;show e0 _ ac
     .let(ef,d3):=a3.base.there j o e c3;let dy:j≠X.env.locals:=XA (KA (FA e) L.ok.above);let(o2,dd):=V.alive j ef d3 λF=>by
       let q||q:=pA.mp (a3.stkSub j F)
       .show dy q
       .show bo q
      show c4 j o2 dd rfl
   .intro er d2 e F;let(v,o,ho,bn):=ad.cell er d2 e;rw[F] at ho;let e:=a9.symm.trans ho;cases e;rw[ac] at bn;cases bn
   .intro p e5;let(e,ed,eb,ec,_):=a3.pin p e5;show c4 p.1 p.2 (V.kept p.1 p.2 e ed λF=>by
     let q||q:=pA.mp (a3.stkSub p.1 F)
     .show eb q
     .show ec q)
   .intro ew;show((c6,cl,a9,dn,ac,eq),⟨c6,a9⟩,λh1 h2 ⟨o,vs,cv,cw,cx⟩ k=>(o,vs,k o cv,cw,cx))
  show pT co ab hi (Or.inl a6) (v:=.ref j) rfl (λej cs=>?_) (.inr a6);show AB (dv j O ej _ _ _ (cs.marked (v:=↑j)) (b1 j c1)) (λf ek N=>?_) (λο ο F=>F.elim);change wpAny (model X.prog X.w) X.A (do bindName X.env n .none;unbindBehindTheSuite X.env n b2) (λο b5=>SP X O Dn f b5) X.xe ek;cases f with
  |next=>
   let(J,Y,a1,q):=N;show (a1.unmarked L.ok).nameGone ab hi a6 λb3 a2=>(_,Y,a2,q)
  |brk=>
   let(J,Y,a1,q):=N;show (a1.unmarked L.ok).nameGone ab hi a6 λb3 a2=>(_,Y,a2,q)
  |cont=>
   let(J,Y,a1,q):=N;show (a1.unmarked L.ok).nameGone ab hi a6 λb3 a2=>(_,Y,a2,q)
  |ret u=>
   let(v,J,Y,a1,r,q):=N;show (a1.unmarked L.ok).nameGone ab hi a6 λb3 a2=>(v,_,Y,a2,r,q)
 let q:=dm _ (X.pn++O) _ PassesOwn.looking et [] s ev H {Dn with nx:=to Dn} L.re h;show AB q (λf c8 N=>?_) (λe c8 N=>N);cases f with
 |next=>
  let(J,H',Z,a4):=N;show ho O c8 J H' Dn (Z.unre L.ok) a4
 |brk=>let(J,H',Z,a4):=N;show(J,H',Z.unre L.ok,a4)
 |cont=>let(J,H',Z,a4):=N;show(J,H',Z.unre L.ok,a4)
 |ret u=>let(v,J,H',Z,r,a4):=N;show(v,J,H',Z.unre L.ok,r,a4)
end L2
namespace PySem.W
open PySem PySem.Spec PySem.Calls PyProof.Rows
open Builtin Builtin.ObjectAttr Builtin.Getset_descriptor
structure XIs (K:Frag) (C:Addr):Prop where
 g:findIn K (.ref C) "__getattribute__">(some (.builtin "BaseException.__getattribute__"))
 h:findIn K (.ref C) "__getattr__">none
 b:mroIn K C (.type "BaseException")>true
 d:hasDictIn K C=true
 a:findIn K (.ref C) "__class__">(some (.builtin "object.__class__"))
 n:specialIn K (.builtin "object.__class__") "__get__">(some (.builtin "getset_descriptor.__get__"))
 t:takesIn K (.builtin "object.__class__")>true
 m:mroIn K C (.type "object")>true
def ExcAt (e C:Addr) (h:Heap):Prop:=∃o,h.get? e>o/\o.cls=.ref C
section
variable {K:Frag} {e C:Addr}
theorem ExcAt.ty {M:Model} {h:Heap} (p:ExcAt e C h):Looks M h (typeOf (.ref e)) (.ref C):=by
 let(o,h1,h2):=p;show h2 ▸ (Looks.ld h1).andThen .now
set_option tactic.hygienic true in
theorem wl {M:Model} {h:Heap} (hin:K.In h) (x:XIs K C):Looks M h (isType (.ref C)) true:=by
 let(cd,hcd,_):=any_some x.d;unfold clsIn at hcd
 split at hcd
 .rename_i ho';intro A' Q' E' s' k q';unfold isType loadHead;show fA (wpAny_loadPart (k _ _ (hin _ _ ho')) (BA q'))
 .cases hcd
theorem WP {M:Model} {h:Heap} (j:K.In h) (x:XIs K C):Looks M h (find (.ref e) (.ref C) "__class__") (.bind (.builtin "getset_descriptor.__get__") (.builtin "object.__class__")):=by
 let D:=looks_findIn (M:=M) j x.a;let F:Looks M h (getOf (some (.builtin "object.__class__"))) (some (.builtin "getset_descriptor.__get__")):=looks_specialIn j x.n;let J:=looks_takesIn (M:=M) j x.t;show D.andThen (F.andThen ((show Looks M h (dataDescriptor? (some (.builtin "object.__class__")) (some (.builtin "getset_descriptor.__get__"))) (some _) from J.andThen .now).andThen (Looks.tag .now)))
variable {prog:Program} {w:World} {A:Around} {E:Value->Shared->Prop} {s:Shared}
theorem RT {j:Result->Shared->Prop} {F:Value} (D:K.In s.heap) (p:ExcAt e C s.heap) (x:XIs K C) (h:j (.ok (.ret (.ref C))) s):
  codeAny (model prog w) A (.call (.builtin "getset_descriptor.__get__") ⟨[.builtin "object.__class__",.ref e,F],[]⟩) j s:=by
 let(O,g,N,t,U):=s;let J:=p.ty (M:=model prog w);let L:=looks_mroIn (M:=model prog w) D x.m;show codeAny_call_builtin KF.slot_gs.plain KF.entry_gs (KF.slot_gs.check _ _ _ _ _ _ _ _ KF.type_class (KF.args_gs _ _ _) ?_);unfold Builtin.«getset_descriptor.__get__» descrGet;rw[dga_obj];show fA (BA ?_);unfold descrGetter descrCheckInstance descrNameAndClass isInstance;simp only[KF.owner_class]
 repeat lk
 show⟨Code.quiet_builtin _ ∅,codeAny_builtin KF.entry_class ?_⟩;unfold Builtin.«object.__class__» shownTypeOf
 repeat lk
 show h
theorem zM {M:Model} {j:Value} {Q:Unit->Shared->Prop} (W:K.In s.heap) (p:ExcAt e C s.heap) (x:XIs K C) (Y:Q ⟨⟩ s):wpAny M A (checkBuiltinCall "BaseException.__getattribute__" ⟨[.ref e,j],[]⟩) Q E s:=by
 let N:builtinKind "BaseException.__getattribute__">.slot:=∅;let O:splitId "BaseException.__getattribute__">("BaseException","__getattribute__"):=∅;let U:=F.args_bexc_ga (.ref e) j;let(V,g,d,t,Z):=s;let D:=p.ty (M:=M);let J:=looks_mroIn (M:=M) W x.b;let L:Looks M V (isInstance (.ref e) (.type "BaseException")) true:=D.andThen J;simp only[checkBuiltinCall,N,O];show fA (L.at ?_);simp only[Bool.not_true,SA,HB];show wpAny_of_eq U Y
theorem AM {D:Tok} {Q:Fin->Shared->Prop} (j:K.In s.heap) (p:ExcAt e C s.heap) (x:XIs K C) (N:Q (.done (.ret (.ref C))) s):wpAny (model prog w) A (Builtin.«object.__getattribute__» ⟨[.ref e,.str "__class__" D],[]⟩) Q E s:=by
 let(L,g,d,t,O):=s;let F:=p.ty (M:=model prog w);let J:=WP (M:=model prog w) (e:=e) j x;unfold Builtin.«object.__getattribute__»;show fA (BA (a:=(Value.ref e,[Value.str "__class__" D])) ?_);show fA (BA (a:=("__class__":Str)) ?_);show fA (F.at (fA (J.at ?_)));change wpAny _ _ (bindTo (Value.builtin "getset_descriptor.__get__") (Value.builtin "object.__class__") (Value.ref e) (Value.ref C)) _ _ _;unfold bindTo;dsimp only;show fA (ZB (wpAny_call (RT (s:=(L,g,d,t,O)) j p x ?_)));show BA N
theorem xl {Q:Option Value->Shared->Prop} (j:K.In s.heap) (p:ExcAt e C s.heap) (x:XIs K C) (h:Q (↑C) {s with toks:=s.toks+1}):wpAny (model prog w) A (getAttr? (.ref e) "__class__") Q E s:=by
 let(D,g,d,t,J):=s;let L:=p.ty (M:=model prog w);let N:=looks_findIn (M:=model prog w) j x.g;let O:=looks_findIn (M:=model prog w) j x.h;unfold getAttr? getAttrBy? getAttrBy;show fA (wpAny_mkText (fA (wpAny_attempt (ZB (fA (L.at (fA (N.at ?_))))))));let U:(Value.builtin "BaseException.__getattribute__" == Value.builtin "object.__getattribute__")=false:=∅;simp only[U,Bool.and_false,SA,HB];unfold getAttrByItsOwn hookBefore;rw[iA (show onTheHeap (Value.ref C)=true from rfl)];show fA (O.at (fA (wpAny_attempt (ZB ?_))));unfold callGetattribute boundAndCalled;simp only[zC,SA,HB];show fA (wpAny_of_eq (PySem.F.attr_ValueError.ga.bind (.ref e)) ?_);show wpAny_call (codeAny_call_builtin PySem.F.attr_ValueError.ga.plain F.entry_bexc_ga (zM (s:=(D,g,d,t+1,J)) j p x (AM (s:=(D,g,d,t+1,J)) j p x ?_)));show handed_on rfl (BA h)
set_option tactic.hygienic true in
theorem kitx_exc (x:XIs K C):KitX K (.ref e) (.ref C) (ExcAt e C) where
 ty:=λο ο ο p=>p.ty
 it:=λο ο hin ο=>wl hin x
 ne:=λh tp dd its n sl hin htp=>by
  show Bool.eq_false_iff.mpr λq=>?_;let(cd,hcd,_):=any_some x.d;let e1:C=tp:=Value.ref.inj (XB.mp q);rw[<-e1] at htp;unfold clsIn at hcd
  split at hcd
  .rename_i ho';let z:=(hin _ _ ho').symm.trans htp;cases z
  .cases hcd
 ca:=λhin p k=>xl hin p x k
end
end PySem.W
namespace L2
open PySem PySem.Spec PyProof.Rows
abbrev XI (K:PySem.W.Frag) (C:Addr):Prop:=PySem.W.XIs K C
def PH:V->Value
 |.ref a=>.ref a
 |.ty n=>.type n
 |_=>.none
theorem UT {a:Addr}:PH (.ref a)=.ref a:=rfl
theorem yl {n:String}:PH (.ty n)=.type n:=rfl
theorem LK {X:Cx} {D:!(Addr×Obj)} {F:St} {H:Hp} {s:Shared} {a C:Addr} (j:LC X D F H s) (e:H a>(mG a C)):PySem.W.ExcAt a C s.heap:=by
 let((o,vs,h1,h2,_),_):=(show tD X.prog X.w H s.heap a (mG a C) from j.hok a _ e)
 show(o,h1,h2)
theorem db {X:Cx} {K:PySem.W.Frag} (L:X.K=K:=by rfl):eE X (.builtin "isinstance") (λxs H Q=>∃a y C b,xs=[.ref a,y]/\H a>(mG a C)/\XI K C/\PySem.W.kitOne K (.ref C) (PH y)>b/\Q (.bl b) H):=by
 subst L;intro W s Y H xs us Q j r h;let(a,y,C,b,rfl,e,x,k,q):=h;cases r with
 |cons N D=>
  cases D with
  |cons O D=>
   cases D;cases N;let J:∀u,SC y u->PySem.W.kitOne X.K (.ref C) (PH y)>b->PySem.W.kitOne X.K (.ref C) u>b:=λu F k=>by
    cases y with
    |ref a=>cases F;show k
    |ty n=>cases F;show k
    |_=>show absurd k (by unfold PH PySem.W.kitOne PySem.W.kitCls;simp)
   show PySem.W.kia_one (PySem.W.kitx_exc x) j.kIn (LK j e) (J _ O k) nofun λU=>(.bl b,H,j.tok U,rfl,q)
theorem gb:∀{cs:!V} {its:!Value},VC cs its->(∀y∈cs,(∃a,y=.ref a)\/∃n,y=.ty n)->its=cs.map PH
 |_,_,.nil,_=>rfl
 |y::cs,u::us,.cons r t,h=>by
  let e:=gb t λz hz=>h z (kA _ hz);let(a,rfl)||(n,rfl):=h y (cA ..)
  .cases r;rw[e];rfl
  .cases r;rw[e];rfl
theorem zl {X:Cx} {K:PySem.W.Frag} (L:X.K=K:=by rfl):eE X (.builtin "isinstance") (λxs H Q=>∃a p D C b,xs=[.ref a,.ref p]/\H a>(mG a C)/\XI K C/\cK (H p)>D/\(∀y∈D,(∃a,y=.ref a)\/∃n,y=.ty n)/\PySem.W.kitAny K (.ref C) (D.map PH)>b/\Q (.bl b) H):=by
 subst L;intro a5 s a6 H xs us Q j r h;let(a,p,D,C,b,rfl,e,x,O,N,k,q):=h;cases r with
 |cons Y J=>
  cases J with
  |cons Z J=>
   cases J;cases Y;cases Z;let(U,a0,(o,ho,F,n,hd),_):=j.tuple (gl (K:=X.K) O);let(V,a3,W,a4):=o;let F:V=.type "tuple":=F;let hd:W=.seq U.toArray n:=hd;subst F hd;rw[<-gb a0 N] at k;show PySem.W.kia_tup (PySem.W.kitx_exc x) j.kIn (LK j e) ho k (λa2=>nomatch a2) λa1=>(.bl b,H,j.tok a1,rfl,q)
inductive Dv where
 |leaf (v:V)
 |seq (t:Bool) (ds:!Dv)
mutual
noncomputable def XD (K:PySem.W.Frag) (H:Hp):Dv->V->Prop
 |.leaf v,x=>x=v/\BF v=true
 |.seq t ds,x=>∃a xs,x=.ref a/\(if t=true then HD K H a xs else BD K H a xs)/\rD K H ds xs
noncomputable def rD (K:PySem.W.Frag) (H:Hp):!Dv->!V->Prop
 |[],xs=>xs=[]
 |d::ds,xs=>∃x r,xs=x::r/\XD K H d x/\rD K H ds r
end
mutual
noncomputable def alike:Dv->Dv->Bool
 |.leaf _,.leaf _=>true
 |.seq t ds,.seq u es=>t == u&&vD ds es
 |_,_=>false
noncomputable def vD:!Dv->!Dv->Bool
 |d::ds,e::es=>alike d e&&vD ds es
 |_,_=>true
end
mutual
noncomputable def EE:Dv->Dv->Bool
 |.leaf v,.leaf w=>GP v w
 |.seq _ ds,.seq _ es=>zD ds es
 |_,_=>false
noncomputable def zD:!Dv->!Dv->Bool
 |[],[]=>true
 |d::ds,e::es=>EE d e&&zD ds es
 |_,_=>false
end
mutual
noncomputable def uH:Dv->Nat
 |.leaf _=>0
 |.seq _ ds=>ID ds+1
noncomputable def ID:!Dv->Nat
 |[]=>0
 |d::ds=>max (uH d) (ID ds)
end
theorem rD.length {K:PySem.W.Frag} {H:Hp}:∀{ds:!Dv} {xs:!V},rD K H ds xs->ds.length=xs.length
 |[],xs,h=>by unfold rD at h;subst h;rfl
 |d::ds,xs,h=>by
  unfold rD at h;let(x,r,rfl,_,h):=h;simp[h.length]
theorem rD.get {K:PySem.W.Frag} {H:Hp}:∀{ds:!Dv} {xs:!V} {j:Nat} {d:Dv},rD K H ds xs->ds[j]?>d->∃x,xs[j]?>x/\XD K H d x
 |[],xs,j,d,h,e=>by simp at e
 |d'::ds,xs,0,d,h,e=>by
  unfold rD at h;let(x,r,rfl,hx,h):=h;simp at e;subst e;show(x,rfl,hx)
 |d'::ds,xs,j+1,d,h,e=>by
  unfold rD at h;let(x,r,rfl,hx,h):=h;let(y,e1,e2):=rD.get (j:=j) h (by simpa using e);show(y,by simpa using e1,e2)
theorem Pl (n:Nat) (f:Nat->Bool):(List.range (n+1)).all f=(f 0&&(List.range n).all λj=>f (j+1)):=by
 rw[List.range_succ_eq_map,List.all_cons,List.all_map];rfl
theorem VT:∀(ds es:!Dv),zD ds es=(decide (ds.length=es.length)&&(List.range (min ds.length es.length)).all λj=>EE (ds.getD j (.leaf .non)) (es.getD j (.leaf .non)))
 |[],[]=>by simp[zD]
 |[],e::es=>by simp[zD]
 |d::ds,[]=>by simp[zD]
 |d::ds,e::es=>by
  let ih:=VT ds es;rw[zD,ih];let hm:min (d::ds).length (e::es).length=min ds.length es.length+1:=by simp[Nat.succ_min_succ]
  rw[hm,Pl];simp only[gB,Nat.add_right_cancel_iff,List.getD_cons_zero,List.getD_cons_succ];cases EE d e<;>cases decide (ds.length=es.length)<;>simp
theorem WT {v:V} (h:BF v=true):GP v v=true:=by
 cases v<;>first|rfl|(simp[GP];done)|exact absurd h (by simp[BF])
mutual
theorem jb {X:Cx} {pins:!(Addr×Obj)} {σ:St} {H:Hp} {s:Shared} (I:LC X pins σ H s):∀(d e:Dv) (x:V),alike d e=true->XD X.K H d x->XD X.K H e x->EE d e=true
 |.leaf a,.leaf b,x,_,hx,hy=>by
  unfold XD at hx hy;let(rfl,fx):=hx;let(rfl,fy):=hy;rw[EE];show WT fx
 |.leaf a,.seq t es,_,h,_,_=>by simp[alike] at h
 |.seq t ds,.leaf b,_,h,_,_=>by simp[alike] at h
 |.seq t ds,.seq t' es,x,h,hx,hy=>by
  rw[alike,OA] at h;let ht:=XB.mp h.1;subst ht;unfold XD at hx hy;let(a,xs,rfl,hsx,hL):=hx;let(b,ys,e,hsy,hM):=hy;cases e;rw[EE];let exy:xs=ys:=by
   cases t with
   |true=>show I.tuple_inj (by simpa using hsx) (by simpa using hsy)
   |false=>show I.list_inj (by simpa using hsx) (by simpa using hsy)
  subst exy;show kb I ds es xs h.2 hL hM
theorem kb {X:Cx} {pins:!(Addr×Obj)} {σ:St} {H:Hp} {s:Shared} (I:LC X pins σ H s):∀(ds es:!Dv) (xs:!V),vD ds es=true->rD X.K H ds xs->rD X.K H es xs->zD ds es=true
 |[],[],_,_,_,_=>by rw[zD]
 |[],e::es,xs,_,hx,hy=>by
  unfold rD at hx hy;let(x,r,e1,_):=hy;rw[hx] at e1;cases e1
 |d::ds,[],xs,_,hx,hy=>by
  unfold rD at hx hy;let(x,r,e1,_):=hx;rw[hy] at e1;cases e1
 |d::ds,e::es,xs,h,hx,hy=>by
  rw[vD,OA] at h;unfold rD at hx hy;let(x,r,rfl,hx,hxr):=hx;let(y,r',e1,hy,hyr):=hy;cases e1;rw[zD,jb I d e x h.1 hx hy,kb I ds es r h.2 hxr hyr]
  rfl
end
theorem qb {X:Cx} {a4:!(Addr×Obj)} {a5:St} {H:Hp} {s:Shared} (O:LC X a4 a5 H s) {A:Around} {t:Bool} {J es:!Dv} {a b:Addr} {xs ys:!V} (a6:A.units < cLine)
  (Z:if t=true then HD X.K H a xs else BD X.K H a xs) (a0:if t=true then HD X.K H b ys else BD X.K H b ys) (a9:J.length=xs.length) (ab:es.length=ys.length)
  (a1:∀(j:Nat) (u v:Value) (us vs:!Value),VC xs us->VC ys vs->us[j]?>u->vs[j]?>v->SeqAt.EqAt A.in1 s u v (EE (J.getD j (.leaf .non)) (es.getD j (.leaf .non)))):
  SeqAt.RcAt A s (.ref a) (.ref b) (zD J es):=by
 rw[VT];cases t with
 |false=>
  let(D,L,pl,_):=O.list (show BD X.K H a xs by simpa using Z);let(F,N,U,_):=O.list (show BD X.K H b ys by simpa using a0);let n1:=L.length;let a3:=N.length;by_cases Y:J.length=es.length
  .let q:=SeqAt.RcAt.lists (e:=λj=>EE (J.getD j (.leaf .non)) (es.getD j (.leaf .non))) pl.isList U.isList (by simp;omega) (by omega:A.units < cLine) (λj h1 h2=>by
    let h1:j < D.length:=by simpa using h1
    let h2:j < F.length:=by simpa using h2
    let e:=a1 j (D[j]) (F[j]) D F L N (by simp[h1]) (by simp[h2]);simpa using e)
   rw[qA Y,Bool.true_and];let W:min J.length es.length=D.toArray.size:=by simp;omega
   rw[W];show q
  .let q:=SeqAt.RcAt.lists_lengths (A:=A) pl.isList U.isList (by simp;omega) (by omega:A.units < cLine);rw[HA Y,zC];show q
 |true=>
  let(D,L,pl,_):=O.tuple (show HD X.K H a xs by simpa using Z);let(F,N,U,_):=O.tuple (show HD X.K H b ys by simpa using a0);let n1:=L.length;let a3:=N.length;let q:=SeqAt.RcAt.tuples (e:=λj=>EE (J.getD j (.leaf .non)) (es.getD j (.leaf .non))) (show s.heap.IsTuple a D.toArray from pl) (show s.heap.IsTuple b F.toArray from U) (by omega:A.units < cLine) (λj h1 h2=>by
    let h1:j < D.length:=by simpa using h1
    let h2:j < F.length:=by simpa using h2
    let e:=a1 j (D[j]) (F[j]) D F L N (by simp[h1]) (by simp[h2]);simpa using e)
  let W:min D.toArray.size F.toArray.size=min J.length es.length:=by simp;omega
  let a2:(D.toArray.size == F.toArray.size)=decide (J.length=es.length):=by
   rw[rB];simp;omega
  rw[W,a2,Bool.and_comm] at q;show q
mutual
theorem Ql {X:Cx} {pins:!(Addr×Obj)} {σ:St} {H:Hp} {s:Shared} (I:LC X pins σ H s):∀(d e:Dv) (A:Around) (x y:V) (u v:Value),A.units+uH d < cLine->alike d e=true->XD X.K H d x->XD X.K H e y->SC x u->SC y v->SeqAt.EqAt A s u v (EE d e)
 |.leaf a,.leaf b,A,x,y,u,v,_,_,hx,hy,rx,ry=>by
  unfold XD at hx hy;let(rfl,fx):=hx;let(rfl,fy):=hy;rw[EE];show kM rx ry fx fy
 |.leaf a,.seq t es,A,x,y,u,v,_,h,_,_,_,_=>by simp[alike] at h
 |.seq t ds,.leaf b,A,x,y,u,v,_,h,_,_,_,_=>by simp[alike] at h
 |.seq t ds,.seq t' es,A,x,y,u,v,hu,h,hx,hy,rx,ry=>by
  let h0:=h;rw[alike,OA] at h;let ht:=XB.mp h.1;subst ht;let hx0:=hx;let hy0:=hy;unfold XD at hx hy;let(a,xs,rfl,hsx,hL):=hx;let(b,ys,rfl,hsy,hM):=hy;cases rx;cases ry;by_cases hab:a=b
  .subst hab;rw[jb I _ _ _ h0 hx0 hy0];show SeqAt.EqAt.same _
  .rw[uH] at hu;let hu1:A.in1.units+ID ds < cLine:=by change A.units+1+ID ds < cLine;omega
   let ih:=fS I ds es A.in1 xs ys hu1 h.2 hL hM;rw[EE];show SeqAt.EqAt.of_refs hab (qb I ⋯ hsx hsy hL.length hM.length ih)
theorem fS {X:Cx} {pins:!(Addr×Obj)} {σ:St} {H:Hp} {s:Shared} (I:LC X pins σ H s):∀(ds es:!Dv) (A:Around) (xs ys:!V),A.units+ID ds < cLine->vD ds es=true->rD X.K H ds xs->rD X.K H es ys->
  ∀(j:Nat) (u v:Value) (us vs:!Value),VC xs us->VC ys vs->us[j]?>u->vs[j]?>v->SeqAt.EqAt A s u v (EE (ds.getD j (.leaf .non)) (es.getD j (.leaf .non)))
 |[],es,A,xs,ys,_,_,hx,hy,j,u,v,us,vs,rx,ry,e1,e2=>by
  unfold rD at hx;subst hx;cases rx;simp at e1
 |d::ds,[],A,xs,ys,_,_,hx,hy,j,u,v,us,vs,rx,ry,e1,e2=>by
  unfold rD at hy;subst hy;cases ry;simp at e2
 |d::ds,e::es,A,xs,ys,hu,h,hx,hy,j,u,v,us,vs,rx,ry,e1,e2=>by
  rw[vD,OA] at h;rw[ID] at hu;unfold rD at hx hy;let(x,r,rfl,hx,hxr):=hx;let(y,r',rfl,hy,hyr):=hy;cases rx with
  |cons p1 p2=>
   cases ry with
   |cons q1 q2=>
    cases j with
    |zero=>
     simp at e1 e2;subst e1 e2;show Ql I d e A x y _ _ ⋯ h.1 hx hy p1 q1
    |succ k=>
     let z:=fS I ds es A r r' ⋯ h.2 hxr hyr k u v _ _ p2 q2 (by simpa using e1) (by simpa using e2);simpa using z
end
theorem iS {A:Around} {k:Nat} (j:cE k A):A.units+4+2 < cLine:=by have:=j.units;omega
def BM (K:PySem.W.Frag) (n:Nat):R2:=λx y H Q=>∃t ds es,XD K H (.seq t ds) x/\XD K H (.seq t es) y/\vD ds es=true/\ID ds<=n/\Q (.bl (zD ds es)) H
def XT (K:PySem.W.Frag) (n:Nat):R2:=λx y H Q=>∃t ds es,XD K H (.seq t ds) x/\XD K H (.seq t es) y/\vD ds es=true/\ID ds<=n/\Q (.bl (not (zD ds es))) H
theorem ZP {X:Cx} {Y:!(Addr×Obj)} {a1:St} {H:Hp} {s:Shared} (D:LC X Y a1 H s) {A:Around} {n:Nat} (a2:A.units+n+2 < cLine) {t:Bool} {j es:!Dv} {x y:V} {u v:Value} (L:XD X.K H (.seq t j) x) (N:XD X.K H (.seq t es) y) (O:vD j es=true) (hd:ID j<=n)
  (Z:SC x u) (a0:SC y v):SeqAt.RcAt A s u v (zD j es):=by
 unfold XD at L N;let(a,xs,rfl,U,F):=L;let(b,ys,rfl,W,J):=N;cases Z;cases a0;show qb D ⋯ U W F.length J.length (fS D j es A.in1 xs ys (by change A.units+1+ID j < cLine;omega) O F J)
theorem YT {X:Cx} {n:Nat} (F:X.A.units+n+2 < cLine):zF X (compareOp .Eq) (BM X.K n):=by
 intro V s W H x y v u Q j N O h;let(t,U,es,J,L,D,hd,q):=h;show ZP j F J L D hd N O X.prog X.w X.xe _ (.bl _,H,j,rfl,q)
theorem Rl {X:Cx} {a4:!(Addr×Obj)} {a5:St} {H:Hp} {s:Shared} (O:LC X a4 a5 H s) {A:Around} {t:Bool} {J es:!Dv} {a b:Addr} {xs ys:!V} (a6:A.units < cLine)
  (Z:if t=true then HD X.K H a xs else BD X.K H a xs) (a0:if t=true then HD X.K H b ys else BD X.K H b ys) (a9:J.length=xs.length) (ab:es.length=ys.length)
  (a1:∀(j:Nat) (u v:Value) (us vs:!Value),VC xs us->VC ys vs->us[j]?>u->vs[j]?>v->SeqAt.EqAt A.in1 s u v (EE (J.getD j (.leaf .non)) (es.getD j (.leaf .non)))):
  SeqAt.RcNeAt A s (.ref a) (.ref b) (not (zD J es)):=by
 rw[VT];cases t with
 |false=>
  let(D,L,pl,_):=O.list (show BD X.K H a xs by simpa using Z);let(F,N,U,_):=O.list (show BD X.K H b ys by simpa using a0);let n1:=L.length;let a3:=N.length;by_cases Y:J.length=es.length
  .let q:=SeqAt.RcNeAt.lists (e:=λj=>EE (J.getD j (.leaf .non)) (es.getD j (.leaf .non))) pl.isList U.isList (by simp;omega) (by omega:A.units < cLine) (λj h1 h2=>by
    let h1:j < D.length:=by simpa using h1
    let h2:j < F.length:=by simpa using h2
    let e:=a1 j (D[j]) (F[j]) D F L N (by simp[h1]) (by simp[h2]);simpa using e)
   rw[qA Y,Bool.true_and];let W:min J.length es.length=D.toArray.size:=by simp;omega
   rw[W];show q
  .let q:=SeqAt.RcNeAt.lists_lengths (A:=A) pl.isList U.isList (by simp;omega) (by omega:A.units < cLine);rw[HA Y,zC];show q
 |true=>
  let(D,L,pl,_):=O.tuple (show HD X.K H a xs by simpa using Z);let(F,N,U,_):=O.tuple (show HD X.K H b ys by simpa using a0);let n1:=L.length;let a3:=N.length;let q:=SeqAt.RcNeAt.tuples (e:=λj=>EE (J.getD j (.leaf .non)) (es.getD j (.leaf .non))) (show s.heap.IsTuple a D.toArray from pl) (show s.heap.IsTuple b F.toArray from U) (by omega:A.units < cLine) (λj h1 h2=>by
    let h1:j < D.length:=by simpa using h1
    let h2:j < F.length:=by simpa using h2
    let e:=a1 j (D[j]) (F[j]) D F L N (by simp[h1]) (by simp[h2]);simpa using e)
  let W:min D.toArray.size F.toArray.size=min J.length es.length:=by simp;omega
  let a2:(D.toArray.size == F.toArray.size)=decide (J.length=es.length):=by
   rw[rB];simp;omega
  rw[W,a2,Bool.and_comm] at q;show q
theorem CM {X:Cx} {n:Nat} (Z:X.A.units+n+2 < cLine):zF X (compareOp .NotEq) (XT X.K n):=by
 intro a0 s a1 H x y v u Q j W Y h;let(t,D,es,L,N,O,hd,q):=h;unfold XD at L N;let(a,xs,rfl,U,F):=L;let(b,ys,rfl,V,J):=N;cases W;cases Y;show Rl j ⋯ U V F.length J.length (fS j D es X.A.in1 xs ys (by change X.A.units+1+ID D < cLine;omega) O F J) X.prog X.w X.xe _ (.bl _,H,j,rfl,q)
def SD (ns:!Int):!Dv:=ns.map λi=>.leaf (.int i)
theorem rb {K:PySem.W.Frag} {H:Hp}:∀(ns:!Int),rD K H (SD ns) (ns.map V.int)
 |[]=>by unfold SD rD;rfl
 |n::ns=>by
  change rD K H (.leaf (.int n)::SD ns) (.int n::ns.map V.int);unfold rD;show(_,_,rfl,by unfold XD;show⟨rfl,rfl⟩,rb ns)
theorem ub {K:PySem.W.Frag} {H:Hp} {a:Addr} {ns:!Int} (h:HD K H a (ns.map V.int)):XD K H (.seq true (SD ns)) (.ref a):=by
 unfold XD;show(a,_,rfl,by simpa using h,rb ns)
theorem wb:∀(ns ms:!Int),vD (SD ns) (SD ms)=true
 |[],_=>by unfold SD;simp[vD]
 |_::_,[]=>by unfold SD;simp[vD]
 |n::ns,m::ms=>by
  change vD (.leaf (.int n)::SD ns) (.leaf (.int m)::SD ms)=true;rw[vD,alike,wb ns ms];rfl
theorem xb:∀(ns:!Int),ID (SD ns)=0
 |[]=>by unfold SD;simp[ID]
 |n::ns=>by
  change ID (.leaf (.int n)::SD ns)=0;rw[ID,uH,xb ns];rfl
theorem yb:∀(ns ms:!Int),zD (SD ns) (SD ms)=decide (ns=ms)
 |[],[]=>by unfold SD;simp[zD]
 |[],_::_=>by unfold SD;simp[zD]
 |_::_,[]=>by unfold SD;simp[zD]
 |n::ns,m::ms=>by
  change zD (.leaf (.int n)::SD ns) (.leaf (.int m)::SD ms)=_;rw[zD,EE,yb ns ms];change ((n == m)&&decide (ns=ms))=_;rw[rB];simp
def CF (sc:Scope) (env:Env) (x:Str) (fs:!Str):Bool:=
 sc.kind == .function&&sc.names.all (λy=>y.2 != .cell&&(y.2 != .local || sc.names.lookup y.1 == some .local)&&(y.2 != .free || env.kindOf y.1 == some .cell || env.kindOf y.1 == some .free))&&
  sc.names.lookup x == some .local&&fs.all (λf=>sc.names.lookup f == some .free)
structure fF (sc:Scope) (env:Env) (x:Str) (fs:!Str):Prop where
 kind:sc.kind=.function
 nocell:∀y∈sc.names,y.2≠.cell
 own:∀y∈sc.names,y.2=.local->sc.names.lookup y.1>.local
 fr:∀y∈sc.names,y.2=.free->env.kindOf y.1>.cell\/env.kindOf y.1>.free
 x:sc.names.lookup x>.local
 fs:∀f∈fs,sc.names.lookup f>.free
theorem fF.of {F:Scope} {env:Env} {x:Str} {fs:!Str} (h:CF F env x fs=true):fF F env x fs:=by
 unfold CF at h;simp only[OA,XB,List.all_eq_true,Bool.or_eq_true,bne_iff_ne,ne_eq] at h;let(((h1,h2),J),L):=h;show(h1,λy D=>(h2 y D).1.1,λy D e=>?_,λy D e=>?_,J,L)
 .let j||j:=(h2 y D).1.2
  .show absurd e j
  .show j
 .rcases (h2 y D).2 with (j|j)|j
  .show absurd e j
  .show .inl j
  .show .inr j
theorem ZT {env:Env}:∀(names:!(Str×NameKind)) (acc:!(Str×Addr)),(∀n,(n,NameKind.free)∈names->∃c,env.cells.lookup n>c)->
  ∃cl,(forIn names acc λy r=>(do if (y.2 == NameKind.free)=true then do let c<-cellOf env y.1;pure (ForInStep.yield ((y.1,c)::r)) else pure (ForInStep.yield r):Sem (ForInStep (!(Str×Addr)))))=pure cl/\
   (∀n c,cl.lookup n>c->acc.lookup n>c\/env.cells.lookup n>c)/\∀n,(∃c,acc.lookup n>c)\/(n,NameKind.free)∈names->∃c,cl.lookup n>c
 |[],acc,_=>(acc,rfl,λο ο e=>.inl e,λn h=>h.elim id λz=>nomatch z)
 |(n,k)::r,acc,h=>by
  let hr:∀m,(m,NameKind.free)∈r->∃c,env.cells.lookup m>c:=λm hm=>h m (kA _ hm);by_cases hk:k=.free
  .subst hk;let(c,hc):=h n cA;let(cl,e,h1,h2):=ZT r ((n,c)::acc) hr;show(cl,?_,λm c' hm=>?_,λm hm=>h2 m ?_)
   .rw[List.forIn_cons];simp only[beq_self_eq_true,if_true,cellOf,hc,pure_bind];show e
   .let z||z:=h1 m c' hm
    .rw[xC] at z;cases q:m == n with
     |true=>
      rw[q] at z;cases z;rw[XB.mp q];show .inr hc
     |false=>rw[q] at z;show .inl z
    .show .inr z
   .rw[xC];let(c',z)||hm:=hm
    .cases q:m == n with
     |true=>show .inl ⟨c,rfl⟩
     |false=>show .inl ⟨c',z⟩
    .let z||z:=pA.mp hm
     .cases z;rw[beq_self_eq_true];show .inl ⟨c,rfl⟩
     .show .inr z
  .let(cl,e,h1,h2):=ZT r acc hr;show(cl,?_,h1,λm hm=>h2 m ?_)
   .rw[List.forIn_cons];let hb:(k == NameKind.free)=false:=by simpa using hk
    simp only[hb,SA,HB,pure_bind];show e
   .let z||hm:=hm
    .show .inl z
    .let z||z:=pA.mp hm
     .cases z;show absurd rfl hk
     .show .inr z
theorem Sl {env:Env} {D:Scope} (h:∀n,(n,NameKind.free)∈D.names->∃c,env.cells.lookup n>c):
  ∃j,closureFor D env=pure j/\(∀n c,j.lookup n>c->env.cells.lookup n>c)/\∀n,(n,NameKind.free)∈D.names->∃c,j.lookup n>c:=by
 let(j,e,h1,h2):=ZT D.names [] h;show(j,?_,λn c J=>(h1 n c J).elim nofun id,λn F=>h2 n (.inr F));unfold closureFor;simp only[bind_pure];show e
theorem aU {env:Env}:∀{names:!(Str×NameKind)} {x:Str} {k:NameKind},(names.map λ(n,k)=>if (k == NameKind.free&&env.scope.kind == .function&&env.kindOf n == some .cell) then (n,NameKind.cell) else (n,k)).lookup x>k->
  k=.cell\/k=.free->names.lookup x>.free\/names.lookup x>.cell
 |[],_,_,h,_=>by simp at h
 |(n,k0)::r,x,k,h,hk=>by
  let ih:=@aU env r x k;let h:List.lookup x ((if (k0 == NameKind.free&&env.scope.kind == .function&&env.kindOf n == some .cell)=true then (n,NameKind.cell) else (n,k0))::(r.map λ(n,k)=>if (k == NameKind.free&&env.scope.kind == .function&&env.kindOf n == some .cell) then (n,NameKind.cell) else (n,k)))>k:=h;by_cases hc:(k0 == NameKind.free&&env.scope.kind == .function&&env.kindOf n == some .cell)=true
  .rw[iA hc] at h;simp only[xC] at h ⊢;cases hx:x == n with
   |true=>
    simp only[OA,XB] at hc;rw[hc.1.1];show .inl rfl
   |false=>rw[hx] at h;show ih h hk
  .rw[gA hc] at h;simp only[xC] at h ⊢;cases hx:x == n with
   |true=>
    rw[hx] at h;cases h;let rfl||rfl:=hk
    .show .inr rfl
    .show .inl rfl
   |false=>rw[hx] at h;show ih h hk
theorem zb {env:Env}:∀{names:!(Str×NameKind)} {x:Str},names.lookup x>.free->
  (names.map λ(n,k)=>if (k == NameKind.free&&env.scope.kind == .function&&env.kindOf n == some .cell) then (n,NameKind.cell) else (n,k)).lookup x>.cell\/(names.map λ(n,k)=>if (k == NameKind.free&&env.scope.kind == .function&&env.kindOf n == some .cell) then (n,NameKind.cell) else (n,k)).lookup x>.free
 |[],_,h=>by simp at h
 |(n,k0)::r,x,h=>by
  let ih:=@zb env r x;change List.lookup x ((if (k0 == NameKind.free&&env.scope.kind == .function&&env.kindOf n == some .cell)=true then (n,NameKind.cell) else (n,k0))::_)=_\/List.lookup x ((if (k0 == NameKind.free&&env.scope.kind == .function&&env.kindOf n == some .cell)=true then (n,NameKind.cell) else (n,k0))::_)=_;simp only[xC] at h;by_cases hc:(k0 == NameKind.free&&env.scope.kind == .function&&env.kindOf n == some .cell)=true
  .rw[iA hc];simp only[xC];cases hx:x == n with
   |true=>show .inl rfl
   |false=>rw[hx] at h;show ih h
  .rw[gA hc];simp only[xC];cases hx:x == n with
   |true=>rw[hx] at h;show .inr h
   |false=>rw[hx] at h;show ih h
def GD (X:Cx) (scope:Scope) (cl:!(Str×Addr)) (C:Addr) (N:!Str) (s₀:Shared) (H₀:Hp) (fp:!Addr) (xe:Value->Shared->Prop):Cx:=
 {X with N:=N,s₀:=s₀,H₀:=H₀,env:=compEnvC scope cl C X.env,outer:=X.stack,stack:=X.stack,ex:=fp,fn:=λο=>false,pn:=[],xe:=xe}
theorem DM {X:Cx}:XW X (λο ο ο=>False):=λο ο ο ο ο ο ο ο ο ο ο ο ο ο ο h=>h.elim
inductive vH (g:TG) (tt:TT) (te:TE):Type where
 |mk:vH g tt te
def PF (X:Cx) (ifs:!Expr) (tt:TT):Prop:=
 ∀(pins:!(Addr×Obj)) (s:Shared) (σ:St) (H:Hp) (Q:Bool->Hp->Prop),LC X pins σ H s->tt σ H Q->
  wpAny (model X.prog X.w) X.A (forIn ifs true λc r=>if r=true then do let ok<-isTrue c X.env (eval c X.env);pure (ForInStep.yield ok) else pure (ForInStep.yield r)) (TP X pins σ Q) X.xe s
def tYes:TT:=λο H Q=>Q true H
theorem MK {X:Cx}:PF X [] tYes:=λο ο ο H ο I h=>by
 simp only[List.forIn_nil];show BA (H,I,h)
theorem jS {X:Cx} {c:Expr} {j:TT} (h:PT X c j):PF X [c] j:=λJ s L H Q D F=>wpAny_tests_one (h J s L H Q D F)
def QH (g:TG) (tt:TT) (te:TE) (_:vH g tt te) (J:It) (σ0:St) (D:Addr) (Q:Hp->Prop) (H:Hp):Prop:=
 ∃W:Nat->Nat->!V->St->Hp->Prop,(∃m,W 0 m [] σ0 (JC H D (.lst [])))/\∀i m ys σ H,W i m ys σ H->
  (J.stop i H/\Q H)\/(J.go i H/\∃N:!V->St->Hp->Prop,(∀ys σ H,N ys σ H->∃m',m' < m/\W (i+1) m' ys σ H)/\
   ∀y H',J.yld i H y H'->g y σ H' λσ2 H2=>tt σ2 H2 λb H2'=>if b=true then te σ2 H2' λv H3=>H3 D>(.lst ys)/\ys.length < sizeLine/\N (ys++[v]) σ2 (JC H3 D (.lst (ys++[v]))) else N ys σ2 H2')
def bJ (wi:TI) (ix:!Nat) (g:TG) (tt:TT) (te:TE) (h:vH g tt te):TE:=λσ H Q=>wi σ H λJ H1=>∀D,H1 D=none->QH g tt te h J (none::ix.map λi=>(σ[i]?).join) D (λH'=>Q (.ref D) H') H1
theorem bU {lo:Int} {n:Nat} {g:TG} {L:TT} {J:TE} {h:vH g L J} {U:St} {D:Addr} {Q:Hp->Prop} {H:Hp} (Pv:Nat->!V->St->Hp->Prop) (h0:Pv 0 [] U (JC H D (.lst [])))
  (Z:∀i ys j H,i < n->Pv i ys j H->g (.int (lo+i)) j H λF W=>L F W λb N=>if b=true then J F N λv O=>O D>(.lst ys)/\ys.length < sizeLine/\Pv (i+1) (ys++[v]) F (JC O D (.lst (ys++[v]))) else Pv (i+1) ys F N) (hd:∀ys j H,Pv n ys j H->Q H):
  QH g L J h (QJ lo n) U D Q H:=by
 show(λi m ys j H=>i+m=n/\Pv i ys j H,(n,Nat.zero_add n,h0),λi m ys j H ⟨e,p⟩=>?_);by_cases hi:i < n
 .show .inr (hi,Pv (i+1),λys j H q=>(m - 1,⋯,⋯,q),?_);rintro y H' ⟨rfl,rfl⟩;show Z i ys j H' hi p
 .let Y:i=n:=⋯;subst Y;show .inl ⟨vA _,hd ys j H p⟩
theorem aQ {K:PySem.W.Frag} {a:Addr} {xs:!V} {g:TG} {N:TT} {L:TE} {h:vH g N L} {W:St} {D:Addr} {Q:Hp->Prop} {H:Hp} (Pv:Nat->!V->St->Hp->Prop) (h0:Pv 0 [] W (JC H D (.lst []))) (a0:∀i ys j H,i<=xs.length->Pv i ys j H->BD K H a xs)
  (a1:∀i x ys j H,xs[i]?>x->Pv i ys j H->g x j H λF Y=>N F Y λb O=>if b=true then L F O λv U=>U D>(.lst ys)/\ys.length < sizeLine/\Pv (i+1) (ys++[v]) F (JC U D (.lst (ys++[v]))) else Pv (i+1) ys F O) (hd:∀ys j H,Pv xs.length ys j H->Q H):
  QH g N L h (WL K a) W D Q H:=by
 show(λi m ys j H=>i+m=xs.length/\Pv i ys j H,(xs.length,Nat.zero_add _,h0),λi m ys j H ⟨e,p⟩=>?_);let J:=a0 i ys j H ⋯ p;by_cases hi:i < xs.length
 .let ex:xs[i]?>xs[i]:=GA hi;show .inr ((xs,_,J,ex),Pv (i+1),λys j H q=>(m - 1,⋯,⋯,q),?_);rintro y H' ⟨rfl,a2⟩;show a1 i y ys j H' (a2 xs J) p
 .let Z:i=xs.length:=⋯;subst Z;show .inl ⟨(xs,J,vA _),hd ys j H p⟩
theorem Tl {prog:Program} {w:World} {A:Around} {j:Result->Shared->Prop} {s:Shared} {L J Y:Expr} {N:!Expr} {scope:Scope} {pos:Pos} {F acc:Value} {env:Env} (D:Nat->Shared->Prop)
  (ab:∀n s,D n s->wpAny (model prog w) A (pyNext F) (λr O=>match r with
   |none=>j (.ok .next) O
   |some v=>wpAny (model prog w) A (letOwnedTupleGo J F v) (λο Z=>wpAny (model prog w) A (assign J env v) (λο a0=>
    wpAny (model prog w) A (forIn N true λc r=>if r=true then do let ok<-isTrue c env (eval c env);pure (ForInStep.yield ok) else pure (ForInStep.yield r)) (λok U=>
     if ok=true then wpAny (model prog w) A (eval L env) (λx a1=>
      wpAny (model prog w) A (call (.builtin "list.append") [acc,x]) (λο a2=>∃m,m < n/\D m a2) (notedBy (model prog w) A env λe s'=>j (.error e) s') a1) (notedBy (model prog w) A env λe s'=>j (.error e) s') U
     else ∃m,m < n/\D m U) (notedBy (model prog w) A env λe s'=>j (.error e) s') a0) (notedBy (model prog w) A env λe s'=>j (.error e) s') Z) (notedBy (model prog w) A env λe s'=>j (.error e) s') O) (notedBy (model prog w) A env λe s'=>j (.error e) s') s)
  (n:Nat) (h:D n s):codeAny (model prog w) A (.compLoop (.ListComp L [(J,Y,N,0)] scope pos) 0 F acc env) j s:=by
 show codeAny_loop rfl D (λn s a3=>?_) n h;change wpAny _ _ ((compTurn (.ListComp L [(J,Y,N,0)] scope pos) 0 F acc env).onRaise (λx=>do noteFrame x env;theTreesLotGoes x)) _ _ s;show wpAny_noted ?_;rw[compTurn_list];show fA (wpAny_standAt (fA (AB (ab n s a3) (λr O V=>?_) λο ο h'=>h')));cases r with
 |none=>show BA V
 |some v=>
  show fA (AB V (λο Z a4=>?_) λο ο h'=>h');show fA (AB a4 (λο a0 a5=>fA (AB a5 (λok U W=>?_) λο ο h'=>h')) λο ο h'=>h');cases ok with
  |false=>show BA ⟨rfl,W⟩
  |true=>
   show fA (fA (AB W (λx a1 a6=>fA (AB a6 (λο a2 a9=>BA (BA ⟨rfl,a9⟩)) λο ο h'=>h')) λο ο h'=>h'))
structure NK (ck:Cx->Prop) (P:Program) (w:World) (K:PySem.W.Frag) (tg:Expr) (J:It) (fp:!Addr) (it:Addr) (tn:Nat->Heap->Prop):Prop where
 obj:∀i h,tn i h->∀b∈fp,∃o,h.get? b>o/\∀v,o.data≠.cell v
 keep:∀i h h',tn i h->(∀b∈fp,∀o,h.get? b>o->h'.get? b>o)->tn i h'
 item:∀(X:Cx),X.prog=P->X.w=w->X.K=K->ck X->∀(i:Nat) (pins:!(Addr×Obj)) (s:Shared) (σ:St) (H:Hp) (E:Value->Shared->Prop),LC X pins σ H s->(∀b∈fp,JF X pins H b)->tn i s.heap->J.go i H->
  wpAny (model P w) X.A (pyNext (.ref it)) (λr s1=>∃u,r>u/\wpAny (model P w) X.A (letOwnedTupleGo tg (.ref it) u) (λο s2=>∃x H',LC X pins σ H' s2/\SC x u/\J.yld i H x H'/\tn (i+1) s2.heap/\∀b∈fp,H' b=none) E s1) E s
 done:∀(X:Cx),X.prog=P->X.w=w->X.K=K->ck X->∀(i:Nat) (pins:!(Addr×Obj)) (s:Shared) (σ:St) (H:Hp) (E:Value->Shared->Prop),LC X pins σ H s->(∀b∈fp,JF X pins H b)->tn i s.heap->J.stop i H->
  wpAny (model P w) X.A (pyNext (.ref it)) (λr s1=>r=none/\LC X pins σ H s1) E s
 self:∀(A:Around) (i:Nat) (s:Shared) (Q:Value->Shared->Prop) (E:Value->Shared->Prop),tn i s.heap->Q (.ref it) s->wpAny (model P w) A (pyIter (.ref it)) Q E s
theorem oH.g {P:Program} {w:World} {K:PySem.W.Frag} {J:Expr} {j:It} {D:!Addr} {F:Addr} {L:Nat->Heap->Prop} (T:oH P w K J j D F L):NK (λX=>X.calm=true) P w K J j D F L:=(T.obj,T.keep,T.item,T.done,T.self)
section
variable {X:Cx}
theorem cU {d1:Cx->Prop} {a5:!(Addr×Obj)} {a3:St} {a6:Hp} {Z:Shared} {c4:Addr} {O:!Addr} {bb:Nat->Heap->Prop} {ab:It} {b9 dp bl:Expr} {c3:!Expr} {scope:Scope} {a0:!(Str×Addr)} {pos:Pos} {x:Str} {xs fs:!Str} {ix:!Nat} {g:TG} {e5:TT} {e4:TE}
  {cs:Addr->Hp->Prop} {cd:Value->Shared->Prop} {RR:Value->Addr->Result->Shared->Prop}
  (cm:LC X a5 a3 a6 Z) (T:NK d1 X.prog X.w X.K b9 ab O c4 bb) (e1:bb 0 Z.heap) (d3:∀b∈O,JF X a5 a6 b) (dl:∀C ad a9 J,d1 (GD X scope a0 C (xs++fs) ad a9 O J)) (S:fF scope X.env x fs)
  (ac:∀n c,a0.lookup n>c->X.env.cells.lookup n>c) (cv:∀n,(n,NameKind.free)∈scope.names->∃c,a0.lookup n>c) (dm:ix.map (X.N[·]?)=fs.map some)
  (er:∀C ad a9 J,PG (GD X scope a0 C (xs++fs) ad a9 O J) b9 g) (eq:∀C ad a9 J,PF (GD X scope a0 C (xs++fs) ad a9 O J) c3 e5) (eo:∀C ad a9 J,PE (GD X scope a0 C (xs++fs) ad a9 O J) bl e4)
  (h:∀D,a6 D=none->QH g e5 e4 .mk ab (List.replicate xs.length none++ix.map λi=>(a3[i]?).join) D (cs D) a6)
  (eh:∀D C H' s',LC X a5 a3 H' s'->cs D H'->(∃m,s'.heap.Ns C m)->JF X a5 H' C->RR (.ref D) C (.ok .next) s'):
  wpAny (model X.prog X.w) X.A (newList []) (λacc fl=>wpAny (model X.prog X.w) X.A (newFunctionEnv scope X.env.globals a0 [] X.env.qual none .none (some X.env)) (λcx fn=>
   codeAny (model X.prog X.w) X.A (.compStart (.ListComp bl [(b9,dp,c3,0)] scope pos) 0 (.ref c4) acc {cx with scope:=relabel scope X.env}) (RR acc cx.locals) fn) cd fl) cd Z:=by
 let el:a6 Z.heap.objs.size=none:=cm.hok.fresh (vA _);let(W,(ez,fy),fv):=h _ el;show wpAny_newObj_type (wpAny_newFunctionEnv S.nocell (by intro y a2;simp at a2) (λah bt c2=>?_) S.kind);let Y:LC X a5 a3 (JC a6 Z.heap.objs.size (.lst [])) {Z with heap:=Z.heap.push {cls:=.type "list",dict:=none,data:=.seq ([]:!Value).toArray}}:=
  cm.laid (t':=Z.toks) (λb u e=>AA _ e) (vA _) (by decide,[],0,.nil,MA _ rfl)
 obtain⟨L,bm⟩:∃f5:Shared,f5={Z with heap:=Z.heap.push {cls:=.type "list",dict:=none,data:=.seq ([]:!Value).toArray}}:=⟨_,rfl⟩
 rw[<-bm] at Y;let bn:Z.heap.push {cls:=.type "list",dict:=none,data:=.seq ([]:!Value).toArray}=L.heap:=by rw[bm]
 let e3:L.heap.objs.size=Z.heap.objs.size+1:=by rw[<-bn,Heap.size_push]
 dsimp only at bt c2 ⊢;rw[bn] at bt c2 ⊢;generalize en:JC a6 Z.heap.objs.size (.lst [])=H3 at *;let live:∀b∈O,b < Z.heap.objs.size:=λb F=>let ⟨_,e,_⟩:=T.obj _ _ e1 b F;FA e
 let a4:∀b∈O,JF X a5 H3 b:=λb F=>by
  show⟨?_,(d3 b F).2⟩;rw[<-en,WC (XA (live b F))];show (d3 b F).1
 let e6:JF X a5 H3 L.heap.objs.size:=Y.fpOk (vA _) (Y.hok.fresh (vA _));let c6:∀b o,L.heap.get? b>o->ah.get? b>o:=λb o e=>c2.extBut b o (XA (FA e)) (AA _ e);let nofs:∀b∈O,b∉xE X.stack:=λb F U=>(pA.mp (Y.stkSub b U)).elim (a4 b F).2.1 (a4 b F).2.2.1;let dn:bb 0 ah:=T.keep _ _ _ e1 λb ο o e=>c6 b o (by rw[<-bn];show AA _ e);let b3:=Y.env0;let ok:∀J,(GD X scope a0 L.heap.objs.size (xs++fs) L H3 O J).Ok:=λJ=>by
  show(Y.ok.mod,S.kind,Y.ok.glob,Y.ok.blt,vA _,λy U c h1 h2=>Y.ok.inj y U c (ac _ _ h1) (ac _ _ h2),λy a2=>?_,λy c U=>?_,Y.ok.hd,Y.ok.frames,.inl rfl,λb F=>⟨?_,λy c e=>(a4 b F).2.2.2.2.1 y c (ac _ _ e)⟩,b3.bs,b3.bsz,λb o e F=>?_,nofs,b3.funs,b3.frf)
  .let q:scope.names.lookup y>.free\/scope.names.lookup y>.cell:=by
    let a2||a2:=a2
    .show aU a2 (.inl rfl)
    .show aU a2 (.inr rfl)
   let q||q:=q
   .show cv y (PySem.mem_of_lookup q)
   .show absurd rfl (S.nocell _ (PySem.mem_of_lookup q))
  .cases U
  .show XA (KA (live b F) (by rw[e3];show Nat.le_succ _))
  .let U||U:=(a4 b F).2.2.2.1
   .show Y.ok.noex b o e U
   .show absurd (KA (FA e) (FB Y.ok.bsz U)) (vC _)
 let cw:∀c v,L.heap.IsCell c v->ah.IsCell c v:=λc v ⟨o,ho,hd⟩=>(o,c6 _ _ ho,hd)
 let e9:∀J,LC (GD X scope a0 L.heap.objs.size (xs++fs) L H3 O J) [] (List.replicate xs.length none++ix.map λi=>(a3[i]?).join) H3 {L with heap:=ah,toks:=L.toks+([]:!(Str×Value)).length}:=λJ=>by
  let hk:∀b o,L.heap.get? b>o->ah.get? b>o:=c6;show(ok J,rfl,Y.bare,Un.kept hk,(_,bt,λi y v h1 h2 g4=>?_),λy c e=>?_,Y.hok.fresh (vA _),λy c e=>Y.freeC y c (ac _ _ e),λp c0=>absurd (show p∈([]:!(Addr×Obj)) from c0) (by simp),Y.hok.kept hk,?_)
  .by_cases ew:i < xs.length
   .let h2:(List.replicate xs.length (none:Option V)++ix.map λi=>(a3[i]?).join)[i]?>(some v):=h2;rw[List.getElem?_append_left (by rw[VB];show ew)] at h2;let U:=List.eq_of_mem_replicate (QA h2);cases U
   .let h1:(xs++fs)[i]?>y:=h1;let h2:(List.replicate xs.length (none:Option V)++ix.map λi=>(a3[i]?).join)[i]?>(some v):=h2;rw[KB ⋯] at h1;rw[KB (by rw[VB];omega),VB] at h2;generalize i - xs.length=i at h1 h2;let a2:=S.fs y (QA h1);rw[pB] at h2;cases bh:ix[i]? with
    |none=>rw[bh] at h2;cases h2
    |some j=>
     rw[bh] at h2;let h2:(a3[j]?).join>v:=yA h2;let ey:a3[j]?>(some v):=by
      cases q:a3[j]? with
      |none=>rw[q] at h2;cases h2
      |some o=>rw[q] at h2;cases o with
       |none=>cases h2
       |some o=>cases h2;rfl
     let b4:X.N[j]?>y:=by
      let U:=congrArg (·[i]?) dm;simp only[pB,bh,h1,DC] at U;show yA U
     let dr:=S.fr _ (PySem.mem_of_lookup a2) rfl;let(m,b5,et):=Y.loc;let(u,r,l):=et j y v b4 ey (by let k||k:=dr;show .inr (.inl k);show .inr (.inr k));show(u,r,.inr ⟨zb a2,?_⟩);let(l,_)||(_,c,e,U):=l
     .let k||k:=dr<;>(rw[l] at k;cases k)
     .let(g3,d2):=cv y (PySem.mem_of_lookup a2);let q:=ac _ _ d2;rw[e] at q;cases q;show(c,d2,cw _ _ U)
  .let(v,U):=Y.cell y c (ac _ _ e);show⟨v,cw _ _ U⟩
  .let U:=congrArg List.length dm;simp only[dA] at U;change (List.replicate xs.length none++_:St).length=(xs++fs).length;rw[xA,xA,VB,dA,U]
 let ee:∀{J am H' s'},LC (GD X scope a0 L.heap.objs.size (xs++fs) L H3 O J) [] am H' s'->LC X a5 a3 H' s':=λ{J am H' s'} ab=>
  Y.call' (s':=s') (ch:=O) ab.os ab.base ab.hok ab.bare λb F=>((a4 b F).2.2.2.1,(a4 b F).2.1,(a4 b F).2.2.2.2.1,(a4 b F).2.2.2.2.2)
 let c9:∀{J} {H':Hp},(∀b∈O,H' b=none)->∀b∈O,JF (GD X scope a0 L.heap.objs.size (xs++fs) L H3 O J) [] H' b:=λ{J H'} b5 b F=>
  (b5 b F,XA (KA (live b F) (by rw[e3];show Nat.le_succ _)),nofs b F,.inl F,λy c e=>(a4 b F).2.2.2.2.1 y c (ac _ _ e),λp c0=>absurd (show p∈([]:!(Addr×Obj)) from c0) (by simp))
 let dv:∀c8:Shared,c8={L with heap:=ah,toks:=L.toks+([]:!(Str×Value)).length}->
   codeAny (model X.prog X.w) X.A (.compLoop (.ListComp bl [(b9,dp,c3,0)] scope pos) 0 (.ref c4) (.ref Z.heap.objs.size) (compEnvC scope a0 L.heap.objs.size X.env)) (RR (.ref Z.heap.objs.size) L.heap.objs.size) c8:=by
  rintro c8 rfl
  letI J:=notedBy (model X.prog X.w) X.A (compEnvC scope a0 L.heap.objs.size X.env) λe s'=>RR (.ref Z.heap.objs.size) L.heap.objs.size (.error e) s'
  show Tl (λn s'=>∃i ys am H',LC (GD X scope a0 L.heap.objs.size (xs++fs) L H3 O J) [] am H' s'/\bb i s'.heap/\(∀b∈O,H' b=none)/\W i n ys am H') ?_ ez (0,[],_,_,e9 J,dn,λb F=>(a4 b F).1,fy);rintro n dy ⟨i,ys,bc,b1,co,e2,dd,g0⟩;let(ff,f2)||(go,N,b4,step):=fv i n ys bc b1 g0
  .show wD (T.done (GD X scope a0 L.heap.objs.size (xs++fs) L H3 O J) rfl rfl rfl (dl _ _ _ _) i [] dy bc b1 J co (c9 dd) e2 ff) λr e0 a1=>?_;let(c1,be):=a1;subst c1;let(m,b5,_):=be.loc;show eh _ _ b1 e0 (ee be) f2 ⟨m,b5⟩ ⟨be.free,e6.2⟩
  .show wD (T.item (GD X scope a0 L.heap.objs.size (xs++fs) L H3 O J) rfl rfl rfl (dl _ _ _ _) i [] dy bc b1 J co (c9 dd) e2 go) λr e0 a1=>?_;let(u,c1,ek):=a1;subst c1;show wD ek λ_ f8 a1=>?_;let(y,ck,ea,f3,g1,al,ej):=a1;let eb:=ea.pinned (c9 ej) (T.obj _ _ al);show wD (er _ _ _ J _ f8 bc ck y u _ eb f3 (step y ck g1)) λ_ f9 a1=>?_;let(b0,e7,ec,f1):=a1;show wD (eq _ _ _ J _ f9 b0 e7 _ ec f1) λok fa a1=>?_;let(e8,b2,c7):=a1;cases ok with
   |false=>
    let(c5,bo,ca):=b4 _ _ _ (by simpa using c7);show(c5,bo,i+1,ys,b0,_,b2.unpinned,T.keep _ _ _ al λb F o e=>(b2.pin (b,o) (uA _ (uA _ (qO F e)))).1,λb F=>?_,ca);let(o,e,d):=T.obj _ _ al b F;show (b2.pin (b,o) (uA _ (uA _ (qO F e)))).2.1
   |true=>
   rw[iA rfl] at c7 ⊢;show wD (eo _ _ _ J _ fa b0 e8 _ b2 c7) λfx fb a1=>?_;let(v,cl,ed,f4,em,ev,f0):=a1;let(c5,bo,ca):=b4 _ _ _ f0;show wD (UR (X:=GD X scope a0 L.heap.objs.size (xs++fs) L H3 O J) _ fb b0 cl (.ref Z.heap.objs.size) [v] _ [fx] (λο H'=>H'=JC cl Z.heap.objs.size (.lst (ys++[v]))) ed rfl (.cons f4 .nil) (_,ys,v,rfl,rfl,em,ev,rfl)) λ_ g5 a1=>?_;let(_,g2,bd,_,ef):=a1;subst ef;show(c5,bo,i+1,ys++[v],b0,_,bd.unpinned,T.keep _ _ _ al λb F o e=>(bd.pin (b,o) (uA _ (uA _ (qO F e)))).1,λb F=>?_,ca);let(o,e,d):=T.obj _ _ al b F;show (bd.pin (b,o) (uA _ (uA _ (qO F e)))).2.1
 subst bm;show codeAny_compStart_list (dv _ rfl) (T.self X.A 0 _ _ _ dn (dv _ rfl))
theorem fF.clos {J:!(Addr×Obj)} {L:St} {H:Hp} {s:Shared} {scope:Scope} {x:Str} {fs:!Str} (S:fF scope X.env x fs) (D:LC X J L H s):
  ∃j,closureFor scope X.env=pure j/\(∀n c,j.lookup n>c->X.env.cells.lookup n>c)/\∀n,(n,NameKind.free)∈scope.names->∃c,j.lookup n>c:=
 Sl λn F=>D.ok.has n (S.fr _ F rfl)
theorem PK {U O W:Expr} {Y:!Expr} {scope:Scope} {pos:Pos} {x:Str} {fs:!Str} {ix:!Nat} {a2:TI} {g:TG} {a1:TT} {a0:TE} (b1:X.calm=true) (hi:PI X U O a2) (hk:CF scope X.env x fs=true) (b9:ix.map (X.N[·]?)=fs.map some)
  (b5:∀L C F j N J,PG (GD X scope L C (x::fs) F j N J) U g) (b4:∀L C F j N J,PF (GD X scope L C (x::fs) F j N J) Y a1) (b3:∀L C F j N J,PE (GD X scope L C (x::fs) F j N J) W a0) (bc:∀x,foldedSetIterable O X.env x=pure x:=by intro _;rfl):
  PE X (.ListComp W [(U,O,Y,0)] scope pos) (bJ a2 ix g a1 a0 .mk):=by
 intro Z s a3 H Q V h;let S:=fF.of hk;let(L,b2,a6,a9):=S.clos V;rw[eval_ListComp];show wpAny_comprehension_free (use:=none) rfl bc b2 S.kind S.own (wD (hi Z s a3 H _ V h) λv bt h1=>wD h1 λbo c0 h2=>?_);let(bn,N,c1,bm,bl,e,a5,T,bh,ad,q):=h2;subst e;show cU (xs:=[x]) (RR:=λacc C=>compPost (model X.prog X.w) X.A X.xe none (EP X Z a3 Q) acc C) a5 T.g bh ad (λο ο ο ο=>b1) S a6 a9 b9 (λC F j J=>b5 L C F j N J) (λC F j J=>b4 L C F j N J) (λC F j J=>b3 L C F j N J) q λD C H' s' a4 be ⟨m,bb⟩ ⟨ab,ac,_,ah,al,am⟩=>?_;show(m,bb,λh' bd=>(.ref D,H',a4.turned (t':=s'.toks) (λb o b0 e=>(bd.2 b b0).trans e) ab ac ah al am,rfl,be))
theorem dU {W O Y:Expr} {Z:!Expr} {scope:Scope} {pos a6 U:Pos} {x y:Str} {i:Nat} {fs:!Str} {ix:!Nat} {ac:TI} {g:TG} {ab:TT} {a9:TE} (b5:X.N.Nodup) (c2:X.N[i]?>y) (a5:X.env.kindOf y>.local) (bb:X.calm=true) (hi:PI X W O ac)
  (hk:CF scope X.env x fs=true) (bl:ix.map (X.N[·]?)=fs.map some)
  (bh:∀L C F j N J,PG (GD X scope L C (x::fs) F j N J) W g) (be:∀L C F j N J,PF (GD X scope L C (x::fs) F j N J) Z ab) (bd:∀L C F j N J,PE (GD X scope L C (x::fs) F j N J) Y a9)
  (c1:swapsWith (.ListComp Y [(W,O,Z,0)] scope pos) (some (.Name y U)) a6.line X.env=pure true:=by rfl) (bt:∀x,foldedSetIterable O X.env x=pure x:=by intro _;rfl):
  PS X (.Assign [.Name y U] (.ListComp Y [(W,O,Z,0)] scope pos) a6) (PJ (bJ ac ix g ab a9 .mk) (JG i)):=by
 intro a0 s c7 H D a2 h;let S:=fF.of hk;let(L,bc,am,b0):=S.clos a2;rw[exec_Assign_Name_used _ _ _ _ c1];show fA (wpAny_standAt (fA ?_));change wpAny _ X.A (do let _<-comprehension (.ListComp Y [⟨W,O,Z,0⟩] scope pos) scope X.env _ (newList []) false (eval O X.env) (some (assign (.Name y U) X.env))) _ _ s;show fA (AB (wpAny_comprehension_free (use:=some (assign (.Name y U) X.env)) (Q:=λο s'=>SP X a0 D .next s') rfl bt bc S.kind S.own
  (wD (hi a0 s c7 H _ a2 h) λv ch h1=>wD h1 λcd ck h2=>?_)) (λο s' bo=>BA (BA bo)) λο ο e=>e)
 let(ca,N,cl,c9,c8,e,al,T,c5,b2,q):=h2;subst e;show cU (xs:=[x]) (RR:=λacc C=>compPost (model X.prog X.w) X.A X.xe (some (assign (.Name y U) X.env)) (λο s'=>SP X a0 D .next s') acc C) al T.g c5 b2 (λο ο ο ο=>bb) S am b0 bl (λC F j J=>bh L C F j N J) (λC F j J=>be L C F j N J) (λC F j J=>bd L C F j N J) q
  λa1 C H' s' ad c3 ⟨m,bm⟩ ⟨b1,a3,_,b3,a4,b4⟩=>?_
 change wpAny _ X.A (assign (.Name y U) X.env (.ref a1)) _ _ _;show wpAny_assign_Name (T8 (v:=.ref a1) ad b5 c2 (.inl a5) rfl (λc4 ah ⟨a,sb,V⟩=>?_) (.inr a5));let bn:C≠a:=by
  let V||V:=V
  .rw[V];show a3
  .show λc6=>a4 _ _ V c6.symm
 show(m,bm.sameBut sb bn,λh' c0=>(_,H',ah.turned (t':=c4.toks) (λb o b9 e=>(c0.2 b b9).trans e) b1 a3 b3 a4 b4,c3))
end
section
variable {X:Cx} {pins:!(Addr×Obj)} {σ:!(Option V)} {H H':Hp} {s:Shared} {h':Heap}
end
section
variable {X:Cx}
end
theorem kS:∀{ns:!Int} {us:!Value},VC (ns.map V.int) us->IntsAre us ns
 |[],_,h=>by cases h;show .nil
 |n::ns,_,h=>by
  cases h with
  |cons r rr=>
   let(t,rfl):=r;show .cons _ _ (kS rr)
theorem eU:∀{ns:!Int} {us:!Value},IntsAre us ns->VC (ns.map V.int) us:=by
 intro ns us h
 induction h with
 |nil=>show .nil
 |cons n t _ j=>show .cons ⟨t,rfl⟩ j
section
variable {X:Cx} {pins:!(Addr×Obj)} {σ:St} {H:Hp} {s:Shared} {a:Addr} {kvs:!(Key×V)} {k:Key} {u r:Value} {z:V} {A:Around} {E:Value->Shared->Prop}
end
section
variable {X:Cx} {o e f:Expr} {apos cpos:Pos} {td ty tx:TE}
end
theorem Ul {X:Cx} (J:X.calm=true):eE X (.builtin "sum") (λxs H Q=>∃(p:Addr) (ns:!Int),xs=[.ref p]/\BD X.K H p (ns.map V.int)/\Q (.int ns.sum) H):=by
 intro Y s Z H xs us Q j r h;let(p,ns,rfl,L,q):=h;let(u,rfl,O):=GE r;cases O;let(W,N,pl,hz):=j.list L;let hi:=kS N;let(ps,F):=hi.allInts.items;let e:preSum (numAt ps) ps.size=ns.sum:=by
  let h1:=hi.numsOf;rw[preSum_eq,uC (by simp),<-h1,<-nums_intItems,<-F]
 let D:=pl.isList;rw[F] at D;show sum_intListG (j.ok.hd J) D λh' U t' hk=>?_;rw[e];show(.int ns.sum,H,j.kept (t':=U) hk,⟨t',rfl⟩,q)
theorem fU:∀{ns:!Int} {us:!Value},us.length=ns.length->(∀(j:Nat) v,us[j]?>v->∃t i,ns[j]?>i/\v=Value.int i t)->IntsAre us ns
 |[],[],_,_=>.nil
 |_::_,[],h,_=>by cases h
 |[],_::_,h,_=>by cases h
 |n::ns,u::us,hl,h=>by
  let(t,i,e1,e2):=h 0 u rfl;let e1:n=i:=by simpa using e1
  subst e1 e2;show .cons _ _ (fU (by simpa using hl) λj v e=>by simpa using h (j+1) v (by simpa using e))
theorem Vl {prog:Program} {w:World} {A:Around} {Y:Value->Shared->Prop} {s:Shared} {T:String} {r d:Addr} {n:Nat} {P:Nat->Value->Prop} {L:Heap->Prop} {Q:Value->Shared->Prop}
  (K:PySem.W.KdlSrc prog w T r d n P L) (a6:A.handled=none) (a9:L s.heap) (ns:!Int) (V:n=ns.length) (a2:ns.length < 64)
  (a4:∀j v,P j v->∃t i,ns[j]?>i/\v=Value.int i t)
  (h:∀(h1 h':Heap) (l:Addr) (W:Nat) (out:Array Value) (e:Nat) (J:!Int),(∀b o,s.heap.get? b>o->h1.get? b>o)->(∀b o,h1.get? b>o->h'.get? b>o)->h1.objs.size<=l->h'.get? l>(seqObj "list" out e)->
   IntsAre out.toList J->J.Perm ns->J.Pairwise (·<=·)->Q (.ref l) {s with heap:=h',toks:=W}):
  wpAny (model prog w) A (call (.builtin "sorted") [.ref r]) Q Y s:=by
 let hsz:n<=sizeLine:=by rw[sizeLine_eq];omega
 show Calls.call_function_entry kind_sorted plain_sorted entry_sorted (args_sorted1 _) ?_;unfold Builtin.«sorted»;show fA (m:=checkCount "sorted" 1 1 _) (BA ?_);show fA (PySem.W.kdu_collect (A:=A.in1) K a6 a9 hsz λh' W acc hk N=>?_);let D:acc.toList.length=n:=by rw[vB];show N.1
 let a3:IntsAre acc.toList ns:=fU (by rw[D,V]) λj v e=>a4 j v (N.2 j v (by rw[<-jC];show e));show fA (wpAny_newList ?_ (by rw[D];show hsz));let F:(h'.push (seqObj "list" acc.toList.toArray 0)).get? h'.objs.size>(seqObj "list" acc.toList.toArray 0):=MA _ rfl;show fA (ZB (wpAny_call_entry slot_list_sort (_,F,rfl) entry_list_sort (list_sort_tree F a3 (by rw[D,V];show a2) λout ab Z a0 a1=>(_,rfl,?_)) (args_list_sort _)));let(e,a5):=sortedHeap_at (out:=out) F;show BA (_,rfl,h h' _ _ _ out e ab hk (λb o O=>?_) (vA _) a5 Z a0 a1);let U:=FA O;rw[sortedHeap_old (XA U) (by rw[size_push'];show Nat.lt_succ_of_lt U)];show AA _ O
theorem lS {D:Type} {kvs:!(D×V)} {vs:!(D×Value)} (r:KV kvs vs):∀(j:Nat) (k:D) (x:Value),vs[j]?>(k,x)->∃v,kvs[j]?>(k,v)/\SC v x:=by
 unfold KV at r
 induction r with
 |nil=>intro j k x e;simp at e
 |cons q _ F=>
  intro j k x e;cases j with
  |zero=>
   simp at e;subst e;show(_,by simp;show Prod.ext q.1 rfl,q.2)
  |succ j=>simpa using F j k x (by simpa using e)
theorem Wl {X:Cx} (a3:X.calm=true):eE X (.builtin "sorted") (λxs H Q=>∃(p:Addr) (kvs:!(Key×V)) (ns:!Int),xs=[.ref p]/\Rd H p (.dK kvs)/\kvs.map (·.1)=ns.map inl/\ns.length < 64/\
  ∀l F,H l=none->List.Perm F ns->F.Pairwise (·<=·)->Q (.ref l) (JC H l (.lst (F.map V.int)))):=by
 intro ah s am H xs us Q J r h;let(p,kvs,ns,rfl,a9,hk,a1,q):=h;let(u,rfl,al):=GE r;cases al;let(b1,hd,vs,W,dd):=mI J.hok a9;let(ep,a2):=dd.dictAt;let a6:vs.length=ns.length:=by
  have:=congrArg List.length hk;rw[dA,dA] at this;rw[<-W.length,this]
 show Vl (PySem.W.kdl_dict (knd:=lD X.prog X.w) (kvs:=vs) (ep:=ep) hd) (J.ok.hd a3) a2 ns a6 a1 (λj v ab=>?_) λh1 h' l L out e F k0 k1 k2 k3 Y O Z=>?_
 .let(k,x,ad,a4):=ab;let(b0,ac,_):=lS W j k x ad;let D:(kvs.map (·.1))[j]?>k:=by rw[pB,ac];rfl
  rw[hk,pB] at D;cases U:ns[j]? with
  |none=>rw[U] at D;cases D
  |some i=>
   rw[U] at D;cases D;let(t,a0):=Value.isInt_shape (k:=i) (v:=v) a4;show(t,i,rfl,a0)
 .let a5:=O.length_eq;let N:LC X ah am H {s with heap:=h1,toks:=L}:=J.kept (t':=L) k0;show(.ref l,_,N.laid (t':=L) k1 k2 (show tD X.prog X.w _ _ _ (.lst (F.map V.int)) from (by rw[dA,a5,sizeLine_eq];omega,out.toList,e,eU Y,k3)),rfl,q _ _ (N.hok.fresh k2) O Z)
inductive EM (c:TT) (tb:TS):Type where
 |mk:EM c tb
inductive FM (tb:TS):Type where
 |mk:FM tb
def QK (c:TT) (tb:TS) (_:EM c tb):TS:=HI c tb
def RK (tb:TS) (_:FM tb) (Pv:Nat->St->Hp->Prop) (m:Nat) (D:ZE) (σ:St) (H:Hp):Prop:=
 ∃N:St->Hp->Prop,(∀σ' H',N σ' H'->∃m',m' < m/\Pv m' σ' H')/\tb {D with nx:=N,ct:=N,bk:=D.nx} σ H
theorem Pb {X:Cx} {c:Expr} {j:!Stmt} {F:TT} {D:TS} {pos:Pos} (N:PassesOwn (model X.prog X.w) X.A X.env X.xe) (L:PT X c F) (J:AG X j D):PS X (.While c j [] pos) (QK F D .mk):=aj N L J
theorem Qb {c:TT} {F:TS} {h:EM c F} {D:ZE} {j:St} {H:Hp} (Pv:Nat->St->Hp->Prop) (L:Nat) (h0:Pv L j H)
 (N:∀m j H,Pv m j H->c j H λb J=>if b=true then RK F .mk Pv m D j J else D.nx j J):QK c F h D j H:=(Pv,⟨L,h0⟩,N)
theorem SK {F:TS} {h:FM F} {Pv:Nat->St->Hp->Prop} {m:Nat} {D:ZE} {L:St} {H:Hp}
 (q:F {D with nx:=λJ H'=>∃j,j < m/\Pv j J H',ct:=λJ H'=>∃j,j < m/\Pv j J H',bk:=D.nx} L H):RK F h Pv m D L H:=(_,λο ο h=>h,q)
section
variable {X:Cx} {pins:!(Addr×Obj)} {σ:!(Option V)} {H:Hp} {s:Shared} {a:Addr}
theorem LC.rewrite {u v:HO} (j:LC X pins σ H s) (e:H a>u) (L:∀b,u≠.own b) (O:∀xs,u≠.tup xs) (h0:∀w,X.H₀ a>w->(∃o D,w=.frz o D)\/(∃xs,w=.tup xs)\/(∃ps,w=.tbl ps)->False) (V:tD X.prog X.w (JC H a v) s.heap a v):
  LC X pins σ (JC H a v) s where
 ok:=j.ok
 os:=j.os
 bare:=j.bare
 base:=(j.base.keep,j.base.slot,λb o q n U=>by
   have:=j.base.free b o q n U;rw[WC (λD=>by rw[D,e] at this;cases this)];show this,j.base.there,
  λb xs q=>by
   let F:b≠a:=λD=>h0 _ (D ▸ q) (.inr (.inl ⟨_,rfl⟩));rw[WC F];show j.base.tups b xs q,
  λb o D q=>by
   let F:b≠a:=λD=>h0 _ (D ▸ q) (.inl (_,_,rfl));rw[WC F];show j.base.frzs b o D q,
  λb ps q=>by
   let F:b≠a:=λD=>h0 _ (D ▸ q) (.inr (.inr ⟨_,rfl⟩));rw[WC F];show j.base.tbls b ps q)
 loc:=j.loc
 cell:=j.cell
 free:=by rw[WC (Ne.symm (FD e j.free))];show j.free
 freeC:=λx c q=>by
  have:=j.freeC x c q;rw[WC (Ne.symm (FD e this))];show this
 pin:=λp N=>by
  let(W,J,Y):=j.pin p N;show(W,by rw[WC (Ne.symm (FD e J))];show J,Y)
 hok:=λb w q=>by
  by_cases F:b=a
  .subst F;rw[nD] at q;cases q;show V
  .rw[WC F] at q;show (j.hok b w q).stay (λο ο ο q=>q) (λc q=>?_) λc xs q=>?_
   .rw[WC (λD=>by rw[D,e] at q;show L _ (yA q))];show q
   .rw[WC (λD=>by rw[D,e] at q;show O _ (yA q))];show q
 len:=j.len
theorem LC.still {w:HO} (D:LC X pins σ H s) (h:X.H₀ a>w) (F:(∃o j,w=.frz o j)\/(∃xs,w=.tup xs)\/(∃ps,w=.tbl ps)):(∃o j,H a>(.frz o j))\/(∃xs,H a>(.tup xs))\/(∃ps,H a>(.tbl ps)):=by
 let(o,j,rfl)||(xs,rfl)||(ps,rfl):=F
 .show .inl (o,j,D.base.frzs a o j h)
 .show .inr (.inl ⟨xs,D.base.tups a xs h⟩)
 .let(m,e):=D.base.tbls a ps h;show .inr (.inr ⟨_,e⟩)
theorem LC.freeze {kvs:!(Key×V)} (D:LC X pins σ H s) (e:H a>(.dK kvs)):∃o,s.heap.get? a>o/\LC X pins σ (JC H a (.frz o (.dK kvs))) s:=by
 let(j,hd,vs,J,o,es,ep,ho,r):=D.hok a _ e;show(o,ho,D.rewrite e (λο j=>by cases j) (λο j=>by cases j) (λw F h=>?_) (ho,j,hd,vs,J,o,es,ep,ho,r));let(_,_,q)||(_,q)||(_,q):=D.still F h<;>(rw[e] at q;cases q)
theorem LC.thaw {kvs:!(Key×V)} {o:Obj} (j:LC X pins σ H s) (e:H a>(.frz o (.dK kvs))) (h0:∀o u,X.H₀ a≠some (.frz o u)):LC X pins σ (JC H a (.dK kvs)) s:=by
 let(ho,D,hd,vs,J,dd):=j.hok a _ e;show j.rewrite e (λο D=>by cases D) (λο D=>by cases D) (λw F h=>?_) (D,hd,vs,J,dd);let(_,_,rfl)||h:=h
 .show h0 _ _ F
 .let(L,N,q)||(_,q)||(_,q):=j.still F (.inr h)
  .let(xs,rfl)||(ps,rfl):=h
   .have:=j.base.tups a xs F;rw[e] at this;cases this
   .let(m,this):=j.base.tbls a ps F;rw[e] at this;cases this
  .rw[e] at q;cases q
  .rw[e] at q;cases q
end
def UF (a:Addr) (H:Hp):Hp:=match H a with
 |some (.frz _ (.dK kvs))=>JC H a (.dK kvs)
 |_=>H
theorem Rb {a:Addr} {H:Hp} {o:Obj} {kvs:!(Key×V)} (h:H a>(.frz o (.dK kvs))):UF a H=JC H a (.dK kvs):=by unfold UF;rw[h]
set_option tactic.hygienic true in
theorem LC.thawed {X:Cx} {pins:!(Addr×Obj)} {σ:!(Option V)} {H:Hp} {s:Shared} {a:Addr} (I:LC X pins σ H s) (h0:∀o u,X.H₀ a≠some (.frz o u)):LC X pins σ (UF a H) s:=by
 unfold UF
 split
 .rename_i h;show I.thaw h h0
 .show I
def WH (a:Addr) (D:ZE):ZE:={D with nx:=λσ H=>D.nx σ (UF a H),bk:=λσ H=>D.bk σ (UF a H),ct:=λσ H=>D.ct σ (UF a H),rt:=λv H=>D.rt v (UF a H)}
def UK (X:Cx) (t:TS):TS:=λD σ H=>∃a,(∀o u,X.H₀ a≠some (.frz o u))/\t (WH a D) σ H
theorem Tb {X:Cx} {st:Stmt} {t:TS} (h:PS X st t):PS X st (UK X t):=by
 intro N s O H D L J;let(a,h0,J):=J;show AB (h N s O H (WH a D) L J) (λf s' q=>?_) λο ο e=>e;unfold SP at q ⊢;cases f with
 |next=>let(F,H',j,q):=q;show(F,_,j.thawed h0,q)
 |brk=>let(F,H',j,q):=q;show(F,_,j.thawed h0,q)
 |cont=>let(F,H',j,q):=q;show(F,_,j.thawed h0,q)
 |ret u=>let(v,F,H',j,r,q):=q;show(v,F,_,j.thawed h0,r,q)
def gU (a:Addr) (o:Obj) (kvs:!(Key×V)):It:=
 (λi H=>H a>(.frz o (.dK kvs))/\i < kvs.length,λi H x H'=>H'=H/\∃k v,kvs[i]?>(k,v)/\x=kV k,λi H=>H a>(.frz o (.dK kvs))/\kvs.length<=i)
theorem xO {X:Cx} {J:!(Addr×Obj)} {N:!(Option V)} {H:Hp} {s:Shared} {a:Addr} {o:Obj} {kvs:!(Key×V)} {ep:Nat} {es} (F:LC X J N H s) (e:H a>(.frz o (.dK kvs))) (j:o.data=.dict es ep):
  ∃vs,KV kvs vs/\s.heap.DictAt (lD X.prog X.w) a vs ep/\(a == sysModules)=false:=by
 let(ho,Y,hd,vs,L,W,U,O,D,c,d,r):=F.hok a _ e;rw[ho] at D;cases D;rw[j] at d;cases d;show(vs,L,(o,es,ho,c,j,r),hd)
theorem Xl {P:Program} {w:World} {K:PySem.W.Frag} {b5:Expr} (a F:Addr) (o:Obj) (kvs:!(Key×V)) (ep:Nat) {es} (a9:o.data=.dict es ep):oH P w K b5 (gU a o kvs) [F] F (λi h=>h.IsKeyIter F a i kvs.length ep) where
 mem:=by simp
 obj:=λi h st b j=>by
  let e:b=F:=by simpa using j
  subst e;let(o,e,c,d):=st;show(o,e,λv ah=>by rw[d] at ah;cases ah)
 keep:=λi h h' st k=>st.at λo e=>k F (by simp) o e
 item:=by
  intro X a3 a4 a2 a6 i ad s al H am J N st D;subst a3 a4 a2;let(D,hi):=D;let(vs,O,U,_):=xO J D a9;let(W,Y,b2,Z,a0,a1):=N F (by simp);let L:=O.length;let TM:i < vs.length:=by rw[<-L];show hi
  obtain⟨⟨k,x⟩,ab⟩:∃p,vs[i]?>p:=⟨_,GA TM⟩
  let(v,b3,bb):=lS O i k x ab;rw[L] at st;show wpAny_pyNext_dict_item st U ab λac h' hk a5 sb=>?_;let b0:LC X ad al H {s with heap:=h'}:=J.turned (t':=s.toks) (λb o j e=>(sb.2 b j).trans e) W Y Z a0 a1;let(b9,e,c,d):=id a5;let b4:SC (kV k) ac:=by
   let(i,t,rfl,rfl)||(x,t,rfl,rfl):=wJ hk
   .show⟨t,rfl⟩
   .show⟨t,rfl⟩
  rw[<-L] at a5;show(ac,rfl,oP (s:={s with heap:=h'}) e c d (by decide) (kV k,H,b0,b4,(rfl,k,v,b3,rfl),a5,λb j=>(N b j).1))
 done:=by
  intro X a3 a4 a2 a6 i ad s al H am J N st D;subst a3 a4 a2;let(D,hi):=D;let(vs,O,U,_):=xO J D a9;let(W,Y,b2,Z,a0,a1):=N F (by simp);let L:=O.length;rw[L] at st;show wpAny_pyNext_dict_end (J.ok.hd a6) st U (List.getElem?_eq_none_iff.mpr (by rw[<-L];show hi)) λh' b1=>⟨rfl,J.turned (t':=s.toks) (λb o j e=>b1 b o j e) W Y Z a0 a1⟩
 self:=λο ο ο ο ο st h=>wpAny_pyIter_keyiter st h
def WK (tl:TE):TI:=λσ H R=>tl σ H λx H1=>∃a kvs,x=.ref a/\H1 a>(.dK kvs)/\∀o,R (gU a o kvs) (JC H1 a (.frz o (.dK kvs)))
theorem Yl {X:Cx} {a5 l:Expr} {U:TE} (a0:PE X l U):PI X a5 l (WK U):=by
 intro a2 s a9 H ab V h;show wD (a0 a2 s a9 H _ V h) λv j a6=>?_;let(x,F,J,a4,a3):=a6;let(a,kvs,e,N,q):=a3;subst e;cases a4;let(o,ho,D):=J.freeze N;let(_,_,vs,O,ac,es,ep,L,c,d,r):=J.hok a _ N;rw[ho] at L;cases L;let(vs,O,W,hd):=xO D nD d;show wpAny_pyIter_dict hd W ?_;let a1:kvs.length=vs.length:=O.length;let Z:JC F a (.frz o (.dK kvs)) j.heap.objs.size=none:=D.hok.fresh (vA _);show(j.heap.objs.size,[j.heap.objs.size],_,_,JC F a (.frz o (.dK kvs)),rfl,D.kept (t':=j.toks) λb o e=>AA _ e,Xl a _ o kvs ep d,(_,MA _ rfl,rfl,by rw[a1];rfl),λb Y=>?_,q o);let e:b=j.heap.objs.size:=by simpa using Y
 subst e;show D.fpOk (vA _) Z
theorem Zl {a:Addr} {o:Obj} {kvs:!(Key×V)} {g:TG} {F:TS} {h:OH g F} {D:ZE} {j:St} {H:Hp} (Pv:Nat->St->Hp->Prop) (h0:Pv 0 j H) (O:∀i j H,i<=kvs.length->Pv i j H->H a>(.frz o (.dK kvs)))
  (U:∀i k v j H,kvs[i]?>(k,v)->Pv i j H->g (kV k) j H λW L=>F {D with nx:=Pv (i+1),ct:=Pv (i+1),bk:=D.nx} W L) (hd:∀j H,Pv kvs.length j H->D.nx j H):ZI g F h (gU a o kvs) D j H:=by
 show(λi m j H=>i+m=kvs.length/\Pv i j H,(kvs.length,Nat.zero_add _,h0),λi m j H ⟨e,p⟩=>?_);let J:=O i j H ⋯ p;by_cases hi:i < kvs.length
 .show .inr (⟨J,hi⟩,Pv (i+1),λj H q=>(m - 1,⋯,⋯,q),?_);rintro y H' ⟨rfl,k,v,hk,rfl⟩;show U i k v j _ hk p
 .let N:i=kvs.length:=⋯;subst N;show .inl ⟨⟨J,vA _⟩,hd j H p⟩
def bQ (K:PySem.W.Frag) (n:Nat):R2:=λx y H Q=>(x=.non/\y=.non/\Q (.bl true) H)\/(x=.non/\(∃a xs,y=.ref a/\HD K H a xs)/\Q (.bl false) H)\/((∃a xs,x=.ref a/\HD K H a xs)/\y=.non/\Q (.bl false) H)\/BM K n x y H Q
theorem GM {X:Cx} {n:Nat} (L:X.A.units+n+2 < cLine):zF X (compareOp .Eq) (bQ X.K n):=by
 intro U s V H x y u v Q j D F h;let(rfl,rfl,q)||(rfl,(a,xs,rfl,O),q)||((a,xs,rfl,N),rfl,q)||h:=h
 .cases D;cases F;show SeqAt.RcAt.none_none X.prog X.w X.xe _ (.bl true,H,j,rfl,q)
 .cases D;cases F;let(J,r,p,hz):=j.tuple O;show SeqAt.RcAt.none_tuple (A:=X.A) (s:=s) (show s.heap.IsTuple a J.toArray from p) ⋯ X.prog X.w X.xe _ (.bl false,H,j,rfl,q)
 .cases D;cases F;let(J,r,p,hz):=j.tuple N;show SeqAt.RcAt.tuple_none (A:=X.A) (s:=s) (show s.heap.IsTuple a J.toArray from p) ⋯ X.prog X.w X.xe _ (.bl false,H,j,rfl,q)
 .show YT L U s V H x y u v Q j D F h
def LG (xs:!V):!Dv:=xs.map .leaf
theorem Ub {K:PySem.W.Frag} {H:Hp}:∀(xs:!V),xs.all BF=true->rD K H (LG xs) xs
 |[],_=>by unfold LG rD;rfl
 |x::xs,h=>by
  rw[List.all_cons,OA] at h;change rD K H (.leaf x::LG xs) (x::xs);unfold rD;show(_,_,rfl,by unfold XD;show⟨rfl,h.1⟩,Ub xs h.2)
theorem Vb {K:PySem.W.Frag} {H:Hp} {a:Addr} {xs:!V} (h:HD K H a xs) (j:xs.all BF=true):XD K H (.seq true (LG xs)) (.ref a):=by
 unfold XD;show(a,_,rfl,by simpa using h,Ub xs j)
theorem Wb:∀(xs ys:!V),vD (LG xs) (LG ys)=true
 |[],_=>by unfold LG;simp[vD]
 |_::_,[]=>by unfold LG;simp[vD]
 |x::xs,y::ys=>by
  change vD (.leaf x::LG xs) (.leaf y::LG ys)=true;rw[vD,alike,Wb xs ys];rfl
theorem Xb:∀(xs:!V),ID (LG xs)=0
 |[]=>by unfold LG;simp[ID]
 |x::xs=>by
  change ID (.leaf x::LG xs)=0;rw[ID,uH,Xb xs];rfl
theorem YK:∀(xs:!V),xs.all BF=true->zD (LG xs) (LG xs)=true
 |[],_=>by unfold LG;simp[zD]
 |x::xs,h=>by
  rw[List.all_cons,OA] at h;change zD (.leaf x::LG xs) (.leaf x::LG xs)=true;rw[zD,EE,YK xs h.2,WT h.1];rfl
theorem cQ {X:Cx} {K:PySem.W.Frag} (h:X.K=K):BP X (jM K):=h ▸ QE
structure pI (K:PySem.W.Frag) (x qual:Str) (st:Stmt) (f:Addr) (fd:FuncData):Prop where
 ex:∃(oc:Value) (od:Option Addr) (dV kV doc pm:Value) (an:Option Addr) (cdv ct:Value) (osl:Array (Option Value)),
  fd=PySem.W.fnOf x qual (cD st) (aD st) (EC st) dV kV doc pm an cdv ct/\K.lookup f>(oc,od,.func fd,osl)/\PySem.W.codeIn K cdv qual=true
 kp:PySem.W.keepIn K (.ref f)=true
section
variable {P:Program} {w:World} {K:PySem.W.Frag} {mg:Str->Option Value} {base:Heap}
theorem ZK {x D:Str} {st:Stmt} {f:Addr} {O:Value} {U F:Option Addr} {V:Array (Option Value)} {L kV N pm j J:Value} (l:K.lookup f>(O,U,.func (PySem.W.fnOf x D (cD st) (aD st) (EC st) L kV N pm F j J),V))
 (c:PySem.W.codeIn K j D=true) (k:PySem.W.keepIn K (.ref f)=true):pI K x D st f (PySem.W.fnOf x D (cD st) (aD st) (EC st) L kV N pm F j J):=⟨(O,U,L,kV,N,pm,F,j,J,V,rfl,l,c),k⟩
theorem pI.okE {x F:Str} {st:Stmt} {f:Addr} {D:FuncData} {N ps:!Str} {k:Nat} {sp:Sp} (J:pI K x F st f D) (S:HC N ps (EC st)) (len:∀vs H Q j,sp vs H Q j->vs.length=ps.length)
  (O:bG P w K mg base F st N k sp):qF P w K mg base (tH P w) (k+1) f D ps sp:=by
 let(a4,a5,a2,kV,a3,pm,a0,L,a1,a6,rfl,Y,U):=J.ex;show xT Y U S len λA Z s H vs Q j V W=>O f L A Z s H vs Q j V W
def pF (K:PySem.W.Frag) (C:Addr) (m qual:Str) (st:Stmt) (ps:!Str) (dvs:!V):Prop:=∃f fd ds,EH K C m f/\pI K m qual st f fd/\zE K fd ps ds/\VC dvs ds
def aL (K:PySem.W.Frag) (mg:Str->Option Value) (x:Str) (C:Addr) (qual:Str) (st:Stmt) (ps:!Str) (dvs:!V):Prop:=∃f fd ds,mg x=↑C/\Mk K C f/\pI K "__init__" qual st f fd/\zE K fd ps ds/\VC dvs ds
theorem pF.have {C:Addr} {m D:Str} {st:Stmt} {N ps:!Str} {j:!V} {k:Nat} {sp:Sp} (L:pF K C m D st ps j) (S:HC N ps (EC st)) (len:∀vs H Q J,sp vs H Q J->vs.length=ps.length)
  (O:bG P w K mg base D st N k sp):YC P w K mg base C m (k+1) ps j sp:=
 let ⟨f,fd,ds,hm,F,hb,hd⟩:=L
 (f,fd,ds,hm,hb,hd,F.okE S len O)
theorem aL.have {C:Addr} {x D:Str} {st:Stmt} {N ps:!Str} {j:!V} {k:Nat} {sp:Sp} (L:aL K mg x C D st ps j) (S:HC N ps (EC st)) (len:∀vs H Q J,sp vs H Q J->vs.length=ps.length)
  (O:bG P w K mg base D st N k sp):TF P w K mg base x C (k+1) ps j sp:=
 let ⟨f,fd,ds,hm,M,F,hb,hd⟩:=L
 (f,fd,ds,hm,M,hb,hd,F.okE S len O)
end
theorem bL {K:PySem.W.Frag} {D:FuncData} {ps:!Str} {j:!Value} (n:Nat) (J:ps.length=n+j.length) (h:∀(s:Shared) (us:!Value),K.In s.heap->us.length=n->BindsTo s D ⟨us,[]⟩ (ps.zip (us++j))):zE K D ps j:=
 λs us X F=>h s us X (by rw[xA,J] at F;omega)
section
variable {X:Cx}
end
theorem VC.at {xs:!V} {us:!Value} (r:VC xs us) (m:Nat) (h1:m < xs.length) (h2:m < us.length):SC xs[m] us[m]:=by
 let(u,j,D):=r.get (GA h1);rw[GA h2] at j;cases j;show D
theorem Yb {α β:Type} {f:α->β}:∀{l:!α} {j:Nat},(l.map f).eraseIdx j=(l.eraseIdx j).map f
 |[],_=>rfl
 |_::_,0=>rfl
 |x::l,j+1=>congrArg (f x::·) (Yb (l:=l) (j:=j))
section
variable {prog:Program} {w:World} {K:Type} [DecidableEq K] {knd:HeapKind prog w K} {A:Around} {E:Value->Shared->Prop} {s:Shared}
theorem fm {d a:Addr} {xs:!(K×Addr×Value)} {k:K} {j:Nat} {p:Addr×Value} {Q:Option DictEntry->Shared->Prop} (U:knd.room A) (O:knd.is s.heap k a) (a3:s.heap.DictOfH knd d xs) (F:xs[j]?>(k,p)) (hsz:xs.length<=sizeLine)
  (Y:∀e h',e.val=p.2->h'.DictOfH knd d (xs.eraseIdx j)->Heap.SameBut d s.heap h'->Q (some e) {s with heap:=h',toks:=s.toks+knd.draws k}):wpAny (model prog w) A (Builtin.Dict.takeOut d (.ref a)) Q E s:=by
 let(o,es,ep,ho,Z,hd,D,N,J):=a3;let a0:=size_of_entries D;unfold Builtin.Dict.takeOut
 try with_reducible show ZB ?_
 show fA (knd.pyHash U O ?_);show fA (wpAny_dictFind_heap (s:={s with toks:=s.toks+knd.draws k}) U O ho hd D N J (λa4=>absurd F (a4 j p)) λL a6 a1=>?_);let W:L=j:=idxH_unique J a1 F;subst W;show fA (wpAny_dictEntries (s:={s with toks:=s.toks+knd.draws k}) ho hd ?_);let V:es[L]?>(entryOfKey knd (k,p)):=by rw[entry_at D,F];rfl
 rw[V];show fA (wpAny_updateDictKeys (hz:=⋯) (s:={s with toks:=s.toks+knd.draws k}) ho hd (BA (Y (entryOfKey knd (k,p)) _ rfl (_,_,ep+1,UB _ ho (Obj.isFreed_of_dict (Obj.data_mapDictKeys hd _)),Z.mapDictKeys _,Obj.data_mapDictKeys hd _,?_,?_,?_) (Heap.SameBut.update ..))))
 .let a2:L < es.size:=by rw[a0];show (JA.mp F).1
  simp[Array.eraseIdxIfInBounds,a2,D,Yb]
 .intro x a5;show knd.keeps (N x ((List.eraseIdx_sublist ..).subset a5)) ho hd (Heap.SameBut.update ..)
 .show J.sublist ((List.eraseIdx_sublist ..).map _)
theorem gm {d a:Addr}:MeetsIn prog w (Builtin.«dict.pop» ⟨[.ref d,.ref a],[]⟩) (λA F s=>knd.room A.in1/\∃k xs j p,knd.is s.heap k a/\s.heap.DictOfH knd d xs/\xs.length<=sizeLine/\xs[j]?>(k,p)/\
   ∀h',h'.DictOfH knd d (xs.eraseIdx j)->Heap.SameBut d s.heap h'->F (.ok (.ret p.2)) {s with heap:=h',toks:=s.toks+knd.draws k}):=
 .of_wp λA F s ⟨a0,k,xs,j,p,V,D,hsz,L,h⟩=>by
  unfold Builtin.«dict.pop»;show fA ?_;unfold Builtin.Dict.keyAndDefault;show fA (wpAny_notOrdered_dict D.typeIs ?_);change wpAny _ _ (pure (d,(Value.ref a,none))) _ _ s;show BA ?_;let(o,es,ep,ho,a1,hd,U,a2,a4):=id D;let J:=size_of_entries U;let Y:es.isEmpty=false:=by
   let a3:=(JA.mp L).1;cases O:es.isEmpty with
   |false=>rfl
   |true=>
    rw[Array.isEmpty_iff.mp O] at J;let h0:xs.length=0:=by simpa using J.symm
    omega
  let hk:(keyPart (.ref a)).isSome=false:=rfl;simp only[hk,SA,HB];show fA (wpAny_dictEntries ho hd ?_);show fA (BA ?_);rw[Y];simp only[SA,HB];show fA (fm a0 V D L hsz λe h' N W Z=>?_);simp only[Option.isNone_some,SA,HB];show fA (wpAny_letGo (BA (e.val,rfl,by rw[N];show h h' W Z)))
end
theorem KT.erase {H:Hp}:∀{kvs:!(!Key×V)} {xs:!(!Key×Addr×Value)} (j:Nat),KT H kvs xs->KT H (kvs.eraseIdx j) (xs.eraseIdx j)
 |_,_,_,.nil=>.nil
 |_,_,0,.cons _ t=>t
 |_,_,j+1,.cons r t=>.cons r (KT.erase j t)
theorem KT.find {H:Hp} {k:!Key} {v:V}:∀{kvs:!(!Key×V)} {xs:!(!Key×Addr×Value)},KT H kvs xs->(xs.map (·.1)).Nodup->KC kvs k>v->∃(j:Nat) (p:Addr×Value),xs[j]?>(k,p)/\SC v p.2/\dD kvs k=kvs.eraseIdx j
 |_,_,.nil,_,h=>by cases h
 |kv::kvs,x::xs,.cons r t,hn,h=>by
  let(h1,h2):=NA.mp hn;by_cases c:kv.1=k
  .rw[jH c] at h;show(0,x.2,?_,?_,?_)
   .change some x>(k,x.2);rw[<-c,r.1]
   .cases h;show r.2.2
   .let hk:∀y∈kvs,y.1≠k:=λy hy e=>by
     let hx:k∈xs.map (·.1):=by
      have:xs.map (·.1)=kvs.map (·.1):=by
       let aux:∀{a:!(!Key×V)} {b:!(!Key×Addr×Value)},KT H a b->b.map (·.1)=a.map (·.1):=λq=>by
        induction q with
        |nil=>rfl
        |cons r _ ih=>rw[rA,rA,ih,r.1]
       show aux t
      rw[this];show aA.mpr (y,hy,e)
     show h1 (by change x.1∈_;rw[<-r.1,c];show hx)
    change (kv::kvs).filter _=kvs;rw[mB,gA (by simp[c]),cC.mpr λy hy=>by simpa using hk y hy]
  .rw[kH c] at h;let(j,p,e1,e2,e3):=KT.find t h2 h;show(j+1,p,by simpa using e1,e2,?_);change (kv::kvs).filter _=kv::kvs.eraseIdx j;rw[mB,iA (by simp[c]),<-e3]
   rfl
theorem HM {X:Cx} {O:!(Addr×Obj)} {W:St} {H:Hp} {s:Shared} {a b:Addr} {kvs:!(!Key×V)} {k:!Key} {A:Around} {Y:Value->Shared->Prop} {v:V} {Q:Value->Shared->Prop} (ab:A.units+1 < cLine) (F:LC X O W H s) (e:H a>(.dT kvs)) (a0:H b>(.tup (k.map kV))) (l:KC kvs k>v)
  (h:∀U s',LC X O W (JC H a (.dT (dD kvs k))) s'->SC v U->Q U s'):wpAny (model X.prog X.w) A (call (.builtin "dict.pop") [.ref a,.ref b]) Q Y s:=by
 let(D,hd,xs,J,dd):=JP F.hok e;let hz:xs.length<=sizeLine:=by rw[<-Paired.length J];show D
 let a6:(xs.map (·.1)).Nodup:=let ⟨_,_,_,_,_,_,_,_,q⟩:=dd;q
 let(j,p,a5,ac,a1):=KT.find J a6 l;show call_meetsIn PySem.F.slot_dict_pop dd.typeIs PySem.F.entry_dict_pop (PySem.F.args_dict_pop_2 _ _) (gm (knd:=tupleKind (lD X.prog X.w))) (kC ab,k,xs,j,p,HK F.hok a0,dd,hz,a5,λh' Z a9=>h _ _ ?_ ac);let(q,es,ep,N,h2,a2,a3,_,a4):=Z;show KP F (by rw[e];show True.intro) a9 ⟨q,N⟩ (?_,hd,_,KT.keeps (a1 ▸ KT.erase j J) λc ys L=>?_,q,es,ep,N,h2,a2,a3,a4)
 .show FB (ua kvs k) D
 .rw[WC (uD L e nofun)];show L
def cJ (td ty:TE):TE:=λσ H Q=>td σ H λx H1=>∃a,x=.ref a/\pM H1 a/\ty σ H1 λy H2=>∃kvs k v b,H2 a>(.dT kvs)/\y=.ref b/\H2 b>(.tup (k.map kV))/\KC kvs k>v/\Q v (JC H2 a (.dT (dD kvs k)))
theorem Zb {X:Cx} {o e:Expr} {D F:Pos} {L ty:TE} (a2:X.A.units+1 < cLine) (ho:PE X o L) (a1:PE X e ty) (m:M1 X o "pop" D e F):PE X (.Call (.Attribute o "pop" D) [e] [] F) (cJ L ty):=by
 intro J s N H Q U h;show wpAny_Call_method m.base m.few m.line PySem.F.plainAttrs_dict PySem.F.slot_dict_pop PySem.F.type_dict_pop (wD (ho J s N H _ U h) λu ab ad=>?_);let(x,O,j,a6,a,ex,d,a3):=ad;subst ex;obtain rfl:u=Value.ref a:=a6;let(ac,t2,_):=QP j d;show(ac,t2,?_);rw[m.trees];show OB rfl (lC (AC (wD (a1 J ab N O _ j a3) λal am ⟨y,ah,V,a9,kvs,k,v,b,Y,a0,Z,l,a4⟩=>Calls.spliced_nil ?_)));subst a0;cases a9;show HM a2 V Y Z l λb1 b0 W a5=>(v,_,W,a5,a4)
def OF (h:Heap) (d:Addr) (es:Array DictEntry) (ep:Nat):Prop:=∃o,h.get? d>o/\o.ExactDict/\o.data=.dict es ep
theorem OF.ty {s:Shared} {d:Addr} {es:Array DictEntry} {ep:Nat} (r:OF s.heap d es ep):s.TypeIs (.ref d) "dict":=let ⟨o,ho,hc,_⟩:=r;(o,ho,hc.1)
theorem OF.lt {h:Heap} {d:Addr} {es:Array DictEntry} {ep:Nat} (r:OF h d es ep):d < h.objs.size:=let ⟨_,ho,_⟩:=r;FA ho
theorem OF.kept {h h':Heap} {d:Addr} {es:Array DictEntry} {ep:Nat} (r:OF h d es ep) (k:∀o,h.get? d>o->h'.get? d>o):OF h' d es ep:=let ⟨o,ho,q⟩:=r;(o,k _ ho,q)
section
variable {prog:Program} {w:World} {A:Around} {E:Value->Shared->Prop} {s:Shared} {d it:Addr} {es:Array DictEntry} {ep i:Nat}
theorem cc {Q:Value->Shared->Prop} (F:(d == sysModules)=false) (r:OF s.heap d es ep)
  (q:Q (.ref s.heap.objs.size) {s with heap:=s.heap.push {cls:=.type "dict_keyiterator",data:=.fields #[.ref d,.int 0 0,.int es.size 0,.int ep 0]}}):wpAny (model prog w) A (pyIter (.ref d)) Q E s:=by
 let(o,j,J,D):=id r;show wpAny_pyIter_slot r.ty PySem.F.slot_dict_iter (wpAny_call_entry PySem.F.slot_dict_iter r.ty PySem.F.entry_dict_iter ?_ (PySem.F.args_dict_iter_1 _));unfold Builtin.«dict.__iter__» Builtin.Dict.dictSlotNone Builtin.Dict.showsAll;show fA (fA (wpAny_notOrdered_dict r.ty (BA ?_)));show fA (m:=if d == sysModules then _ else _) ?_;rw[gA (by rw[F];show zA)];show BA (fA (wpAny_dictEntries j D (fA (wpAny_dictEpoch j D ?_))));show fA (wpAny_newObj_type (BA (_,rfl,"dict_keyiterator",_,(_,MA _ rfl,rfl),PySem.F.slot_dict_keyiterator_next.lookup,by simpa[rawInt] using q)))
theorem dc {Q:Option Value->Shared->Prop} (t:s.heap.IsKeyIter it d i es.size ep) (r:OF s.heap d es ep) (hi:i < es.size)
  (q:∀h',h'.IsKeyIter it d (i+1) es.size ep->Heap.SameBut it s.heap h'->Q (some es[i].key) {s with heap:=h'}):wpAny (model prog w) A (pyNext (.ref it)) Q E s:=by
 let(b,j,J,bd):=id t;let(o,D,L,F):=id r;unfold pyNext;show fA (wpAny_attempt (wpAny_callSpecial?_slot (name:=Str.ofString "__next__") t.typeIs PySem.F.slot_dict_keyiterator_next (wpAny_call_entry PySem.F.slot_dict_keyiterator_next t.typeIs PySem.F.entry_dict_keyiterator_next ?_ (PySem.F.args_dict_keyiterator_next_1 _))));show fA (BA (fA (fA (fA (mC t.typeIs (BA (fA (wpAny_fieldsOf j bd ?_))))))));simp only[show Builtin.Dict_items.ownsTuple "dict_keyiterator"=false by decide,SA,HB];change wpAny _ _ (if (Value.ref d == Value.none)=true then _ else _) _ _ s;rw[gA (show ¬((Value.ref d == Value.none)=true) from zA)];show fA (BA (fA (wpAny_dictEntries D F ?_)));rw[gA (by simp)];show fA (BA (fA (wpAny_dictEpoch D F ?_)));rw[gA (by simp)];show BA ?_;simp only[show ¬((i:Int) < 0) from by omega,HB,SB,iC hi];show fA (fA (mC t.typeIs (BA (fA (wpAny_isOneOf_keyiter t.typeIs ?_)))));change wpAny _ _ (setField (.ref it) 1 (rawInt ((i:Int)+1)) >>= _) _ _ s;show fA (wpAny_setField j bd (by simp) ?_);let t2:(s.heap.update it (Obj.mapFields (·.setIfInBounds 1 (rawInt ((i:Int)+1))))).IsKeyIter it d (i+1) es.size ep:=(_,UB _ j (Obj.isFreed_of_fields (Obj.data_mapFields bd _)),(Obj.cls_mapFields ..).trans J,by rw[Obj.data_mapFields bd];simp[rawInt])
 show fA (ZB (fA (wpAny_isOneOf_keyiter (s:={s with heap:=s.heap.update it (Obj.mapFields (·.setIfInBounds 1 (rawInt ((i:Int)+1))))}) t2.typeIs ?_)));change wpAny _ _ (pure es[i].key) _ _ _;show BA (BA (_,rfl,BA (q _ t2 (Heap.SameBut.update ..))))
theorem fc {Q:Option Value->Shared->Prop} (J:A.handled=none) (t:s.heap.IsKeyIter it d es.size es.size ep) (r:OF s.heap d es ep)
  (q:∀h',Heap.ExtBut it s.heap h'->Q none {s with heap:=h'}):wpAny (model prog w) A (pyNext (.ref it)) Q E s:=by
 let(b,j,L,bd):=id t;let(o,D,N,F):=id r;unfold pyNext;show fA (wpAny_attempt (wpAny_callSpecial?_slot (name:=Str.ofString "__next__") t.typeIs PySem.F.slot_dict_keyiterator_next (wpAny_call_entry PySem.F.slot_dict_keyiterator_next t.typeIs PySem.F.entry_dict_keyiterator_next ?_ (PySem.F.args_dict_keyiterator_next_1 _))));show fA (BA (fA (fA (fA (mC t.typeIs (BA (fA (wpAny_fieldsOf j bd ?_))))))));simp only[show Builtin.Dict_items.ownsTuple "dict_keyiterator"=false by decide,SA,HB];change wpAny _ _ (if (Value.ref d == Value.none)=true then _ else _) _ _ s;rw[gA (show ¬((Value.ref d == Value.none)=true) from zA)];show fA (BA (fA (wpAny_dictEntries D F ?_)));rw[gA (by simp)];show fA (BA (fA (wpAny_dictEpoch D F ?_)));rw[gA (by simp)];show BA ?_;simp only[show ¬((es.size:Int) < 0) from by omega,HB,SB,Array.getElem?_eq_none (vA es.size)];show fA (fA (mC t.typeIs (BA ?_)));change wpAny _ _ (setField (.ref it) 0 .none >>= _) _ _ s;show fA (wpAny_setField j bd (by simp) ?_);change wpAny _ _ (newExc (.type "StopIteration") [] >>= _) _ _ _;show fA ?_;simp only[newExc,newTuple];show fA (wpAny_newObj_type (fA (m:=firstArgMember _ _) (wpAny_of_eq (a:=Value.none) (by first|rfl|(simp only[firstArgMember];rfl)) (wpAny_newObj_type ?_ (by size_fits)))) (by size_fits));simp only[raiseNew];show fA (wpAny_handled ?_);rw[show A.in1.handled=none from J];show fA (BA (wpAny_throw ?_));show fA (m:=isInstance _ _) (wpAny_isInstance (b:=true) (T:="StopIteration") (_,MA _ rfl,rfl) isSubtype_stop ?_);show BA (q _ (((Heap.SameBut.update ..).extBut.push _).push _))
theorem im (N:A.handled=none) (j:Addr) (O:d≠j):Walks prog w A j [j,d] [j] es.size (λi v=>∃h:i < es.size,v=es[i].key) (λi h=>h.IsKeyIter j d i es.size ep/\OF h d es ep) where
 sub:=λb D=>pA.mpr (.inl (bA.mp D))
 frame:=λο ο ο x k=>⟨x.1.at λo e=>k j (cA ..) o e,x.2.kept λo e=>k d (kA _ (cA ..)) o e⟩
 item:=λi s Q J hi x q=>dc x.1 x.2 hi λh' t2 sb=>q _ h' s.toks ⟨hi,rfl⟩ ⟨t2,x.2.kept λo e=>(sb.2 d O).trans e⟩ λb o D e=>(sb.2 b λF=>D (bA.mpr F)).trans e
 done:=λs Q J x q=>fc N x.1 x.2 λh' L=>q h' s.toks λb o D e=>L b o (λF=>D (bA.mpr F)) e
 self:=λο ο ο ο x q=>wpAny_pyIter_keyiter x.1 q
theorem jm (D:(d == sysModules)=false):PySem.W.KdlSrc prog w "dict" d d es.size (λi v=>∃h:i < es.size,v=es[i].key) (λh=>OF h d es ep) where
 type:=λο r=>r.ty
 there:=λο r=>⟨r.lt,r.lt⟩
 keep:=λο ο r k=>r.kept λo e=>k d (.inl rfl) o e
 notList:=by decide
 notTuple:=by decide
 hint:=λο ο ο ο r q=>PySem.W.kdl_hint_dict r.ty q
 iter:=λο ο j r=>(_,_,(λο ο q=>cc D r q),im j _ (XA r.lt),⟨(_,MA _ rfl,rfl,rfl),r.kept λo e=>AA _ e⟩)
end
def MG (H:Hp) (ks:!(!Key)) (vs:!V):Prop:=Paired (λk v=>∃a,v=V.ref a/\H a>(.tup (k.map kV))) ks vs
theorem IM {H:Hp} {kvs:!(!Key×V)} {ys:!(!Key×Addr×Value)} (r:KT H kvs ys):VC (ys.map λy=>V.ref y.2.1) (ys.map λy=>Value.ref y.2.1)/\MG H (kvs.map (·.1)) (ys.map λy=>V.ref y.2.1):=by
 induction r with
 |nil=>show⟨.nil,.nil⟩
 |cons r t j=>show⟨.cons rfl j.1,.cons (_,rfl,r.2.1) j.2⟩
theorem km {X:Cx} (a1:X.calm=true):eE X (.type "list") (λxs H Q=>∃p kvs,xs=[.ref p]/\H p>(.dT kvs)/\∀l vs,H l=none->MG H (kvs.map (·.1)) vs->Q (.ref l) (JC H l (.lst vs))):=by
 intro ad s al H xs us Q D r h;let(p,kvs,rfl,a3,q):=h;let(u,rfl,a9):=GE r;cases a9;let(ah,a6,ys,O,o,es,ep,W,Y,Z,L,_):=JP D.hok a3;let hsz:=size_of_entries L;let ac:=Paired.length O;show PySem.W.kdl_call (jm (es:=es) (ep:=ep) a6) (D.ok.hd a1) (o,W,Y,Z) ⋯ λh' ab acc c kp a2 J=>?_;let a4:∃vs,VC vs acc.toList/\MG H (kvs.map (·.1)) vs:=by
  let a0:acc.toList=ys.map λy=>Value.ref y.2.1:=by
   show List.ext_getElem? λj=>?_;rw[pB];by_cases c:j < es.size
   .let N:j < acc.toList.length:=by rw[vB,J.1];show c
    let(_,e):=J.2 j _ (by rw[<-jC];show GA N);rw[GA N,e];let F:=entry_at L j;rw[iC c,GA ⋯] at F;let F:=yA F;rw[F,GA ⋯]
    rfl
   .rw[List.getElem?_eq_none (by rw[vB,J.1];omega),List.getElem?_eq_none ⋯]
    rfl
  rw[a0];show⟨_,IM O⟩
 let(vs,U,hk):=a4;let a5:=U.length;let V:=D.laid (t':=ab) kp (vA _) (show tD X.prog X.w _ h' _ (.lst vs) from (by rw[a5,vB,J.1];omega,acc.toList,c,U,a2));show(.ref s.heap.objs.size,_,V,rfl,q _ _ (D.hok.fresh (vA _)) hk)
def dJ (wi:TI) (k:Nat) (ix:!Nat) (g:TG) (tt:TT) (te:TE) (h:vH g tt te):TE:=λσ H Q=>wi σ H λJ H1=>∀D,H1 D=none->QH g tt te h J (List.replicate k none++ix.map λi=>(σ[i]?).join) D (λH'=>Q (.ref D) H') H1
section
variable {X:Cx}
theorem lm {U O W:Expr} {Y:!Expr} {scope:Scope} {pos:Pos} {x:Str} {xs fs:!Str} {ix:!Nat} {a2:TI} {g:TG} {a1:TT} {a0:TE} (b1:X.calm=true) (hi:PI X U O a2) (hk:CF scope X.env x fs=true) (b9:ix.map (X.N[·]?)=fs.map some)
  (b5:∀L C F j N J,PG (GD X scope L C (xs++fs) F j N J) U g) (b4:∀L C F j N J,PF (GD X scope L C (xs++fs) F j N J) Y a1) (b3:∀L C F j N J,PE (GD X scope L C (xs++fs) F j N J) W a0) (bc:∀x,foldedSetIterable O X.env x=pure x:=by intro _;rfl):
  PE X (.ListComp W [(U,O,Y,0)] scope pos) (dJ a2 xs.length ix g a1 a0 .mk):=by
 intro Z s a3 H Q V h;let S:=fF.of hk;let(L,b2,a6,a9):=S.clos V;rw[eval_ListComp];show wpAny_comprehension_free (use:=none) rfl bc b2 S.kind S.own (wD (hi Z s a3 H _ V h) λv bt h1=>wD h1 λbo c0 h2=>?_);let(bn,N,c1,bm,bl,e,a5,T,bh,ad,q):=h2;subst e;show cU (xs:=xs) (RR:=λacc C=>compPost (model X.prog X.w) X.A X.xe none (EP X Z a3 Q) acc C) a5 T.g bh ad (λο ο ο ο=>b1) S a6 a9 b9 (λC F j J=>b5 L C F j N J) (λC F j J=>b4 L C F j N J) (λC F j J=>b3 L C F j N J) q λD C H' s' a4 be ⟨m,bb⟩ ⟨ab,ac,_,ah,al,am⟩=>?_;show(m,bb,λh' bd=>(.ref D,H',a4.turned (t':=s'.toks) (λb o b0 e=>(bd.2 b b0).trans e) ab ac ah al am,rfl,be))
end
theorem om {X:Cx} {K:PySem.W.Frag} {es:!Expr} {k:Nat} {pos:Pos} {t:TGs} {n:Nat} (h:X.K=K) (j:X.calm=true) (F:lP X es t) (D:(assignEach es X.env).length=n:=by rfl) (J:(assignEach es X.env).findIdx? (·.1)=none:=by rfl):PG X (.Tuple es k pos) (SL K n t):=h ▸ TL j F D J
def eJ (v d:Addr):HO:=.ext λh=>h.IsValuesView v d
def cL (td:TE):TE:=λσ H Q=>td σ H λx H1=>∃a kvs,x=.ref a/\H1 a>(.dK kvs)/\∀v,H1 v=none->Q (.ref v) (JC H1 v (eJ v a))
theorem qm {X:Cx} {o:Expr} {L:TE} {F J:Pos} (ho:PE X o L) (O:attributeBase o "values" X.env (eval o X.env)=eval o X.env:=by rfl) (U:(F.endLine == J.line)=true:=by rfl):PE X (.Call (.Attribute o "values" F) [] [] J) (cL L):=by
 intro W s a1 H Q N h;show wpAny_Call_method0_late O U (wD (ho W s a1 H _ N h) λu D a0=>?_);let(x,a2,j,Y,a,kvs,ex,hd,q):=a0;subst ex;obtain rfl:u=Value.ref a:=Y;let(Z,t2,_):=QP j (.inl ⟨kvs,.inl hd⟩);let(_,V,vs,_,dd):=mI j.hok (.inl hd);show("dict","dict.values",PySem.F.plainAttrs_dict,PySem.F.slot_dict_values,PySem.F.type_dict_values,Z,t2,OB rfl (PySem.evalArgs_none ?_));show call_meetsIn PySem.F.slot_dict_values dd.typeIs PySem.F.entry_dict_values (PySem.F.args_dict_values_1 _) (meets_dict_values (lD X.prog X.w) a V) ⟨⟨vs,dd⟩,?_⟩;show(.ref D.heap.objs.size,_,j.laid (t':=D.toks) (λb u e=>AA _ e) (vA _) (o:=eJ D.heap.objs.size a) ((_,MA _ rfl,rfl,rfl),⟨_,MA _ rfl⟩,λh1 h2 ⟨o,e,c,d⟩ k=>(o,k o e,c,d)),rfl,q _ (j.hok.fresh (vA _)))
def iU (a:Addr) (o:Obj) (kvs:!(Key×V)):It:=
 (λi H=>H a>(.frz o (.dK kvs))/\i < kvs.length,λi H x H'=>H'=H/\∃k,kvs[i]?>(k,x),λi H=>H a>(.frz o (.dK kvs))/\kvs.length<=i)
theorem rm {P:Program} {w:World} {K:PySem.W.Frag} {b4:Expr} (a F:Addr) (o:Obj) (kvs:!(Key×V)) (ep:Nat) {es} (a9:o.data=.dict es ep):oH P w K b4 (iU a o kvs) [F] F (λi h=>h.IsValIter F a i kvs.length ep) where
 mem:=by simp
 obj:=λi h st b j=>by
  let e:b=F:=by simpa using j
  subst e;let(o,e,c,d):=st;show(o,e,λv ad=>by rw[d] at ad;cases ad)
 keep:=λi h h' st k=>st.at λo e=>k F (by simp) o e
 item:=by
  intro X a3 a4 a2 a6 i ac s ah H al J N st D;subst a3 a4 a2;let(D,hi):=D;let(vs,O,U,_):=xO J D a9;let(W,Y,b1,Z,a0,a1):=N F (by simp);let L:=O.length;let TM:i < vs.length:=by rw[<-L];show hi
  obtain⟨⟨k,x⟩,ab⟩:∃p,vs[i]?>p:=⟨_,GA TM⟩
  let(v,b2,b3):=lS O i k x ab;rw[L] at st;show wpAny_pyNext_values_item st U ab λh' a5 sb=>?_;let am:LC X ac ah H {s with heap:=h'}:=J.turned (t':=s.toks) (λb o j e=>(sb.2 b j).trans e) W Y Z a0 a1;let(b5,e,c,d):=id a5;rw[<-L] at a5;show(x,rfl,oP (s:={s with heap:=h'}) e c d (by decide) (v,H,am,b3,(rfl,k,b2),a5,λb j=>(N b j).1))
 done:=by
  intro X a3 a4 a2 a6 i ac s ah H al J N st D;subst a3 a4 a2;let(D,hi):=D;let(vs,O,U,_):=xO J D a9;let(W,Y,b1,Z,a0,a1):=N F (by simp);let L:=O.length;rw[L] at st;show wpAny_pyNext_values_end (J.ok.hd a6) st U (List.getElem?_eq_none_iff.mpr (by rw[<-L];show hi)) λh' b0=>⟨rfl,J.turned (t':=s.toks) (λb o j e=>b0 b o j e) W Y Z a0 a1⟩
 self:=λο ο ο ο ο st h=>wpAny_pyIter_valiter st h
def dL (tl:TE):TI:=λσ H R=>tl σ H λx H1=>∃v a kvs,x=.ref v/\H1 v>(eJ v a)/\H1 a>(.dK kvs)/\∀o,R (iU a o kvs) (JC H1 a (.frz o (.dK kvs)))
theorem vm {X:Cx} {a9 l:Expr} {U:TE} (a0:PE X l U):PI X a9 l (dL U):=by
 intro a4 s ac H ad V h;show wD (a0 a4 s ac H _ V h) λv j ab=>?_;let(x,J,F,a6,a5):=ab;let(vw,a,kvs,e,a2,N,q):=a5;subst e;cases a6;let(o,ho,D):=F.freeze N;let(_,_,vs,O,ah,es,ep,L,c,d,r):=F.hok a _ N;rw[ho] at L;cases L;let(vs,O,W,hd):=xO D nD d;let a3:j.heap.IsValuesView vw a:=(F.hok vw _ a2).1;show wpAny_pyIter_values a3 W ?_;let a1:kvs.length=vs.length:=O.length;let Z:JC J a (.frz o (.dK kvs)) j.heap.objs.size=none:=D.hok.fresh (vA _);show(j.heap.objs.size,[j.heap.objs.size],_,_,JC J a (.frz o (.dK kvs)),rfl,D.kept (t':=j.toks) λb o e=>AA _ e,rm a _ o kvs ep d,(_,MA _ rfl,rfl,by rw[a1];rfl),λb Y=>?_,q o);let e:b=j.heap.objs.size:=by simpa using Y
 subst e;show D.fpOk (vA _) Z
section
variable {prog:Program} {w:World} {A:Around} {E:Value->Shared->Prop} {s:Shared}
end
def VF (i:Nat):TE:=λσ H Q=>match σ[i]? with
 |some (some v)=>Q v H
 |_=>False
set_option tactic.hygienic true in
theorem wm {i:Nat} {σ:St} {H:Hp} {Q:VK} (h:VF i σ H Q):OJ i σ H Q:=by
 unfold VF at h
 split at h
 .rename_i v e;show(v,e,h)
 .show h.elim
theorem GC {X:Cx} (i:Nat) {x:Str} {pos:Pos} (D:X.N[i]?>x:=by rfl) (J:MR X.env.scope x:=by first|exact Or.inl rfl|exact Or.inr (Or.inl rfl)|exact Or.inr (Or.inr rfl)) (hd:(x == ("__debug__":Str))=false:=by decide)
 (F:(x == ("__classdict__":Str))=false:=by decide):PE X (.Name x pos) (VF i):=λL s N H Q j h=>U8 D J hd F L s N H Q j (wm h)
theorem JM {g:Int->Int->V} {i j:Int} {H:Hp} {Q:VK}:II g (.int i) (.int j) H Q=Q (g i j) H:=propext ⟨λ⟨_,_,D,F,h⟩=>by cases D;cases F;show h,λh=>(_,_,rfl,rfl,h)⟩
theorem dQ {C:Int->Int->Prop} {g:Int->Int->V} {i j:Int} {H:Hp} {Q:VK}:rI C g (.int i) (.int j) H Q=(C i j/\Q (g i j) H):=propext ⟨λ⟨_,_,D,F,h⟩=>by cases D;cases F;show h,λh=>(_,_,rfl,rfl,h)⟩
theorem KM {c:Int} {P:Int->Prop}:(∃i,V.int c=V.int i/\P i)=P c:=propext ⟨λ⟨_,e,h⟩=>by cases e;show h,λh=>(_,rfl,h)⟩
theorem eQ {c:Bool} {P:Bool->Prop}:(∃i,V.bl c=V.bl i/\P i)=P c:=propext ⟨λ⟨_,e,h⟩=>by cases e;show h,λh=>(_,rfl,h)⟩
theorem LM {c:Addr} {P:Addr->Prop}:(∃i,V.ref c=V.ref i/\P i)=P c:=propext ⟨λ⟨_,e,h⟩=>by cases e;show h,λh=>(_,rfl,h)⟩
section
open PySem.Builtin PySem.Builtin.Str
end
structure YH (k:Nat) (A:Around):Prop where
 dp:A.depth+3 * k+5 < recursionLimit
 un:A.units+16 * k+200 < cLine
theorem cE.h {k:Nat} {A:Around} (r:cE k A):YH k A:=⟨r.dp,r.un⟩
theorem YH.deeper {k:Nat} {A:Around} (r:YH (k+1) A) (env:Env):YH k (A.deeper env):=
 ⟨by have:=r.dp;change A.depth+1+3 * k+5 < _;omega,by have:=r.un;change A.units+3+16 * k+200 < _;omega⟩
def iQ (P:Program) (w:World) (K:PySem.W.Frag) (mg:Str->Option Value) (base:Heap) (N:!Str) (qual:Str) (scope:Scope) (f:Addr) (cd:Value) (A:Around) (outer:!Env) (s:Shared) (H:Hp) (E:XK):Cx:=
 {AE (tH P w) P w K mg base N qual scope f cd A outer s H E with calm:=false}
theorem Rm {P:Program} {w:World} {K:PySem.W.Frag} {mg:Str->Option Value} {base:Heap} {N:!Str} {J:Str} {scope:Scope} {f:Addr} {D:Value} {A:Around} {F:!Env} {s:Shared} {H:Hp} {j:XK}:(iQ P w K mg base N J scope f D A F s H j).K=K:=rfl
def fJ (K:PySem.W.Frag) (fd:FuncData) (ps ks:!Str):Prop:=∀(s:Shared) (us:!Value) (a b:Value),K.In s.heap->us.length+2=ps.length->BindsTo s fd ⟨us,ks.zip [a,b]⟩ (ps.zip (us++[b,a]))
def eL (K:PySem.W.Frag) (C:Addr) (m qual:Str) (st:Stmt) (ps ks:!Str):Prop:=∃f fd,EH K C m f/\pI K m qual st f fd/\fJ K fd ps ks
def OM (P:Program) (w:World) (K:PySem.W.Frag) (mg:Str->Option Value) (base:Heap) (C:Addr) (m:Str) (k:Nat) (ps ks:!Str) (sp:Sp):Prop:=
 ∃f fd,EH K C m f/\fJ K fd ps ks/\qF P w K mg base (tH P w) k f fd ps sp
theorem eL.have {P:Program} {w:World} {K:PySem.W.Frag} {mg:Str->Option Value} {base:Heap} {C:Addr} {m j:Str} {st:Stmt} {N ps ks:!Str} {k:Nat} {sp:Sp} (J:eL K C m j st ps ks) (S:HC N ps (EC st)) (len:∀vs H Q D,sp vs H Q D->vs.length=ps.length)
  (L:bG P w K mg base j st N k sp):OM P w K mg base C m (k+1) ps ks sp:=
 let ⟨f,fd,hm,F,hb⟩:=J
 (f,fd,hm,hb,F.okE S len L)
theorem mS {X:Cx}:eE X (.type "dict") (λxs H Q=>∃p kvs,xs=[.ref p]/\Rd H p (.dK kvs)/\∀l,H l=none->Q (.ref l) (JC H l (.dK kvs))):=by
 intro N s O H xs us Q j r h;let(p,kvs,rfl,J,q):=h;let(u,rfl,L):=GE r;cases L;show qk j J λl s' F D=>(.ref l,_,D,rfl,q l F)
theorem Sm {a:Addr} {o:Obj} {kvs:!(Key×V)} {g:TG} {F:TS} {h:OH g F} {D:ZE} {j:St} {H:Hp} (Pv:Nat->St->Hp->Prop) (h0:Pv 0 j H) (O:∀i j H,i<=kvs.length->Pv i j H->H a>(.frz o (.dK kvs)))
  (U:∀i k v j H,kvs[i]?>(k,v)->Pv i j H->g v j H λW L=>F {D with nx:=Pv (i+1),ct:=Pv (i+1),bk:=D.nx} W L) (hd:∀j H,Pv kvs.length j H->D.nx j H):ZI g F h (iU a o kvs) D j H:=by
 show(λi m j H=>i+m=kvs.length/\Pv i j H,(kvs.length,Nat.zero_add _,h0),λi m j H ⟨e,p⟩=>?_);let J:=O i j H ⋯ p;by_cases hi:i < kvs.length
 .show .inr (⟨J,hi⟩,Pv (i+1),λj H q=>(m - 1,⋯,⋯,q),?_);rintro y H' ⟨rfl,k,hk⟩;show U i k y j _ hk p
 .let N:i=kvs.length:=⋯;subst N;show .inl ⟨⟨J,vA _⟩,hd j H p⟩
section
variable {prog:Program} {w:World} {A:Around} {E:Value->Shared->Prop} {s:Shared}
end
section
variable {X:Cx}
end
section
variable {prog:Program} {w:World} {A:Around} {E:Value->Shared->Prop} {s:Shared}
end
section
variable {X:Cx}
end
section
variable {X:Cx} {pins:!(Addr×Obj)} {σ:!(Option V)} {H:Hp} {s:Shared} {a:Addr}
theorem LC.freezeT {kvs:!(!Key×V)} (D:LC X pins σ H s) (e:H a>(.dT kvs)):∃o,s.heap.get? a>o/\LC X pins σ (JC H a (.frz o (.dT kvs))) s:=by
 let(j,hd,xs,J,o,es,ep,ho,r):=JP D.hok e;let st:tD X.prog X.w (JC H a (.frz o (.dT kvs))) s.heap a (.dT kvs):=(D.hok a _ e).stay (λο ο ο q=>q) (λc q=>by rw[WC (λj=>by rw[j,e] at q;cases q)];show q) (λc xs q=>by rw[WC (λj=>by rw[j,e] at q;cases q)];show q);show(o,ho,D.rewrite e (λο j=>by cases j) (λο j=>by cases j) (λw F h=>?_) ⟨ho,st⟩);let(_,_,q)||(_,q)||(_,q):=D.still F h<;>(rw[e] at q;cases q)
theorem LC.thawT {kvs:!(!Key×V)} {o:Obj} (D:LC X pins σ H s) (e:H a>(.frz o (.dT kvs))) (h0:∀o u,X.H₀ a≠some (.frz o u)):LC X pins σ (JC H a (.dT kvs)) s:=by
 let ok:tD X.prog X.w H s.heap a (.dT kvs):=(D.hok a _ e).2;let st:tD X.prog X.w (JC H a (.dT kvs)) s.heap a (.dT kvs):=ok.stay (λο ο ο q=>q) (λc q=>by rw[WC (λj=>by rw[j,e] at q;cases q)];show q) (λc xs q=>by rw[WC (λj=>by rw[j,e] at q;cases q)];show q);show D.rewrite e (λο j=>by cases j) (λο j=>by cases j) (λw F h=>?_) st;let(_,_,rfl)||h:=h
 .show h0 _ _ F
 .let(J,L,q)||(_,q)||(_,q):=D.still F (.inr h)
  .let(xs,rfl)||(ps,rfl):=h
   .have:=D.base.tups a xs F;rw[e] at this;cases this
   .let(m,this):=D.base.tbls a ps F;rw[e] at this;cases this
  .rw[e] at q;cases q
  .rw[e] at q;cases q
end
def VE (a:Addr) (H:Hp):Hp:=match H a with
 |some (.frz _ (.dT kvs))=>JC H a (.dT kvs)
 |_=>H
theorem oS {a:Addr} {H:Hp} {o:Obj} {kvs:!(!Key×V)} (h:H a>(.frz o (.dT kvs))):VE a H=JC H a (.dT kvs):=by unfold VE;rw[h]
set_option tactic.hygienic true in
theorem LC.thawedT {X:Cx} {pins:!(Addr×Obj)} {σ:!(Option V)} {H:Hp} {s:Shared} {a:Addr} (I:LC X pins σ H s) (h0:∀o u,X.H₀ a≠some (.frz o u)):LC X pins σ (VE a H) s:=by
 unfold VE
 split
 .rename_i h;show I.thawT h h0
 .show I
def oG (a:Addr) (D:ZE):ZE:={D with nx:=λσ H=>D.nx σ (VE a H),bk:=λσ H=>D.bk σ (VE a H),ct:=λσ H=>D.ct σ (VE a H),rt:=λv H=>D.rt v (VE a H)}
def PM (X:Cx) (t:TS):TS:=λD σ H=>∃a,(∀o u,X.H₀ a≠some (.frz o u))/\t (oG a D) σ H
theorem lU {X:Cx} {st:Stmt} {t:TS} (h:PS X st t):PS X st (PM X t):=by
 intro N s O H D L J;let(a,h0,J):=J;show AB (h N s O H (oG a D) L J) (λf s' q=>?_) λο ο e=>e;unfold SP at q ⊢;cases f with
 |next=>let(F,H',j,q):=q;show(F,_,j.thawedT h0,q)
 |brk=>let(F,H',j,q):=q;show(F,_,j.thawedT h0,q)
 |cont=>let(F,H',j,q):=q;show(F,_,j.thawedT h0,q)
 |ret u=>let(v,F,H',j,r,q):=q;show(v,F,_,j.thawedT h0,r,q)
def eK (a:Addr) (o:Obj) (kvs:!(!Key×V)):It:=
 (λi H=>H a>(.frz o (.dT kvs))/\i < kvs.length,λi H x H'=>H'=H/\∃k v b,kvs[i]?>(k,v)/\x=.ref b/\H b>(.tup (k.map kV)),λi H=>H a>(.frz o (.dT kvs))/\i=kvs.length)
theorem fL {H:Hp}:∀{kvs:!(!Key×V)} {ys:!(!Key×Addr×Value)},KT H kvs ys->∀(i:Nat) {y:!Key×Addr×Value},ys[i]?>y->∃k v,kvs[i]?>(k,v)/\H y.2.1>(.tup (k.map kV))
 |_,_,.nil,i,y,h=>by simp at h
 |_,_,.cons (a:=p) r t,0,y,h=>by
  let h:=yA h;subst h;show(p.1,p.2,rfl,r.2.1)
 |_,_,.cons r t,i+1,y,h=>fL t i h
theorem mU {X:Cx} {W:!(Addr×Obj)} {Y:!(Option V)} {H:Hp} {s:Shared} {a:Addr} {o:Obj} {kvs:!(!Key×V)} {ep:Nat} {es:Array DictEntry} (D:LC X W Y H s) (e:H a>(.frz o (.dT kvs))) (hd:o.data=.dict es ep):
  OF s.heap a es ep/\(a == sysModules)=false/\es.size=kvs.length/\∀i (h:i < es.size),∃k v b,kvs[i]?>(k,v)/\es[i].key=.ref b/\H b>(.tup (k.map kV)):=by
 let ho:=(D.hok a _ e).1;let(a3,U,ys,N,a2,a0,Z,F,O,J,L,_):=XJ D.hok (.inr ⟨o,e⟩);rw[ho] at F;cases F;rw[hd] at J;cases J;let hsz:=size_of_entries L;let a1:=Paired.length N;show((o,ho,O,hd),U,⋯,λi hi=>?_);let j:=entry_at L i;rw[iC hi,GA ⋯] at j;let j:=yA j;let(k,v,h1,h2):=fL N i (GA (show i < ys.length by omega));show(k,v,_,h1,by rw[j];rfl,h2)
theorem Um {P:Program} {w:World} {K:PySem.W.Frag} {b0:Expr} (a F:Addr) (o:Obj) (kvs:!(!Key×V)) (ep:Nat) {es:Array DictEntry} (a4:o.data=.dict es ep):oH P w K b0 (eK a o kvs) [F] F (λi h=>h.IsKeyIter F a i es.size ep) where
 mem:=by simp
 obj:=λi h st b j=>by
  let e:b=F:=by simpa using j
  subst e;let(o,e,c,d):=st;show(o,e,λv a9=>by rw[d] at a9;cases a9)
 keep:=λi h h' st k=>st.at λo e=>k F (by simp) o e
 item:=by
  intro X a0 a1 Z a3 i a5 s ab H ac J L st D;subst a0 a1 Z;let(D,hi):=D;let(raw,_,hsz,a2):=mU J D a4;let(N,O,al,U,W,Y):=L F (by simp);let TM:i < es.size:=⋯;let(k,v,b,hk,am,j):=a2 i TM;show dc st raw TM λh' a6 sb=>?_;let ad:LC X a5 ab H {s with heap:=h'}:=J.turned (t':=s.toks) (λb o j e=>(sb.2 b j).trans e) N O U W Y;let(b1,e,c,d):=id a6;show(_,rfl,oP (s:={s with heap:=h'}) e c d (by decide) (.ref b,H,ad,by rw[am];rfl,(rfl,k,v,b,hk,rfl,j),a6,λb j=>(L b j).1))
 done:=by
  intro X a0 a1 Z a3 i a5 s ab H ac J L st D;subst a0 a1 Z;let(D,hi):=D;let(raw,_,hsz,a2):=mU J D a4;let(N,O,al,U,W,Y):=L F (by simp);obtain rfl:i=es.size:=⋯;show fc (J.ok.hd a3) st raw λh' ah=>⟨rfl,J.turned (t':=s.toks) (λb o j e=>ah b o j e) N O U W Y⟩
 self:=λο ο ο ο ο st h=>wpAny_pyIter_keyiter st h
def pG (tl:TE):TI:=λσ H R=>tl σ H λx H1=>∃a kvs,x=.ref a/\H1 a>(.dT kvs)/\∀o,R (eK a o kvs) (JC H1 a (.frz o (.dT kvs)))
theorem pS {X:Cx} {a2 l:Expr} {O:TE} (Y:PE X l O):PI X a2 l (pG O):=by
 intro Z s a4 H a5 U h;show wD (Y Z s a4 H _ U h) λv j a3=>?_;let(x,F,J,a1,a0):=a3;let(a,kvs,e,N,q):=a0;subst e;cases a1;let(o,ho,D):=J.freezeT N;let(_,_,vs,a9,a6,es,ep,L,c,d,r):=JP J.hok N;rw[ho] at L;cases L;let(raw,hd,hsz,_):=mU D nD d;show cc hd raw ?_;let W:JC F a (.frz o (.dT kvs)) j.heap.objs.size=none:=D.hok.fresh (vA _);show(j.heap.objs.size,[j.heap.objs.size],_,_,JC F a (.frz o (.dT kvs)),rfl,D.kept (t':=j.toks) λb o e=>AA _ e,Um a _ o kvs ep d,(_,MA _ rfl,rfl,rfl),λb V=>?_,q o);let e:b=j.heap.objs.size:=by simpa using V
 subst e;show D.fpOk (vA _) W
section
open PySem.W
def In (p:Array Nat) (n:Nat):Prop:=0 < n/\∀x∈p.toList,x < n
theorem In.at {p:Array Nat} {n:Nat} (h:In p n) (i:Nat):p.getD i 0 < n:=by
 rw[sC];cases e:p[i]? with
 |none=>show h.1
 |some x=>show h.2 x (QA (by rw[jC];show e))
theorem In.perm {p q:Array Nat} {n:Nat} (h:In p n) (e:q.Perm p):In q n:=⟨h.1,λx j=>h.2 x ((Array.perm_iff_toList_perm.mp e).mem_iff.mp j)⟩
structure Od (lt:Nat->Nat->Bool) (n:Nat):Prop where
 tr:∀i j k,i < n->j < n->k < n->lt i j=true->lt j k=true->lt i k=true
 ir:∀i,i < n->lt i i=false
 to:∀i j,i < n->j < n->i≠j->lt i j=true\/lt j i=true
variable {lt:Nat->Nat->Bool} {n:Nat}
structure Pm (p:Array Nat) (n:Nat):Prop where
 sz:p.size=n
 lt:∀i,i < n->p.getD i 0 < n
 ne:∀i j,i < n->j < n->i≠j->p.getD i 0≠p.getD j 0
 pe:p.Perm (List.range n).toArray
def Up (lt:Nat->Nat->Bool) (p:Array Nat) (m:Nat):Prop:=∀i j,i < j->j < m->lt (p.getD i 0) (p.getD j 0)=true
def Dn (lt:Nat->Nat->Bool) (p:Array Nat) (m:Nat):Prop:=∀i j,i < j->j < m->lt (p.getD j 0) (p.getD i 0)=true
theorem Up.succ {p:Array Nat} {m:Nat} (o:Od lt n) (D:Pm p n) (h:Up lt p m) (h1:1<=m) (L:m < n) (c:lt (p.getD (m - 1) 0) (p.getD m 0)=true):Up lt p (m+1):=λi j J F=>by
 let F||rfl:=(by omega:j < m\/j=m)
 .show h i j J F
 .let hi||rfl:=(by omega:i < j - 1\/i=j - 1)
  .show o.tr _ _ _ (D.lt _ ⋯) (D.lt _ ⋯) (D.lt _ L) (h i (j - 1) hi ⋯) c
  .show c
theorem Dn.succ {p:Array Nat} {m:Nat} (o:Od lt n) (D:Pm p n) (h:Dn lt p m) (h1:1<=m) (L:m < n) (c:lt (p.getD m 0) (p.getD (m - 1) 0)=true):Dn lt p (m+1):=λi j J F=>by
 let F||rfl:=(by omega:j < m\/j=m)
 .show h i j J F
 .let hi||rfl:=(by omega:i < j - 1\/i=j - 1)
  .show o.tr _ _ _ (D.lt _ L) (D.lt _ ⋯) (D.lt _ ⋯) c (h i (j - 1) hi ⋯)
  .show c
theorem other {p:Array Nat} (o:Od lt n) (D:Pm p n) {i j:Nat} (hi:i < n) (F:j < n) (J:i≠j) (c:lt (p.getD i 0) (p.getD j 0)=false):lt (p.getD j 0) (p.getD i 0)=true:=by
 let h||h:=o.to _ _ (D.lt i hi) (D.lt j F) (D.ne i j hi F J)
 .rw[h] at c;cases c
 .show h
end
section
variable {prog:Program} {w:World} {A:Around} {E:Value->Shared->Prop} {s:Shared}
end
section
variable {prog:Program} {w:World} {K:Type} [DecidableEq K] {knd:HeapKind prog w K} {A:Around} {E:Value->Shared->Prop} {s:Shared}
end
theorem qc {a:Addr} {o:Obj} {kvs:!(!Key×V)} {g:TG} {L:TT} {J:TE} {h:vH g L J} {W:St} {D:Addr} {Q:Hp->Prop} {H:Hp} (Pv:Nat->!V->St->Hp->Prop) (h0:Pv 0 [] W (JC H D (.lst []))) (a1:∀i ys j H,i<=kvs.length->Pv i ys j H->H a>(.frz o (.dT kvs)))
  (a2:∀i k x b ys j H,kvs[i]?>(k,x)->H b>(.tup (k.map kV))->Pv i ys j H->g (.ref b) j H λF Y=>L F Y λc N=>if c=true then J F N λv O=>O D>(.lst ys)/\ys.length < sizeLine/\Pv (i+1) (ys++[v]) F (JC O D (.lst (ys++[v]))) else Pv (i+1) ys F N) (hd:∀ys j H,Pv kvs.length ys j H->Q H):
  QH g L J h (eK a o kvs) W D Q H:=by
 show(λi m ys j H=>i+m=kvs.length/\Pv i ys j H,(kvs.length,Nat.zero_add _,h0),λi m ys j H ⟨e,p⟩=>?_);let U:=a1 i ys j H ⋯ p;by_cases hi:i < kvs.length
 .show .inr (⟨U,hi⟩,Pv (i+1),λys j H q=>(m - 1,⋯,⋯,q),?_);rintro y H' ⟨rfl,k,v,b,hk,rfl,a0⟩;show a2 i k v b ys j _ hk a0 p
 .let Z:i=kvs.length:=⋯;subst Z;show .inl ⟨⟨U,rfl⟩,hd ys j H p⟩
section
variable {M:Model} {A:Around} {E:Value->Shared->Prop} {s:Shared} {env:Env}
end
section
variable {M:Model} {A:Around} {E:Value->Shared->Prop} {s:Shared} {env:Env}
end
section
variable {X:Cx}
end
section
variable {prog:Program} {w:World} {A:Around} {E:Value->Shared->Prop} {s:Shared}
end
section
variable {prog:Program} {w:World} {A:Around} {E:Value->Shared->Prop} {s:Shared}
end
section
variable {X:Cx}
end
def wH (a:Addr) (n:Nat):HO:=.ext λh=>∃o es ep t,h.get? a>o/\o.ExactSet/\o.data=.set es ep t/\t.fits es.size=true/\es.size=n
def cH (ns:!Int):Nat:=(firstMet (λi=>ns.getD i 0) ns.length).length
theorem rc {X:Cx} (a3:X.calm=true):eE X (.type "set") (λxs H Q=>∃(p:Addr) (ns:!Int),xs=[.ref p]/\BD X.K H p (ns.map V.int)/\ns.length < 4000/\∀l,H l=none->Q (.ref l) (JC H l (wH l (cH ns)))):=by
 intro ad s ah H xs us Q j r h;let(p,ns,rfl,a6,ac,q):=h;let(u,rfl,a9):=GE r;cases a9;let(J,L,pl,hz):=j.list a6;let hi:=kS L;let a5:J.length=ns.length:=by
  have:=L.length;rw[dA] at this;show this.symm
 let hsz:J.toArray.size=ns.length:=by simp[a5]
 let a4:H s.heap.objs.size=none:=j.hok.fresh (vA _);show call_set_list (j.ok.hd a3) pl.isList (by simpa using hi) (by rw[hsz];change ns.length+1 < 4096;omega) λh' ab F hk=>?_;rw[hsz] at F;let(o,es,ep,t,D,Z,a0,_,_,_,a1,a2):=F;show(.ref s.heap.objs.size,_,j.laid (t':=ab) (λb u e=>hk b u (FA e) e) (vA _) (o:=wH s.heap.objs.size (cH ns)) ((o,es,ep,t,D,Z,a0,a1,a2),⟨o,D⟩,λh1 h2 ⟨o,es,ep,t,N,O,U,W,Y⟩ k=>(o,es,ep,t,k o N,O,U,W,Y)),rfl,q _ a4)
theorem uc {X:Cx}:eE X (.builtin "len") (λxs H Q=>∃(a:Addr) (n:Nat),xs=[.ref a]/\H a>(wH a n)/\n < 4096/\Q (.int n) H):=by
 intro V s W H xs us Q j r h;let(a,n,rfl,N,U,q):=h;let(u,rfl,O):=GE r;cases O;let((o,es,ep,t,D,F,J,L,rfl),_):=(show tD X.prog X.w H s.heap a (wH a n) from j.hok a _ N)
 show call_len_set D F J L ⋯ (.int es.size,H,j.tok _,⟨_,rfl⟩,q)
section
variable {K:PySem.W.Frag} {h:Heap} {mg:Str->Option Value} {x qual:Str} {st:Stmt} {ps:!Str} {C f:Addr} {oc:Value} {od an:Option Addr} {osl:Array (Option Value)} {kV doc pm cdv ct:Value}
def GF (K:PySem.W.Frag) (x:Str) (st:Stmt):Prop:=∃f fd,PySem.W.nsIn K mainGlobals x>(↑f)/\HH K x x st f fd
theorem GF.mk (a:PySem.W.nsIn K mainGlobals x>(↑f)) (l:K.lookup f>(oc,od,.func (PySem.W.fnOf x x (cD st) (aD st) (EC st) .none kV doc pm an cdv ct),osl)) (c:PySem.W.codeIn K cdv x=true) (k:PySem.W.keepIn K (.ref f)=true):GF K x st:=(_,_,a,DT l c k)
theorem GF.raw (g:GF K x st) (X:K.In h) (j:h.Ns mainGlobals mg) (b:∀(kV N pm:Value) (D:Option Addr) (J L:Value) (us:!Value),us.length=ps.length->bindArgs (PySem.W.fnOf x x (cD st) (aD st) (EC st) .none kV N pm D J L) ⟨us,[]⟩=pure (ps.zip us)):aG K mg x x st ps []:=
 let ⟨_,_,a,F⟩:=g
 (_,_,_,PySem.W.mg_of X j a,F,F.binds b,.nil)
theorem GF.law (g:GF K x st) (X:K.In h) (O:h.Ns mainGlobals mg) {p:Str} (b:∀(kV N pm:Value) (F:Option Addr) (J L u:Value),bindArgs (PySem.W.fnOf x x (cD st) (aD st) (EC st) .none kV N pm F J L) ⟨[u],[]⟩=pure [(p,u)]):∃f j,mg x=↑f/\HH K x x st f j/\∀(s:Shared) (u:Value),BindsTo s j ⟨[u],[]⟩ [(p,u)]:=by
 let(f,j,a,D):=g;show(f,j,PySem.W.mg_of X O a,D,λs u=>?_);let(W,Y,kV,N,pm,F,J,L,Z,rfl,V,U):=D.ex;show .of_eq (b ..)
def MF (K:PySem.W.Frag) (C:Addr) (x qual:Str) (st:Stmt):Prop:=∃f fd,EH K C x f/\HH K x qual st f fd
theorem MF.mk (a:PySem.W.findIn K (.ref C) x>(↑f)) (i:PySem.W.isFn K (.ref f)=true) (l:K.lookup f>(oc,od,.func (PySem.W.fnOf x qual (cD st) (aD st) (EC st) .none kV doc pm an cdv ct),osl)) (c:PySem.W.codeIn K cdv qual=true) (k:PySem.W.keepIn K (.ref f)=true):MF K C x qual st:=(_,_,(a,i,k),DT l c k)
theorem MF.raw (g:MF K C x qual st) (b:∀(kV L pm:Value) (j:Option Addr) (D J:Value) (us:!Value),us.length=ps.length->bindArgs (PySem.W.fnOf x qual (cD st) (aD st) (EC st) .none kV L pm j D J) ⟨us,[]⟩=pure (ps.zip us)):yD K C x qual st ps []:=
 let ⟨_,_,a,F⟩:=g
 (_,_,_,a,F,F.binds b,.nil)
def IF (K:PySem.W.Frag) (C:Addr) (qual:Str) (st:Stmt):Prop:=∃f fd,Mk K C f/\HH K "__init__" qual st f fd
theorem IF.mk (m:PySem.W.makesIn K C=true) (j:PySem.W.keepIn K (.ref C)=true) (a:PySem.W.findIn K (.ref C) "__init__">(↑f)) (i:PySem.W.isFn K (.ref f)=true) (l:K.lookup f>(oc,od,.func (PySem.W.fnOf "__init__" qual (cD st) (aD st) (EC st) .none kV doc pm an cdv ct),osl)) (c:PySem.W.codeIn K cdv qual=true) (k:PySem.W.keepIn K (.ref f)=true):IF K C qual st:=(_,_,(m,a,i,j),DT l c k)
theorem IF.raw (g:IF K C qual st) (X:K.In h) (j:h.Ns mainGlobals mg) (n:PySem.W.nsIn K mainGlobals x>(↑C)) (b:∀(kV N pm:Value) (D:Option Addr) (J L:Value) (us:!Value),us.length=ps.length->bindArgs (PySem.W.fnOf "__init__" qual (cD st) (aD st) (EC st) .none kV N pm D J L) ⟨us,[]⟩=pure (ps.zip us)):KH K mg x C qual st ps []:=
 let ⟨_,_,a,F⟩:=g
 (_,_,_,PySem.W.mg_of X j n,a,F,F.binds b,.nil)
end
namespace ST
def qS (m i:Nat):Nat:=(i * 5+1) % (m+1)
def rS (m:Nat):Nat->Nat->!Nat
 |0,_=>[]
 |k+1,i=>i::rS m k (qS m i)
theorem nU:∀i,i < 8->∀j,j < 8->j∈rS 7 8 i:=by decide
theorem jQ:∀i,i < 32->∀j,j < 32->j∈rS 31 32 i:=∅
def qI (m:Nat):Nat->Nat->Nat
 |0,i=>i
 |k+1,i=>qI m k (qS m i)
theorem oU {m j:Nat}:∀{k i:Nat},j∈rS m k i->∃n,n < k/\qI m n i=j
 |0,_,h=>by cases h
 |k+1,i,h=>by
  let h||h:=pA.mp h
  .show(0,⋯,h.symm)
  .let(n,h1,h2):=oU h;show(n+1,⋯,h2)
def Mk (m:Nat):Prop:=m=7\/m=31
theorem Vm {m:Nat} (D:Mk m) {i j:Nat} (hi:i<=m) (F:j<=m):∃n,n<=m/\qI m n i=j:=by
 let rfl||rfl:=D
 .let(n,h1,h2):=oU (nU i ⋯ j ⋯);show(n,⋯,h2)
 .let(n,h1,h2):=oU (jQ i ⋯ j ⋯);show(n,⋯,h2)
def lp (m:Nat):Nat->Nat×Nat->Nat×Nat
 |0,x=>x
 |k+1,x=>SetTable.leap m (lp m k x).1 (lp m k x).2
theorem kQ {m:Nat} {x:Nat×Nat} (h:x.1<=m):∀k,(lp m k x).1<=m
 |0=>h
 |k+1=>by
  change (_ % (m+1))<=m;have:=Nat.mod_lt ((lp m k x).1 * 5+1+(lp m k x).2 / 32) (show 0 < m+1 by omega);omega
theorem vc {m:Nat} {x:Nat×Nat}:∀k,(lp m k x).2=x.2 / 32 ^ k
 |0=>by change x.2=_;rw[Nat.pow_zero,Nat.div_one]
 |k+1=>by
  change (lp m k x).2 / 32=_;rw[vc k,Nat.div_div_eq_div_mul,Nat.pow_succ]
theorem QM {m:Nat} {x:Nat×Nat} (j:x.2 < 2 ^ 64) {k:Nat} (hk:13<=k):(lp m k x).2=0:=by
 rw[vc];apply Nat.div_eq_of_lt;have:(32:Nat) ^ 13<=32 ^ k:=Nat.pow_le_pow_right ⋯ hk;let e:(32:Nat) ^ 13=2 ^ 65:=by decide
 omega
theorem wc {m:Nat}:∀{n i:Nat},qI m (n+1) i=qS m (qI m n i)
 |0,_=>rfl
 |n+1,i=>wc (n:=n) (i:=qS m i)
theorem xc {m:Nat} {x:Nat×Nat} (hx:x.2 < 2 ^ 64):∀n,(lp m (13+n) x).1=qI m n (lp m 13 x).1
 |0=>rfl
 |n+1=>by
  rw[wc,<-xc hx n];change ((lp m (13+n) x).1 * 5+1+(lp m (13+n) x).2 / 32) % (m+1)=_;rw[QM hx ⋯]
  rfl
theorem RM {m:Nat} (F:Mk m) {x:Nat×Nat} (h:x.1<=m) (J:x.2 < 2 ^ 64) {j:Nat} (D:j<=m):∃k,k<=13+m/\(lp m k x).1=j:=by
 let(n,h1,h2):=Vm F (kQ h 13) D;show(13+n,⋯,by rw[xc J];show h2)
theorem Wm (h:Int):SetTable.bits h < 2 ^ 64:=by unfold SetTable.bits;omega
def lQ (t:SetTable) (x:Nat×Nat):SetTable.Probe:=(x.1,SetTable.runEnd t.mask x.1 - x.1,x.1,x.2,none)
theorem yc {m:Nat} {x:Nat×Nat}:∀n,lp m (n+1) x=lp m n (SetTable.leap m x.1 x.2)
 |0=>rfl
 |n+1=>by
  change SetTable.leap m (lp m (n+1) x).1 (lp m (n+1) x).2=_;rw[yc n]
  rfl
theorem zc {m:Nat} {ow:Array (Option Nat)}:∀{n fuel:Nat} {x:Nat×Nat},n < fuel->ow.getD (lp m n x).1 (some 0)=none->∃j,SetTable.layClean.free m ow fuel x.1 x.2>j/\ow.getD j (some 0)=none
 |n,fuel+1,x,hf,he=>by
  unfold SetTable.layClean.free;cases e:(List.range (SetTable.runEnd m x.1+1 - x.1)).find? λk=>(ow.getD (x.1+k) (some 0)).isNone with
  |some k=>
   let h1:=NB e;show(_,rfl,Option.isNone_iff_eq_none.mp h1)
  |none=>
   dsimp only;cases n with
   |zero=>
    exfalso;let h1:=uB.mp e 0 (yB.mpr (by unfold SetTable.runEnd;split<;>omega));apply h1;rw[Nat.add_zero];show Option.isNone_iff_eq_none.mpr he
   |succ n=>
    rw[yc] at he;show zc (x:=SetTable.leap m x.1 x.2) ⋯ he
structure Ow (m:Nat) (ow:Array (Option Nat)) (js:!Nat):Prop where
 sz:ow.size=m+1
 nd:js.Nodup
 le:∀j∈js,j<=m
 at_:∀j,j<=m->ow[j]?>(if j∈js then some (js.idxOf j) else none)
theorem Ow.zero (m:Nat):Ow m (Array.replicate (m+1) none) []:=(by simp,.nil,(λj h=>by cases h),λj D=>by
 rw[Array.getElem?_replicate,iA ⋯];rfl)
theorem Ow.next {m:Nat} (a3:Mk m) {ow:Array (Option Nat)} {F:!Nat} (h:Ow m ow F) (a5:F.length<=m) (D:Int):
  ∃j,SetTable.layClean.free m ow (SetTable.turns m) (SetTable.bits D % (m+1)) (SetTable.bits D)>j/\Ow m (ow.setIfInBounds j (some F.length)) (F++[j]):=by
 let N:∃j,j<=m/\j∉F:=by
  apply Classical.byContradiction;intro N;let sub:List.range (m+1) ⊆ F:=λj a1=>Classical.byContradiction λq=>N (j,by have:=yB.mp a1;omega,q);have:=(List.nodup_range (n:=m+1)).length_le_of_subset sub;rw[BB] at this;omega
 let(a4,O,a2):=N;let h1:SetTable.bits D % (m+1)<=m:=by
  have:=Nat.mod_lt (SetTable.bits D) (show 0 < m+1 by omega);omega
 let(k,hk,W):=RM a3 (x:=(SetTable.bits D % (m+1),SetTable.bits D)) h1 (Wm D) O;let(j,Y,L):=zc (m:=m) (ow:=ow) (n:=k) (fuel:=SetTable.turns m) (x:=(SetTable.bits D % (m+1),SetTable.bits D)) (by unfold SetTable.turns;omega) (by
  rw[W,sC,h.at_ a4 O,gA a2];rfl)
 show(j,Y,?_);let U:j<=m:=by
  apply Classical.byContradiction;intro q;rw[sC,Array.getElem?_eq_none (by rw[h.sz];omega)] at L;cases L
 let V:j∉F:=λq=>by
  rw[sC,h.at_ j U,iA q] at L;cases L
 show(by rw[Array.size_setIfInBounds];show h.sz,?_,?_,λi hi=>?_)
 .rw[EA];show(h.nd,by simp,λa Z b a0 e=>?_);rw[bA.mp a0] at e;show V (e ▸ Z)
 .intro i hi;let q||q:=jA.mp hi
  .show h.le i q
  .rw[bA.mp q];show U
 .rw[Array.getElem?_setIfInBounds];by_cases q:j=i
  .subst q;rw[iA rfl,iA (by rw[h.sz];omega),iA (uA _ (bA.mpr rfl)),List.idxOf_append,gA V];simp
  .rw[gA q,h.at_ i hi];by_cases r:i∈F
   .rw[iA r,iA (CA _ r),List.idxOf_append,iA r]
   .rw[gA r,gA];intro J;let J||J:=jA.mp J
    .show r J
    .show q (bA.mp J).symm
section
variable {prog:Program} {w:World} {A:Around} {E:Value->Shared->Prop} {s:Shared} {a:Addr} {o:Obj} {items:Array Value} {n:Nat} {Q:Bool->Shared->Prop}
end
section
variable {prog:Program} {w:World} {K:Type} [DecidableEq K] {knd:KeyKind prog w K} {A:Around} {E:Value->Shared->Prop} {s:Shared} {S a:Addr} {o:Obj} {es:Array (Int×Value)} {ep:Nat} {t:SetTable} {k:!K}
end
section
variable {prog:Program} {w:World} {K:Type} [DecidableEq K] {knd:KeyKind prog w K} {A:Around} {E:Value->Shared->Prop} {s:Shared} {S a:Addr} {k:!K} {ks:!(!K)}
def TB (knd:KeyKind prog w K) (h:Heap) (S:Addr) (ks:!(!K)):Prop:=∃o es ep t,h.get? S>o/\o.ExactSet/\o.data=.set es ep t/\Mk t.mask/\t.dummies= #[]/\t.place.size=es.size/\es.size=ks.length/\(t.mask=7->es.size<=4)/\
 ∀e∈es.toList,∃k' b,k'∈ks/\e=(tupleKeyHash knd k',.ref b)/\IsTupleKey knd h k' b
end
section
variable {prog:Program} {w:World} {K:Type} [DecidableEq K] {knd:KeyKind prog w K} {A:Around} {R:Result->Shared->Prop} {I:Addr} {fp wr:!Addr} {G:Array GenState->Array GenState->Prop} {n:Nat} {P:Nat->Value->Prop} {St:Nat->Shared->Prop}
theorem SM {h h':Heap} {k:!K} {a:Addr} (x:IsTupleKey knd h k a) (hk:∀o,h.get? a>o->h'.get? a>o):IsTupleKey knd h' k a:=by
 let(L,J,n,F,j,D,hi):=x;show(L,J,n,hk _ F,j,D,hi)
theorem TB.keep {h h':Heap} {S:Addr} {ks:!(!K)} (Z:TB knd h S ks) (Y:∀o,h.get? S>o->h'.get? S>o) (hk:∀b k,IsTupleKey knd h k b->∀o,h.get? b>o->h'.get? b>o):TB knd h' S ks:=by
 let(o,es,ep,t,ho,h1,h2,L,N,O,U,V,W):=Z;show(o,es,ep,t,Y _ ho,h1,h2,L,N,O,U,V,λe a0=>?_);let(D,b,F,J,j):=W e a0;show(D,b,F,J,SM j (hk b D j))
end
section
variable {prog:Program} {w:World} {K:Type} [DecidableEq K] {knd:KeyKind prog w K} {A:Around} {E:Value->Shared->Prop} {s:Shared}
end
end ST
namespace TS
def Od (kd:SortKind) (Ok:Keyed->Prop) (rk:Keyed->Int) (M:Model) (A:Around) (E:Value->Shared->Prop) (s:Shared):Prop:=
 ∀(st:SortSt) (x y:Keyed) (Q:Option Bool->SortSt->Prop),kindOf st=kd->Ok x->Ok y->Q (some (decide (rk x < rk y))) st->wpS M A E s (lt' x y) Q st
def Kr (rk:Keyed->Int) (xs:Array Keyed) (i:Nat):Int:=match xs[i]? with
 |some p=>rk p
 |none=>0
theorem Pc {D:Keyed->Int} {xs ys:Array Keyed} {i j:Nat} (h:xs[i]?=ys[j]?):Kr D xs i=Kr D ys j:=by unfold Kr;rw[h]
def sS (rk:Keyed->Int) (xs:Array Keyed) (lo n:Nat):Prop:=∀i j,i<=j->j < n->Kr rk xs (lo+i)<=Kr rk xs (lo+j)
def zO (xs ys:Array Keyed) (lo n:Nat):Prop:=∀k,k < lo\/lo+n<=k->ys[k]?=xs[k]?
theorem zO.trans {xs ys zs:Array Keyed} {lo n:Nat} (h:zO xs ys lo n) (g:zO ys zs lo n):zO xs zs lo n:=λk hk=>(g k hk).trans (h k hk)
theorem sS.out {J:Keyed->Int} {xs ys:Array Keyed} {lo n D F:Nat} (h:sS J xs lo n) (o:zO xs ys D F) (d:lo+n<=D\/D+F<=lo):sS J ys lo n:=λi j L N=>by
 rw[Pc (o (lo+i) ⋯),Pc (o (lo+j) ⋯)];show h i j L N
structure Sb (a₀:Array Keyed) (kd:SortKind) (pd:Array (Nat×Nat×Nat)) (st:SortSt):Prop where
 perm:(arrOf st).Perm a₀
 kind:kindOf st=kd
 failed:failedOf st=none
 pend:pendingOf st=pd
theorem Sb.size {j:Array Keyed} {kd:SortKind} {pd:Array (Nat×Nat×Nat)} {st:SortSt} (h:Sb j kd pd st):(arrOf st).size=j.size:=h.perm.size_eq
theorem Sb.set {j:Array Keyed} {kd:SortKind} {pd:Array (Nat×Nat×Nat)} {st:SortSt} (h:Sb j kd pd st) {xs:Array Keyed} (D:xs.Perm (arrOf st)):Sb j kd pd (setArr st xs):=(D.trans h.perm,h.kind,h.failed,h.pend)
def mQ (Ok:Keyed->Prop) (a₀:Array Keyed):Prop:=∀p∈a₀.toList,Ok p
theorem Sb.at {Ok:Keyed->Prop} {j:Array Keyed} {kd:SortKind} {pd:Array (Nat×Nat×Nat)} {st:SortSt} (h:Sb j kd pd st) (h0:mQ Ok j) {i:Nat} (hi:i < j.size):∃p,(arrOf st)[i]?>p/\Ok p:=by
 let D:i < (arrOf st).size:=by rw[h.size];show hi
 let F:(arrOf st)[i]∈j.toList:=(Array.perm_iff_toList_perm.mp h.perm).mem_iff.mp (by simp);show(_,getElem?_pos _ i D,h0 _ F)
section
variable {M:Model} {A:Around} {E:Value->Shared->Prop} {s:Shared} {a₀:Array Keyed} {kd:SortKind} {pd:Array (Nat×Nat×Nat)} {Ok:Keyed->Prop} {rk:Keyed->Int}
end
section
variable {M:Model} {A:Around} {E:Value->Shared->Prop} {s:Shared} {a₀:Array Keyed} {kd:SortKind} {pd:Array (Nat×Nat×Nat)} {Ok:Keyed->Prop} {rk:Keyed->Int}
end
def ZH:Bool->Keyed->Array Keyed->Nat->Nat->Nat->StateT SortSt Sem (Option Nat):=sortPriv% PySem.Builtin.gallop
section
variable {M:Model} {A:Around} {E:Value->Shared->Prop} {s:Shared} {a₀:Array Keyed} {kd:SortKind} {pd:Array (Nat×Nat×Nat)} {Ok:Keyed->Prop} {rk:Keyed->Int}
end
def pU (g:Nat):StateT SortSt Sem Unit:=modify λs=>SortSt.mk' (kindOf s) (arrOf s) (pendingOf s) g (failedOf s)
abbrev Up (rk:Keyed->Int) (l:!Keyed):Prop:=l.Pairwise λx y=>rk x<=rk y
section
variable {rk:Keyed->Int} {la lb ol:!Keyed} {ia ib:Nat} {x y:Keyed}
def gJ (rk:Keyed->Int) (la lb:!Keyed) (r:Array Keyed):Prop:=r.toList.Perm (la++lb)/\Up rk r.toList
end
def Sk (st st':SortSt):Prop:=arrOf st'=arrOf st/\kindOf st'=kindOf st/\failedOf st'=failedOf st/\pendingOf st'=pendingOf st
theorem Sk.trans {j D F:SortSt} (h:Sk j D) (g:Sk D F):Sk j F:=(g.1.trans h.1,g.2.1.trans h.2.1,g.2.2.1.trans h.2.2.1,g.2.2.2.trans h.2.2.2)
section
variable {M:Model} {A:Around} {E:Value->Shared->Prop} {s:Shared} {kd:SortKind} {Ok:Keyed->Prop} {rk:Keyed->Int} {a b:Array Keyed}
theorem at_ {a:Array Keyed} {i:Nat} (h:i < a.size):∃x,a[i]?>x/\a.toList[i]?>x/\x∈a.toList:=by
 show(a[i],iC h,?_,by simp);rw[jC];show iC h
end
abbrev U7:=Option (Array Keyed)×Nat×Nat×Array Keyed×Nat×Nat×Nat
def qG (a b:Array Keyed) (out:Array Keyed) (na nb:Nat):Array Keyed:=a.extract 0 na++b.extract 0 nb++out.reverse
def fK (a b:Array Keyed) (out:Array Keyed) (na nb:Nat):Array Keyed:=b.extract 0 nb++a.extract 0 na++out.reverse
def Qc (a b:Array Keyed) (out:Array Keyed) (na nb g k k1:Nat):StateT SortSt Sem (ForInStep U7):=do
 let x<-elem' a (na - 1)
 if (na - 1 == 0)=true then pure (ForInStep.done (some (qG a b (out.push x) (na - 1) nb),na - 1,nb,out.push x,g,k,k1))
 else if (decide (k < 7)&&decide (k1 < 7))=true then pure (ForInStep.done (none,(na - 1,(nb,(out.push x,(g,(k,k1)))))))
 else pure (ForInStep.yield (none,(na - 1,(nb,(out.push x,(g,(k,k1)))))))
def Rc (a b:Array Keyed) (out:Array Keyed) (na nb g k bc:Nat):StateT SortSt Sem (ForInStep U7):=do
 let y<-elem' b (nb - 1)
 if (nb - 1 == 1)=true then pure (ForInStep.done (some (fK a b (out.push y) na (nb - 1)),na,nb - 1,out.push y,g,k,bc))
 else do
  let x<-elem' a (na - 1)
  let r<-ZH true x b 0 (nb - 1) (nb - 1 - 1)
  match r with
  |some at_=>
   if GT.gt (nb - 1 - at_) 0 then
    if (at_ == 1)=true then pure (ForInStep.done (some (fK a b (out.push y++(b.extract at_ (nb - 1)).reverse) na at_),na,at_,out.push y++(b.extract at_ (nb - 1)).reverse,g,k,nb - 1 - at_))
    else if (at_ == 0)=true then pure (ForInStep.done (some (qG a b (out.push y++(b.extract at_ (nb - 1)).reverse) na at_),na,at_,out.push y++(b.extract at_ (nb - 1)).reverse,g,k,nb - 1 - at_))
    else Qc a b (out.push y++(b.extract at_ (nb - 1)).reverse) na at_ g k (nb - 1 - at_)
   else Qc a b (out.push y) na (nb - 1) g k (nb - 1 - at_)
  |_=>pure (ForInStep.done (some (qG a b (out.push y) na (nb - 1)),na,nb - 1,out.push y,g,k,bc))
def Sc (a b:Array Keyed) (out:Array Keyed) (na nb g ac bc:Nat):StateT SortSt Sem (ForInStep U7):=do
 pU g
 let y<-elem' b (nb - 1)
 let r<-ZH false y a 0 na (na - 1)
 match r with
 |some at_=>
  if GT.gt (na - at_) 0 then
   if (at_ == 0)=true then pure (ForInStep.done (some (qG a b (out++(a.extract at_ na).reverse) at_ nb),at_,nb,out++(a.extract at_ na).reverse,g,na - at_,bc))
   else Rc a b (out++(a.extract at_ na).reverse) at_ nb g (na - at_) bc
  else Rc a b out na nb g (na - at_) bc
 |_=>pure (ForInStep.done (some (qG a b out na nb),na,nb,out,g,ac,bc))
def TM (a b:Array Keyed) (s:U7):StateT SortSt Sem (ForInStep U7):=
 if GT.gt s.snd.snd.snd.snd.fst 1 then Sc a b s.snd.snd.snd.fst s.snd.fst s.snd.snd.fst (s.snd.snd.snd.snd.fst - 1) s.snd.snd.snd.snd.snd.fst s.snd.snd.snd.snd.snd.snd
 else Sc a b s.snd.snd.snd.fst s.snd.fst s.snd.snd.fst s.snd.snd.snd.snd.fst s.snd.snd.snd.snd.snd.fst s.snd.snd.snd.snd.snd.snd
structure MH (rk:Keyed->Int) (la lb rl:!Keyed) (na nb:Nat):Prop where
 pm:(la.take na++lb.take nb++rl).Perm (la++lb)
 so:Up rk rl
 oa:∀x∈la.take na,∀y∈rl,rk x<=rk y
 ob:∀x∈lb.take nb,∀y∈rl,rk x<=rk y
section
variable {rk:Keyed->Int} {la lb rl:!Keyed} {na nb:Nat} {x y:Keyed}
theorem tS {a:Array Keyed} {i:Nat}:(a.extract 0 i).toList=a.toList.take i:=by
 rw[Array.toList_extract];change ((a.toList.drop 0).take (i - 0))=_;rw[List.drop_zero,Nat.sub_zero]
theorem MH.done {a b out:Array Keyed} (h:MH rk a.toList b.toList out.toList.reverse na nb) (F:Up rk a.toList) (J:Up rk b.toList) (hd:na=0\/nb=0):gJ rk a.toList b.toList (qG a b out na nb):=by
 unfold gJ qG;rw[Array.toList_append,Array.toList_append,tS,tS,Array.toList_reverse];show⟨h.pm,?_⟩;let L:Up rk (a.toList.take na):=F.sublist (pC _ _);let sb:Up rk (b.toList.take nb):=J.sublist (pC _ _);show DB.mpr (DB.mpr (L,sb,?_),h.so,λx j y D=>?_)
 .intro x j y D;let rfl||rfl:=hd
  .rw[List.take_zero] at j;cases j
  .rw[List.take_zero] at D;cases D
 .let j||j:=jA.mp j
  .show h.oa x j y D
  .show h.ob x j y D
theorem MH.first {a b out:Array Keyed} (h:MH rk a.toList b.toList out.toList.reverse na nb) (F:Up rk a.toList) (J:Up rk b.toList) (L:∀x∈b.toList.take nb,∀y∈a.toList,rk x<=rk y):gJ rk a.toList b.toList (fK a b out na nb):=by
 unfold gJ fK;rw[Array.toList_append,Array.toList_append,tS,tS,Array.toList_reverse];let N:Up rk (a.toList.take na):=F.sublist (pC _ _);let sb:Up rk (b.toList.take nb):=J.sublist (pC _ _);constructor
 .show List.Perm.trans (List.Perm.append_right _ List.perm_append_comm) h.pm
 .show DB.mpr (DB.mpr (sb,N,λx j y D=>L x j y (List.mem_of_mem_take D)),h.so,λx j y D=>?_);let j||j:=jA.mp j
  .show h.ob x j y D
  .show h.oa x j y D
end
section
variable {M:Model} {A:Around} {E:Value->Shared->Prop} {s:Shared} {kd:SortKind} {Ok:Keyed->Prop} {rk:Keyed->Int} {a b:Array Keyed}
def Hd (rk:Keyed->Int) (a b:Array Keyed) (p:Nat) (ret:Option (Array Keyed)) (na nb:Nat) (out:Array Keyed):Prop:=match ret with
 |some r=>gJ rk a.toList b.toList r
 |none=>MH rk a.toList b.toList out.toList.reverse na nb/\1<=na/\2<=nb/\na<=a.size/\nb<=b.size/\p+na+nb<=a.size+b.size
end
abbrev sl (xs:Array Keyed) (i n:Nat):!Keyed:=(xs.toList.drop i).take n
def Ct:!(Nat×Nat×Nat)->Nat->Nat->Prop
 |[],s,e=>s=e
 |t::l,s,e=>t.1=s/\1<=t.2.1/\Ct l (s+t.2.1) e
theorem Ct.len:∀{l:!(Nat×Nat×Nat)} {s e:Nat},Ct l s e->s+l.length<=e
 |[],s,e,h=>by cases h;show vA _
 |t::l,s,e,⟨_,h2,h3⟩=>by have:=Ct.len h3;rw[gB];omega
theorem Ct.mem:∀{l:!(Nat×Nat×Nat)} {s e:Nat},Ct l s e->∀t∈l,s<=t.1/\t.1+t.2.1<=e
 |[],s,e,h,t,ht=>by cases ht
 |u::l,s,e,⟨h1,h2,h3⟩,t,ht=>by
  let h4:=Ct.len h3;let rfl||ht:=pA.mp ht
  .omega
  .have:=Ct.mem h3 t ht;omega
section
variable {M:Model} {A:Around} {E:Value->Shared->Prop} {s:Shared} {a₀:Array Keyed} {kd:SortKind} {pd:Array (Nat×Nat×Nat)} {Ok:Keyed->Prop} {rk:Keyed->Int}
end
def UM (pw:Nat) (t:Nat×Nat×Nat):Nat×Nat×Nat:=match t with
 |(st,(len,_))=>(st,(len,pw))
section
variable {M:Model} {A:Around} {E:Value->Shared->Prop} {s:Shared} {a₀:Array Keyed} {kd:SortKind} {pd:Array (Nat×Nat×Nat)} {Ok:Keyed->Prop} {rk:Keyed->Int}
structure Pn (rk:Keyed->Int) (a₀:Array Keyed) (kd:SortKind) (pd:Array (Nat×Nat×Nat)) (lo:Nat) (st:SortSt):Prop where
 b:Sb a₀ kd pd st
 c:Ct pd.toList 0 lo
 g:∀t∈pd.toList,sS rk (arrOf st) t.1 t.2.1
 le:lo<=a₀.size
theorem Pn.out {lo F L:Nat} {st j:SortSt} (h:Pn rk a₀ kd pd lo st) (J:Sb a₀ kd pd j) (o:zO (arrOf st) (arrOf j) F L) (N:lo<=F):Pn rk a₀ kd pd lo j:=
 (J,h.c,λt D=>(h.g t D).out o (.inl (by have:=h.c.mem t D;omega)),h.le)
theorem Ct.mod (pw:Nat):∀{l:!(Nat×Nat×Nat)} (i:Nat) {s e:Nat},Ct l s e->Ct (l.modify i (UM pw)) s e/\∀t∈l.modify i (UM pw),∃u∈l,t.1=u.1/\t.2.1=u.2.1
 |[],i,s,e,h=>by
  rw[show ([]:!(Nat×Nat×Nat)).modify i (UM pw)=[] by cases i<;>rfl];show⟨h,λt ht=>by cases ht⟩
 |(a,(b,c))::l,0,s,e,⟨h1,h2,h3⟩=>by
  rw[List.modify_zero_cons];show⟨(h1,h2,h3),λt ht=>?_⟩;let rfl||ht:=pA.mp ht
  .show((a,(b,c)),cA .., rfl,rfl)
  .show(t,kA _ ht,rfl,rfl)
 |u::l,i+1,s,e,⟨h1,h2,h3⟩=>by
  let(g1,g2):=Ct.mod pw i h3;rw[List.modify_succ_cons];show⟨(h1,h2,g1),λt ht=>?_⟩;let rfl||ht:=pA.mp ht
  .show(t,cA .., rfl,rfl)
  .let(v,v1,v2):=g2 t ht;show(v,kA _ v1,v2)
end
section
variable {prog:Program} {w:World} {A:Around} {E:Value->Shared->Prop} {s:Shared}
end
end TS
namespace TS
section
variable {prog:Program} {w:World} {A:Around} {E:Value->Shared->Prop} {s:Shared}
end
end TS
section
variable {prog:Program} {w:World} {A:Around} {R:Result->Shared->Prop} {I S:Addr} {fp wr:!Addr} {n:Nat} {P:Nat->Value->Prop} {St:Nat->Heap->Prop}
def Xm (P:Nat->Value->Prop) (bt:Nat->Nat->Bool) (j:Nat) (old:Array Value):Prop:=j=0/\old= #[]\/∃i v,j=i+1/\old= #[v,v]/\P (argBest bt i) v
theorem Ym (W:Walks prog w A.in1 I fp wr n P St) {N:Nat->Nat->Bool} (ac:CmpOf prog w A.in1 .Gt P N) (a6:S∉fp) (d:Value):
  ∀(k j:Nat) (s:Shared) (a1:Array Value) (c:Nat),j+k=n->St j s.heap->Xm P N j a1->s.heap.get? S>{cls:=.type "list",dict:=none,data:=.seq a1 c,slots:= #[]}->
   (∀v h' L,(n=0/\v=d\/∃i,n=i+1/\P (argBest N i) v)->(∀b o,b∉wr->b≠S->s.heap.get? b>o->h'.get? b>o)->R (.ok (.ret v)) {s with heap:=h',toks:=L})->
   codeAny (model prog w) A (.builtin "max.loop" ⟨[.ref I,.none,.ref S],[(Str.ofString "default",d)]⟩) R s:=by
 let V:S∉wr:=λh=>a6 (W.sub _ h);let a4:(toString "max"++toString ".loop":String)="max.loop":=by decide
 intro k
 induction k with
 |zero=>
  intro j s a1 c e st bs J O;obtain rfl:j=n:=e;show codeAny_builtin F.entry_max_loop ?_;rw[Around.under_plainId F.plain_max_loop _];show fA (m:=seqItems? (.ref S)) (wpAny_seqItems J rfl ?_);let(a9,rfl)||(i,a3,a9,rfl,D):=bs
  .show fA (m:=tryCatch (pyNext (.ref I)) _) (wpAny_tryCatch (W.done s _ _ st λh' L hk=>?_));show fA (m:=rule _) (wpAny_rule (BA ?_));show O d h' L (.inl ⟨a9,rfl⟩) λb o h1 ο e=>hk b o h1 e
  .show fA (m:=tryCatch (pyNext (.ref I)) _) (wpAny_tryCatch (W.done s _ _ st λh' L hk=>?_));show fA (m:=updateSeq S (λο=> #[])) (wpAny_updateSeq (hk S _ V J) rfl (fA (wpAny_letGo (BA ?_))));show O a3 _ L (.inr (i,a9,D)) λb o h1 h2 e=>(fB _ _ (Ne.symm h2)).trans (hk b o h1 e)
 |succ k a5=>
  intro j s a1 c e st bs J O;let ab:j < n:=⋯;show codeAny_builtin F.entry_max_loop ?_;rw[Around.under_plainId F.plain_max_loop _];show fA (m:=seqItems? (.ref S)) (wpAny_seqItems J rfl ?_);let(rfl,rfl)||(i,a3,rfl,rfl,D):=bs
  .show fA (m:=tryCatch (pyNext (.ref I)) _) (wpAny_tryCatch (W.item 0 s _ _ ab st λv h' L a0 a2 hk=>?_));show fA (m:=updateSeq S (λο=> #[v,v])) (wpAny_updateSeq (hk S _ V J) rfl ?_);rw[a4];show BA ⟨plainId_quiet F.plain_max_loop _,a5 1 _ _ _ ⋯ (W.frame _ _ _ a2 λb U o e=>?_) (.inr (0,v,rfl,rfl,a0)) (UB _ (hk S _ V J) rfl) λZ h2 t2 D Y=>?_⟩
   .show (fB _ _ (λh:S=b=>a6 (by rw[h];show U))).trans e
   .show O Z h2 t2 D λb o h1 h2 e=>Y b o h1 h2 ((fB _ _ (Ne.symm h2)).trans (hk b o h1 e))
  .show fA (m:=tryCatch (pyNext (.ref I)) _) (wpAny_tryCatch (W.item (i+1) s _ _ ab st λv h' L a0 a2 hk=>?_));show fA (BA ?_);show fA (wpAny_tryCatch (ZB (fA (ac (i+1) (argBest N i) v a3 _ _ _ a0 D ?_))));show fA (ZB (bC (fA (wpAny_letGo (BA ?_)))));cases U:N (i+1) (argBest N i) with
   |true=>
    simp only[if_true];show fA (wpAny_updateSeq (hk S _ V J) rfl (fA (wpAny_letGo ?_)));rw[a4];show BA ⟨plainId_quiet F.plain_max_loop _,a5 (i+2) _ _ _ ⋯ (W.frame _ _ _ a2 λb U o e=>?_) (.inr (i+1,v,rfl,rfl,by simp only[argBest,U,if_true];show a0)) (UB _ (hk S _ V J) rfl) λZ h2 t2 D Y=>?_⟩
    .show (fB _ _ (λh:S=b=>a6 (by rw[h];show U))).trans e
    .show O Z h2 t2 D λb o h1 h2 e=>Y b o h1 h2 ((fB _ _ (Ne.symm h2)).trans (hk b o h1 e))
   |false=>
    simp only[SA,HB];show fA (wpAny_letGo ?_);rw[a4];show BA ⟨plainId_quiet F.plain_max_loop _,a5 (i+2) _ _ _ ⋯ a2 (.inr (i+1,a3,rfl,rfl,by simp only[argBest,U,SA,HB];show D)) (hk S _ V J) λZ h2 t2 D Y=>O Z h2 t2 D λb o h1 h2 e=>Y b o h1 h2 (hk b o h1 e)⟩
end
section
variable {prog:Program} {w:World} {A:Around} {E:Value->Shared->Prop} {s:Shared}
theorem Zm {id:String} {b:Builtin} {us:!Value} {j:!(Str×Value)} {Q:Value->Shared->Prop} (k0:builtinKind id=none) (J:plainId id=true) (F:entryFor table id>b) (a0:argsOk id ⟨us,j⟩)
  (D:wpAny (model prog w) A.in1 (b ⟨us,j⟩) (λN t=>match N with|.done f=>(match (Except.ok f:Result) with|.ok (.ret v)=>Q v t|.ok _=>False|.error x=>E x t)|.again g=>g.quiet=true/\codeAny (model prog w) A g (λr t=>match r with|.ok (.ret v)=>Q v t|.ok _=>False|.error x=>E x t) t) E s):wpAny (model prog w) A (call (.builtin id) us j) Q E s:=by
 show wpAny_call (codeAny_call_builtin J F ?_);simp only[checkBuiltinCall,k0];unfold argsOk at a0;generalize Manifest.signature? id=o at a0 ⊢;cases o with
 |none=>show BA D
 |some L=>
  simp only[show Bind.checkArgs id L ⟨us,j⟩=pure ⟨⟩ from a0];show BA D
theorem cn (a d:Value):argsOk "max" ⟨[a],[(Str.ofString "default",d)]⟩:=by unfold argsOk;kernel_rfl
theorem gn {l:Addr} {xs:Array (Int×Tok)} {d:Value} {Q:Value->Shared->Prop} (J:A.handled=none) (V:s.heap.IsList l (intItems xs))
  (h:∀v h' D,(xs.size=0/\v=d\/∃i,xs.size=i+1/\(intItems xs)[argBest (λi j=>decide (GT.gt (numAt xs i) (numAt xs j))) i]?>v)->(∀b o,s.heap.get? b>o->h'.get? b>o)->Q v {s with heap:=h',toks:=D}):
  wpAny (model prog w) A (call (.builtin "max") [.ref l] [(Str.ofString "default",d)]) Q E s:=by
 let O:(toString "max"++toString ".loop":String)="max.loop":=by decide
 show Zm F.kind_max F.plain_max F.entry_max (cn _ _) ?_;show fA (m:=Builtin.Builtins.bindParams "max" ["key","default"] 0 ⟨[],[(Str.ofString "default",d)]⟩) (wpAny_of_eq (show _=pure [none,some d] from rfl) ?_);show fA (BA (fA (iter_intList V λW e st U N=>?_)));subst e;show fA (wpAny_newObj_type ?_);rw[O];let sz:(intItems xs).size=xs.size:=by simp[intItems]
 show BA ⟨plainId_quiet F.plain_max_loop _,Ym (Walks.list (A:=A.in1) J _ l N (intItems xs)) (CmpOf.ints_gt (numAt xs) (λο ο=>intItems_at)) (λm=>vC _ (U _ m)) d _ 0 _ #[] _ (Nat.zero_add _) ?_ (.inl ⟨rfl,rfl⟩) (MA _ rfl) λv h' D L hk=>?_⟩
 .show (Walks.list (prog:=prog) (w:=w) (A:=A.in1) J _ l N (intItems xs)).frame _ _ _ st λb ο o e=>AA _ e
 .show h v h' D (by rw[sz] at L;show L) (old_kept λb o nb e=>hk b o nb (XA (FA e)) (AA _ e))
end
theorem ln {X:Cx} {p pos am:Pos} {e v:Expr} {t:TA} {d:Int} (a6:X.calm=true) (ab:Gl X "max") (ad:X.mg "max"=none) (J:PA X [e] t) (D:PE X v (tC (.int d)))
  (a9:backTo pos (starEach [e] X.env)=(false,eval e X.env)::backTo pos (starEach [] X.env):=by rfl) (ah:(backTo pos (starEach [e] X.env)).any (·.1)=false:=by rfl):
  PE X (.Call (.Name "max" p) [e] [(some (Str.ofString "default"),v,am)] pos) (QR (λxs H Q=>∃(p:Addr) (ns:!Int),xs=[.ref p]/\BD X.K H p (ns.map V.int)/\∀M,(ns=[]/\M=d\/M∈ns/\∀a∈ns,a<=M)->Q (.int M) H) t):=by
 intro Z s a1 H Q U h;show CC (mO U ab ad boot_max ?_);show callWith_kw (wD (J pos Z s a1 H _ U h) λus b5 ⟨vs,N,a2,b2,b0⟩=>kws_cons (wD (D Z b5 a1 N (λbb H'=>bb=.int d/\H'=N) a2 ⟨rfl,rfl⟩) λkv be ⟨bh,O,F,b4,a5,a4⟩=>kws_nil ?_)) a9 ah;subst a5 a4;let(b9,rfl):=b4;let(p,ns,rfl,al,q):=b0;let(u,rfl,b3):=GE b2;cases b3;let(bd,b1,pl,hz):=F.list al;let hi:=kS b1;let(ps,Y):=hi.allInts.items;let W:=pl.isList;let L:numsOf (intItems ps).toList=ns:=by rw[<-Y];show hi.numsOf
 rw[nums_intItems] at L;rw[Y] at W;let bc:ns.length=ps.size:=by rw[<-L,dA,vB]
 show gn (F.ok.hd a6) W λv h' a0 D hk=>?_;let(a3,rfl)||(i,a3,D):=D
 .show(.int d,O,F.kept (t':=a0) hk,⟨b9,rfl⟩,q _ (.inl ⟨List.eq_nil_of_length_eq_zero ⋯,rfl⟩))
 .let(t,rfl):=intItems_at D;let(h1,h2):=argBest_gt (numAt ps) i;show(.int _,O,F.kept (t':=a0) hk,⟨t,rfl⟩,q _ (.inr ⟨?_,λa J=>?_⟩))
  .rw[<-L,numAt_eq];show getD_mem (by rw[dA,vB];omega)
  .rw[<-L] at J;let(j,ac,rfl):=mem_getD J;rw[dA,vB] at ac;rw[<-numAt_eq];show h2 j ⋯
end L2
set_option hygiene false in
local macro_rules| `(tactic|walk_at "wp")=> `(tactic|((try dsimp only[L2.JM,L2.dQ,L2.KM,L2.eQ,L2.LM,L2.iP,L2.tNext,L2.PJ,L2.JG,L2.jP,L2.tRetN,L2.uK,L2.kP,L2.Y8,L2.AK,L2.tB,L2.pP,L2.m9,L2.OJ,L2.VF,L2.tC,L2.rI,L2.II,L2.rU,L2.dP,L2.V8,L2.eP,L2.rK,L2.fP,L2.sK,L2.UI,L2.IH,L2.JH,L2.QR,L2.CK,L2.tNil,L2.LI,L2.yP,L2.xP,L2.CP,L2.jM,L2.vP,L2.wP,L2.VI,L2.rEq,L2.rNe,L2.oF,L2.sP,L2.bM,L2.SJ,L2.vM,L2.wM,L2.Rm,L2.il,L2.jl,L2.ll,L2.rIxH,L2.Xk,L2.Yk,L2.nD,L2.Si,L2.aJ,L2.rCat,L2.DP,L2.Z9,L2.DK,L2.tNoPart,L2.UT,L2.yl,L2.JK,L2.xK,L2.yK,L2.wK,L2.SL,L2.gNil,L2.vK,L2.OI,L2.XG,L2.tDNewK,L2.ma,L2.HP,L2.rAppend,L2.rPop,L2.nP,L2.rSetL,L2.bJ,L2.dJ,L2.cL,L2.dL,L2.tYes,Option.join_some,Option.join_none,PySem.sizeLine_eq,Nat.reduceLeDiff,UA,rA,EB,gB,List.length_nil,List.cons_append,List.nil_append,MB,List.replicate,Nat.reduceSub,Nat.reduceAdd,List.getElem?_cons_zero,List.getElem?_cons_succ,List.set_cons_zero,List.set_cons_succ,reduceIte,Int.reduceLE,Int.reduceLT,Nat.reducePow,Int.reducePow,Int.reduceNeg,L2.JT,Nat.reduceLT,Int.reduceToNat,Int.reduceAdd,Int.reduceMul,Int.reduceSub]);try simp only[↓L2.JM, ↓L2.dQ, ↓L2.KM, ↓L2.eQ, ↓L2.LM,L2.iP,L2.tNext,L2.PJ,L2.JG,L2.jP,L2.tRetN,L2.uK,L2.kP,L2.Y8,L2.AK,L2.tB,L2.pP,L2.m9,L2.OJ,L2.VF,L2.tC,L2.rI,L2.II,L2.rU,L2.dP,L2.V8,L2.eP,L2.rK,L2.fP,L2.sK,L2.UI,L2.IH,L2.JH,L2.QR,L2.CK,L2.tNil,L2.LI,L2.yP,L2.xP,L2.CP,L2.jM,L2.vP,L2.wP,L2.VI,L2.rEq,L2.rNe,L2.oF,L2.sP,L2.bM,L2.SJ,L2.vM,L2.wM,L2.Rm,L2.il,L2.jl,L2.ll,L2.rIxH,L2.Xk,L2.Yk,L2.nD,L2.Si,L2.HO.ins.injEq,L2.aJ,L2.rCat,L2.DP,L2.Z9,L2.DK,L2.tNoPart,L2.UT,L2.yl,L2.JK,L2.xK,L2.yK,L2.wK,L2.SL,L2.gNil,L2.vK,L2.OI,L2.XG,L2.tDNewK,L2.ma,L2.HP,L2.rAppend,L2.rPop,L2.nP,L2.rSetL,L2.bJ,L2.dJ,L2.cL,L2.dL,L2.tYes,Option.join_some,Option.join_none,PySem.sizeLine_eq,Nat.reduceLeDiff,eq_self,UA,
 rA,EB,gB,List.length_nil,List.cons_append,List.nil_append,MB,List.replicate,Nat.reduceSub,Nat.reduceAdd,List.getElem?_cons_zero,List.getElem?_cons_succ,List.set_cons_zero,List.set_cons_succ,
 Option.some.injEq,List.cons.injEq,L2.V.int.injEq,L2.V.bl.injEq,L2.V.ref.injEq,L2.V.ty.injEq,L2.V.str.injEq,exists_eq_left,exists_eq_left',exists_and_left,exists_eq',exists_const,and_assoc,and_true,true_and, ↓reduceIte,Int.reduceLE,Int.reduceLT,Nat.reducePow,Int.reducePow,Int.reduceNeg,L2.JT,Nat.reduceLT,Int.reduceToNat,Int.reduceAdd,Int.reduceMul,Int.reduceSub,true_or,or_true,decide_true,decide_false]))
namespace Pf
open PySem L2
abbrev qU:Stmt:=RC 16
theorem rn:HC ["thing"] ["thing"] (EC qU):=()
abbrev sU:Stmt:=RC 17
theorem xn:HC ["thing","low","high"] ["thing","low","high"] (EC sU):=()
abbrev tU:Stmt:=RC 35
theorem uS:HC ["exponent","power","doubling"] ["exponent"] (EC tU):=()
abbrev uU:Stmt:=RC 36
theorem yn:HC ["levels","fan","grain"] ["levels","fan","grain"] (EC uU):=()
abbrev vU:Stmt:=FC (RC 37) 0
theorem zn:HC ["self","levels","fan","grain"] ["self","levels","fan","grain"] (EC vU):=()
abbrev wU:Stmt:=FC (RC 37) 1
theorem Qn:HC ["self"] ["self"] (EC wU):=()
abbrev xU:Stmt:=FC (RC 37) 3
theorem Sn:HC ["self","page"] ["self","page"] (EC xU):=()
abbrev yU:Stmt:=FC (RC 37) 5
theorem Vn:HC ["self","address"] ["self","address"] (EC yU):=()
abbrev zU:Stmt:=FC (RC 37) 6
theorem Wn:HC ["self","address"] ["self","address"] (EC zU):=()
abbrev AU:Stmt:=FC (RC 37) 10
theorem Xn:HC ["self","first","many"] ["self","first","many"] (EC AU):=()
abbrev BU:Stmt:=RC 20
theorem Yn:HC ["rights"] ["rights"] (EC BU):=()
abbrev CU:Stmt:=RC 21
theorem Zn:HC ["run"] ["run"] (EC CU):=()
abbrev DU:Stmt:=RC 22
theorem Tc:HC ["run","page","tie"] ["run","page"] (EC DU):=()
abbrev EU:Stmt:=RC 23
theorem Uc:HC ["run","low","high","first"] ["run","low","high"] (EC EU):=()
abbrev FU:Stmt:=RC 24
theorem ao:HC ["run","later"] ["run","later"] (EC FU):=()
abbrev GU:Stmt:=RC 25
theorem vS:HC ["runs","fewer","run","last"] ["runs"] (EC GU):=()
abbrev HU:Stmt:=FC (RC 26) 0
theorem fo:HC ["self"] ["self"] (EC HU):=()
abbrev gK:Stmt:=FC (RC 26) 1
theorem io:HC ["self","first","many","rights","tie"] ["self","first","many","rights","tie"] (EC gK):=()
abbrev IU:Stmt:=FC (RC 26) 2
theorem jo:HC ["self","first","many"] ["self","first","many"] (EC IU):=()
abbrev JU:Stmt:=FC (RC 26) 4
theorem ko:HC ["self","first","many"] ["self","first","many"] (EC JU):=()
abbrev KU:Stmt:=FC (RC 26) 5
theorem Vc:HC ["self","page","part"] ["self","page"] (EC KU):=()
abbrev LU:Stmt:=FC (RC 26) 6
theorem Wc:HC ["self","page","part"] ["self","page"] (EC LU):=()
abbrev MU:Stmt:=FC (RC 26) 7
theorem oo:HC ["self","first","many"] ["self","first","many"] (EC MU):=()
abbrev NU:Stmt:=FC (RC 26) 8
theorem qo:HC ["self","first","many"] ["self","first","many"] (EC NU):=()
abbrev OU:Stmt:=FC (RC 26) 12
theorem AO:HC ["self","page","low","high","middle"] ["self","page"] (EC OU):=()
abbrev PU:Stmt:=FC (RC 26) 13
theorem QU:HC ["self","first","many","end","near"] ["self","first","many"] (EC PU):=()
abbrev RU:Stmt:=FC (RC 26) 14
theorem Xc:HC ["self","page","parts"] ["self","page"] (EC RU):=()
abbrev SU:Stmt:=FC (RC 26) 15
theorem VM:HC ["self","first","many","parts","end","low","high","near","ahead","behind"] ["self","first","many","parts"] (EC SU):=()
abbrev TU:Stmt:=FC (RC 26) 10
theorem uo:HC ["self"] ["self"] (EC TU):=()
abbrev UU:Stmt:=RC 29
theorem VU:HC ["numbers","number"] ["numbers"] (EC UU):=()
abbrev WU:Stmt:=FC (RC 30) 0
theorem vo:HC ["self","shape"] ["self","shape"] (EC WU):=()
abbrev XU:Stmt:=FC (RC 30) 1
theorem Yc:HC ["self","task"] ["self"] (EC XU):=()
abbrev YU:Stmt:=FC (RC 30) 4
theorem Zc:HC ["self","many","bank"] ["self","many"] (EC YU):=()
abbrev hJ:Stmt:=FC (RC 30) 6
theorem ZU:HC ["self","task","first","many","rights","bank","start","tie"] ["self","task","first","many","rights","bank","start"] (EC hJ):=()
abbrev aV:Stmt:=FC (RC 30) 7
theorem wo:HC ["self","task","first","many"] ["self","task","first","many"] (EC aV):=()
abbrev cV:Stmt:=FC (RC 30) 3
theorem xo:HC ["self","task"] ["self","task"] (EC cV):=()
abbrev eV:Stmt:=FC (RC 30) 9
theorem fV:HC ["self","task","address","want","parts","rights"] ["self","task","address","want"] (EC eV):=()
abbrev hV:Stmt:=FC (RC 30) 15
theorem yo:HC ["self","task","page"] ["self","task","page"] (EC hV):=()
abbrev iV:Stmt:=FC (RC 30) 13
theorem zo:HC ["self","task"] ["self","task"] (EC iV):=()
abbrev jV:Stmt:=FC (RC 30) 16
theorem lV:HC ["self","task","mapped","run"] ["self","task"] (EC jV):=()
abbrev mV:Stmt:=FC (RC 30) 17
theorem Po:HC ["self","task"] ["self","task"] (EC mV):=()
abbrev nV:Stmt:=FC (RC 30) 18
theorem Qo:HC ["self","bank"] ["self","bank"] (EC nV):=()
abbrev oV:Stmt:=FC (RC 30) 19
theorem So:HC ["self","task","first","many"] ["self","task","first","many"] (EC oV):=()
abbrev pV:Stmt:=FC (RC 30) 20
theorem To:HC ["self","bank","start","many"] ["self","bank","start","many"] (EC pV):=()
abbrev qV:Stmt:=FC (RC 32) 0
theorem Uo:HC ["self","shape","most"] ["self","shape","most"] (EC qV):=()
abbrev rV:Stmt:=FC (RC 32) 1
theorem jd:HC ["self","task"] ["self"] (EC rV):=()
abbrev sV:Stmt:=FC (RC 32) 4
theorem qd:HC ["self","many","bank"] ["self","many"] (EC sV):=()
abbrev iJ:Stmt:=FC (RC 32) 6
theorem ud:HC ["self","task","first","many","rights","bank","start"] ["self","task","first","many","rights","bank","start"] (EC iJ):=()
abbrev tV:Stmt:=FC (RC 32) 7
theorem vd:HC ["self","task","first","many","page"] ["self","task","first","many"] (EC tV):=()
abbrev uV:Stmt:=FC (RC 32) 3
theorem Vo:HC ["self","task"] ["self","task"] (EC uV):=()
abbrev vV:Stmt:=FC (RC 32) 9
theorem wd:HC ["self","task","address","parts"] ["self","task","address"] (EC vV):=()
abbrev wV:Stmt:=FC (RC 32) 10
theorem yd:HC ["self","task","address","value","parts"] ["self","task","address","value"] (EC wV):=()
abbrev xV:Stmt:=FC (RC 32) 15
theorem Wo:HC ["self","task"] ["self","task"] (EC xV):=()
abbrev yV:Stmt:=FC (RC 32) 16
theorem Xo:HC ["self"] ["self"] (EC yV):=()
abbrev zV:Stmt:=FC (RC 32) 17
theorem AV:HC ["self","task","page","tie","pages","number"] ["self","task","page","tie"] (EC zV):=()
abbrev BV:Stmt:=FC (RC 32) 18
theorem Yo:HC ["self"] ["self"] (EC BV):=()
abbrev CV:Stmt:=FC (RC 32) 19
theorem zd:HC ["self","task","page","tie"] ["self","task","page"] (EC CV):=()
abbrev DV:Stmt:=FC (RC 32) 20
theorem EV:HC ["self","task","page","pages","number"] ["self","task","page"] (EC DV):=()
abbrev FV:Stmt:=FC (RC 32) 21
theorem Zo:HC ["self","pages","page"] ["self","pages","page"] (EC FV):=()
abbrev GV:Stmt:=FC (RC 32) 23
theorem Pd:HC ["self","boxes","number"] ["self","boxes"] (EC GV):=()
abbrev HV:Stmt:=FC (RC 32) 24
theorem Qd:HC ["self","pages","page","number"] ["self","pages","page"] (EC HV):=()
abbrev IV:Stmt:=FC (RC 32) 25
theorem Sd:HC ["self","pages","page"] ["self","pages"] (EC IV):=()
abbrev JV:Stmt:=FC (RC 32) 2
theorem LV:HC ["self","task","other","number"] ["self","task"] (EC JV):=()
abbrev MV:Stmt:=FC (RC 30) 2
theorem Td:HC ["self","task","other"] ["self","task"] (EC MV):=()
abbrev NV:Stmt:=FC (RC 26) 11
theorem Ud:HC ["self","other"] ["self"] (EC NV):=()
abbrev OV:Stmt:=RC 39
theorem ap:HC ["_law_script","_law_k"] ["_law_script","_law_k"] (EC OV):=()
abbrev PV:Stmt:=RC 40
theorem Vd:HC ["_law_cell","_law_place","_law_many","_law_prime"] ["_law_cell","_law_place","_law_many"] (EC PV):=()
abbrev QV:Stmt:=RC 41
theorem bp:HC ["_law_found","_law_due"] ["_law_found","_law_due"] (EC QV):=()
abbrev RV:Stmt:=RC 43
theorem cp:HC ["_law_task","_law_page"] ["_law_task","_law_page"] (EC RV):=()
abbrev SV:Stmt:=RC 42
theorem Wd:HC ["_law_rooms","_law_task","_law_address","_law_value","e"] ["_law_rooms","_law_task","_law_address","_law_value"] (EC SV):=()
abbrev TV:Stmt:=RC 44
theorem BO:HC ["_law_rooms","_law_plain","_law_sheets","_law_most","_law_task","_law_spot","_law_value","_law_key_here","_law_live","_law_alike","_law_needs","_law_found"] ["_law_rooms","_law_plain","_law_sheets","_law_most","_law_task","_law_spot","_law_value"] (EC TV):=()
abbrev UV:Stmt:=RC 45
theorem Xd:HC ["_law_rooms","_law_plain","_law_sheets","_law_key_here"] ["_law_rooms","_law_plain","_law_sheets"] (EC UV):=()
abbrev WV:Stmt:=RC 46
theorem Yd:HC ["_law_plain","_law_sheets","_law_gone","_law_key_here"] ["_law_plain","_law_sheets","_law_gone"] (EC WV):=()
abbrev XV:Stmt:=RC 47
theorem gp:HC ["_law_rooms","_law_plain","_law_sheets","_law_mapped","_law_task","_law_page"] ["_law_rooms","_law_plain","_law_sheets","_law_mapped","_law_task","_law_page"] (EC XV):=()
abbrev YV:Stmt:=RC 48
theorem nQ:HC ["_law_rooms","_law_plain","_law_mapped","_law_size","_law_task","_law_due","_law_page","_law_mine"] ["_law_rooms","_law_plain","_law_mapped","_law_size"] (EC YV):=()
abbrev ZV:Stmt:=RC 49
theorem WM:HC ["_law_rooms","_law_plain","_law_sheets","_law_mapped","_law_most","_law_size","_law_cell","_law_way","_law_task","_law_page","_law_box","_law_value"] ["_law_rooms","_law_plain","_law_sheets","_law_mapped","_law_most","_law_size","_law_cell"] (EC ZV):=()
abbrev wS:Stmt:=RC 50
theorem jJ:HC ["_law_script","_law_grain","_law_size","_law_shape","_law_most","_law_rooms","_law_mapped","_law_page","_law_plain","_law_sheets","_law_cell"] ["_law_script"] (EC wS):=()
set_option genInjectivity false in
structure sD where
 Aa:Addr
 Ad:Addr
 Ab:Addr
 Ah:Addr
 Au:Addr
 Bc:Addr
 Al:Addr
 Ay:Addr
 Aw:Addr
 Bd:Addr
 A4:Addr
 Bi:Addr
 An:Addr
 Ax:Addr
 Ae:Addr
structure JD (K:W.Frag) (mg:Str->Option Value) (A:sD):Prop where
 Iu:mg "ValueError"=none
 Lg:mg "bool"=none
 Gd:mg "dict"=none
 Kz:mg "int"=none
 A6:mg "isinstance"=none
 Bj:mg "len"=none
 Cv:mg "list"=none
 Nj:mg "max"=none
 On:mg "min"=none
 Ce:mg "range"=none
 Nk:mg "set"=none
 Mb:mg "sorted"=none
 Oo:mg "sum"=none
 N3:∃u,mg "READ">u/\SC (.int 1) u
 Nm:∃u,mg "WRITE">u/\SC (.int 2) u
 Hy:∃u,mg "MOST_RIGHTS">u/\SC (.int 3) u
 Gv:∃u,mg "MOST_IN_BANK">u/\SC (.int 64) u
 Ex:∃u,mg "MOST_IN_STRETCH">u/\SC (.int 64) u
 K0:aG K mg "is_whole" "is_whole" qU ["thing"] []
 Ki:aG K mg "is_within" "is_within" sU ["thing","low","high"] []
 Gw:aG K mg "power_of_two" "power_of_two" tU ["exponent"] []
 E9:aG K mg "check_measures" "check_measures" uU ["levels","fan","grain"] []
 Gx:aG K mg "check_rights" "check_rights" BU ["rights"] []
 Mc:aG K mg "end_of" "end_of" CU ["run"] []
 K1:aG K mg "tie_from" "tie_from" DU ["run","page"] []
 Lh:aG K mg "part_of" "part_of" EU ["run","low","high"] []
 Li:aG K mg "goes_on" "goes_on" FU ["run","later"] []
 Md:aG K mg "joined" "joined" GU ["runs"] []
 Iw:aG K mg "least_free" "least_free" UU ["numbers"] []
 Kj:aG K mg "_law_cell_at" "_law_cell_at" OV ["_law_script","_law_k"] []
 Me:aG K mg "_law_part" "_law_part" PV ["_law_cell","_law_place","_law_many"] []
 Lj:aG K mg "_law_whole" "_law_whole" QV ["_law_found","_law_due"] []
 Nn:aG K mg "_law_key" "_law_key" RV ["_law_task","_law_page"] []
 K2:aG K mg "_law_answer" "_law_answer" SV ["_law_rooms","_law_task","_law_address","_law_value"] []
 K3:aG K mg "_law_access" "_law_access" TV ["_law_rooms","_law_plain","_law_sheets","_law_most","_law_task","_law_spot","_law_value"] []
 Mf:aG K mg "_law_fork" "_law_fork" UV ["_law_rooms","_law_plain","_law_sheets"] []
 K4:aG K mg "_law_let_go" "_law_let_go" WV ["_law_plain","_law_sheets","_law_gone"] []
 Mg:aG K mg "_law_lift" "_law_lift" XV ["_law_rooms","_law_plain","_law_sheets","_law_mapped","_law_task","_law_page"] []
 Mh:aG K mg "_law_seen" "_law_seen" YV ["_law_rooms","_law_plain","_law_mapped","_law_size"] []
 Mi:aG K mg "_law_turn" "_law_turn" ZV ["_law_rooms","_law_plain","_law_sheets","_law_mapped","_law_most","_law_size","_law_cell"] []
 Ag:WG K A.Aa
 Ak:xD K A.Aa "runs"
 Fa:KH K mg "Stretches" A.Aa "Stretches.__init__" HU ["self"] []
 Ge:pF K A.Aa "put" "Stretches.put" gK ["self","first","many","rights","tie"] []
 Mj:pF K A.Aa "put" "Stretches.put" gK ["self","first","many","rights","tie"] [.non]
 Gf:yD K A.Aa "cut" "Stretches.cut" IU ["self","first","many"] []
 Cl:yD K A.Aa "check_full" "Stretches.check_full" JU ["self","first","many"] []
 Cw:yD K A.Aa "rights_at" "Stretches.rights_at" KU ["self","page"] []
 Eb:yD K A.Aa "tie_at" "Stretches.tie_at" LU ["self","page"] []
 Dl:yD K A.Aa "is_free" "Stretches.is_free" MU ["self","first","many"] []
 Do:yD K A.Aa "is_full" "Stretches.is_full" NU ["self","first","many"] []
 Cf:yD K A.Aa "place_behind" "Stretches.place_behind" OU ["self","page"] []
 Cm:yD K A.Aa "parts_amid" "Stretches.parts_amid" PU ["self","first","many"] []
 Dp:yD K A.Aa "part_at" "Stretches.part_at" RU ["self","page"] []
 C9:yD K A.Aa "lay_amid" "Stretches.lay_amid" SU ["self","first","many","parts"] []
 Fc:yD K A.Aa "told" "Stretches.told" TU ["self"] []
 Ec:yD K A.Aa "copied" "Stretches.copied" NV ["self"] []
 Ai:WG K A.Ad
 Bl:xD K A.Ad "shape"
 Am:xD K A.Ad "tasks"
 A8:xD K A.Ad "banks"
 Ix:KH K mg "House" A.Ad "House.__init__" WU ["self","shape"] []
 Fd:yD K A.Ad "new_task" "House.new_task" XU ["self"] []
 Fe:yD K A.Ad "new_bank" "House.new_bank" YU ["self","many"] []
 Kk:pF K A.Ad "lay" "House.lay" hJ ["self","task","first","many","rights","bank","start"] []
 N4:pF K A.Ad "lay" "House.lay" hJ ["self","task","first","many","rights","bank","start"] [.int 0]
 N5:pF K A.Ad "lay" "House.lay" hJ ["self","task","first","many","rights","bank","start"] [.non,.int 0]
 Iy:yD K A.Ad "lift" "House.lift" aV ["self","task","first","many"] []
 Ff:yD K A.Ad "end_task" "House.end_task" cV ["self","task"] []
 Ia:yD K A.Ad "asked" "House.asked" eV ["self","task","address","want"] []
 Gy:yD K A.Ad "tie_at" "House.tie_at" hV ["self","task","page"] []
 Da:yD K A.Ad "stretches_of" "House.stretches_of" iV ["self","task"] []
 Fg:yD K A.Ad "pages_of" "House.pages_of" jV ["self","task"] []
 Ed:yD K A.Ad "check_task" "House.check_task" mV ["self","task"] []
 Ee:yD K A.Ad "check_bank" "House.check_bank" nV ["self","bank"] []
 Cy:yD K A.Ad "check_stretch" "House.check_stretch" oV ["self","task","first","many"] []
 B7:yD K A.Ad "check_part_of_bank" "House.check_part_of_bank" pV ["self","bank","start","many"] []
 Iz:yD K A.Ad "fork" "House.fork" MV ["self","task"] []
 Ac:WG K A.Ab
 Cz:xD K A.Ab "shape"
 Dj:xD K A.Ab "most"
 Aq:xD K A.Ab "house"
 As:xD K A.Ab "sheets"
 Ar:xD K A.Ab "havers"
 B8:xD K A.Ab "made"
 Ao:xD K A.Ab "private"
 Bg:xD K A.Ab "banked"
 I0:KH K mg "Rooms" A.Ab "Rooms.__init__" qV ["self","shape","most"] []
 Fh:yD K A.Ab "new_task" "Rooms.new_task" rV ["self"] []
 Fi:yD K A.Ab "new_bank" "Rooms.new_bank" sV ["self","many"] []
 Kl:pF K A.Ab "lay" "Rooms.lay" iJ ["self","task","first","many","rights","bank","start"] []
 N6:pF K A.Ab "lay" "Rooms.lay" iJ ["self","task","first","many","rights","bank","start"] [.int 0]
 I8:pF K A.Ab "lay" "Rooms.lay" iJ ["self","task","first","many","rights","bank","start"] [.non,.int 0]
 Ja:yD K A.Ab "lift" "Rooms.lift" tV ["self","task","first","many"] []
 Fj:yD K A.Ab "end_task" "Rooms.end_task" uV ["self","task"] []
 Jb:yD K A.Ab "read" "Rooms.read" vV ["self","task","address"] []
 Ib:yD K A.Ab "write" "Rooms.write" wV ["self","task","address","value"] []
 Gg:yD K A.Ab "seen_by" "Rooms.seen_by" xV ["self","task"] []
 Dq:yD K A.Ab "live_sheets" "Rooms.live_sheets" yV ["self"] []
 Ic:yD K A.Ab "shown" "Rooms.shown" zV ["self","task","page","tie"] []
 Gh:yD K A.Ab "noughts" "Rooms.noughts" BV ["self"] []
 C1:yD K A.Ab "sheet_to_read" "Rooms.sheet_to_read" CV ["self","task","page"] []
 Cn:yD K A.Ab "sheet_to_write" "Rooms.sheet_to_write" DV ["self","task","page"] []
 Dr:yD K A.Ab "sheet_there" "Rooms.sheet_there" FV ["self","pages","page"] []
 Ey:yD K A.Ab "new_sheet" "Rooms.new_sheet" GV ["self","boxes"] []
 Ds:yD K A.Ab "let_page_go" "Rooms.let_page_go" HV ["self","pages","page"] []
 Ef:yD K A.Ab "let_all_go" "Rooms.let_all_go" IV ["self","pages"] []
 Jc:yD K A.Ab "fork" "Rooms.fork" JV ["self","task"] []
 A0:WG K A.Ah
 Cj:xD K A.Ah "levels"
 Eg:xD K A.Ah "fan"
 C2:xD K A.Ah "grain"
 Dk:xD K A.Ah "ways"
 A9:xD K A.Ah "boxes"
 A5:xD K A.Ah "pages"
 Jd:KH K mg "Shape" A.Ah "Shape.__init__" vU ["self","levels","fan","grain"] []
 Eh:yD K A.Ah "sheet_size" "Shape.sheet_size" wU ["self"] []
 Fl:yD K A.Ah "has_page" "Shape.has_page" xU ["self","page"] []
 Dt:yD K A.Ah "has_address" "Shape.has_address" yU ["self","address"] []
 Gz:yD K A.Ah "parted" "Shape.parted" zU ["self","address"] []
 Je:yD K A.Ah "fits" "Shape.fits" AU ["self","first","many"] []
 N7:∃u,mg "FrameError">u/\SC (.ref A.Au) u
 Jf:XH K mg "FrameError" A.Au
 Os:∃u,mg "NoShape">u/\SC (.ref A.Bc) u
 Ei:XC K mg "NoShape" A.Bc
 Km:∃u,mg "OutOfRoom">u/\SC (.ref A.Al) u
 E2:XC K mg "OutOfRoom" A.Al
 Ol:∃u,mg "BadRights">u/\SC (.ref A.Ay) u
 Ko:XC K mg "BadRights" A.Ay
 Ot:∃u,mg "NoTask">u/\SC (.ref A.Aw) u
 Ml:XC K mg "NoTask" A.Aw
 Ou:∃u,mg "NoBank">u/\SC (.ref A.Bd) u
 Mm:XC K mg "NoBank" A.Bd
 Om:∃u,mg "OutOfBank">u/\SC (.ref A.A4) u
 E3:XC K mg "OutOfBank" A.A4
 Ov:∃u,mg "Taken">u/\SC (.ref A.Bi) u
 No:XC K mg "Taken" A.Bi
 Kq:∃u,mg "NotMapped">u/\SC (.ref A.An) u
 E4:XC K mg "NotMapped" A.An
 Lk:∃u,mg "NoRight">u/\SC (.ref A.Ax) u
 Ll:XC K mg "NoRight" A.Ax
 Mn:∃u,mg "NoRoom">u/\SC (.ref A.Ae) u
 Mo:XC K mg "NoRoom" A.Ae
 Bp:XI K A.Ae
 Bq:aK K A.Ae A.Au
 Cd:W.kitOne K (.ref A.Ae) (.ref A.Ae)>true
 Br:W.kitOne K (.ref A.Ae) (.type "ValueError")>true
 B5:W.kitOne K (.ref A.Ae) (.ref A.Ax)>false
 Bs:W.kitOne K (.ref A.Ae) (.ref A.An)>false
 Bt:W.kitOne K (.ref A.Ae) (.ref A.Al)>false
 Op:∃f fd,mg "law"=↑f/\HH K "law" "law" wS f fd/\∀(s:Shared) (u:Value),BindsTo s fd ⟨[u],[]⟩ [("_law_script",u)]
theorem aI {P:!Value->Prop} (h:∀a0,P [a0]):∀us:!Value,us.length=1->P us:=by
 intro us e;cases us with
 |nil=>cases e
 |cons a us=>
  cases us with
  |nil=>show h a
  |cons b us=>show absurd e (by simp)
theorem WF {P:!Value->Prop} (h:∀a0 j,P [a0,j]):∀us:!Value,us.length=2->P us:=by
 intro us e;cases us with
 |nil=>cases e
 |cons a us=>show aI (P:=λus=>P (a::us)) (λD=>h a D) us (Nat.succ.inj e)
theorem dH {P:!Value->Prop} (h:∀a0 j D,P [a0,j,D]):∀us:!Value,us.length=3->P us:=by
 intro us e;cases us with
 |nil=>cases e
 |cons a us=>show WF (P:=λus=>P (a::us)) (λF J=>h a F J) us (Nat.succ.inj e)
theorem kJ {P:!Value->Prop} (h:∀a0 j D F,P [a0,j,D,F]):∀us:!Value,us.length=4->P us:=by
 intro us e;cases us with
 |nil=>cases e
 |cons a us=>show dH (P:=λus=>P (a::us)) (λJ L N=>h a J L N) us (Nat.succ.inj e)
theorem el5x {P:!Value->Prop} (h:∀a0 j D F J,P [a0,j,D,F,J]):∀us:!Value,us.length=5->P us:=by
 intro us e
 cases us with
 |nil=>cases e
 |cons a us=>show kJ (P:=λus=>P (a::us)) (λL N O U=>h a L N O U) us (Nat.succ.inj e)
theorem el6x {P:!Value->Prop} (h:∀a0 j D F J L,P [a0,j,D,F,J,L]):∀us:!Value,us.length=6->P us:=by
 intro us e
 cases us with
 |nil=>cases e
 |cons a us=>show el5x (P:=λus=>P (a::us)) (λN O U V W=>h a N O U V W) us (Nat.succ.inj e)
theorem el7x {P:!Value->Prop} (h:∀a0 j D F J L N,P [a0,j,D,F,J,L,N]):∀us:!Value,us.length=7->P us:=by
 intro us e
 cases us with
 |nil=>cases e
 |cons a us=>show el6x (P:=λus=>P (a::us)) (λO U V W Y Z=>h a O U V W Y Z) us (Nat.succ.inj e)
theorem bd4x {s fd ns ds} (h:∀a0 j D F,BindsTo s fd {pos:=[a0,j,D,F]} (List.zip ns ([a0,j,D,F]++ds))):∀us,us.length=4->BindsTo s fd {pos:=us} (List.zip ns (us++ds)):=kJ (P:=λus=>BindsTo s fd {pos:=us} (List.zip ns (us++ds))) h
theorem bd5x {s fd ns ds} (h:∀a0 j D F J,BindsTo s fd {pos:=[a0,j,D,F,J]} (List.zip ns ([a0,j,D,F,J]++ds))):∀us,us.length=5->BindsTo s fd {pos:=us} (List.zip ns (us++ds)):=el5x (P:=λus=>BindsTo s fd {pos:=us} (List.zip ns (us++ds))) h
theorem bd6x {s fd ns ds} (h:∀a0 j D F J L,BindsTo s fd {pos:=[a0,j,D,F,J,L]} (List.zip ns ([a0,j,D,F,J,L]++ds))):∀us,us.length=6->BindsTo s fd {pos:=us} (List.zip ns (us++ds)):=el6x (P:=λus=>BindsTo s fd {pos:=us} (List.zip ns (us++ds))) h
theorem bd7x {s fd ns ds} (h:∀a0 j D F J L N,BindsTo s fd {pos:=[a0,j,D,F,J,L,N]} (List.zip ns ([a0,j,D,F,J,L,N]++ds))):∀us,us.length=7->BindsTo s fd {pos:=us} (List.zip ns (us++ds)):=el7x (P:=λus=>BindsTo s fd {pos:=us} (List.zip ns (us++ds))) h
theorem ip {P:!Value->Prop} (h:∀a0 j D F J L,P [a0,j,D,F,J,L]):∀us:!Value,us.length=6->P us:=el6x h
theorem Zd {P:!Value->Prop} (h:∀a0 j D F J L N,P [a0,j,D,F,J,L,N]):∀us:!Value,us.length=7->P us:=by
 intro us e;cases us with
 |nil=>cases e
 |cons a us=>show ip (P:=λus=>P (a::us)) (λO U V W Y Z=>h a O U V W Y Z) us (Nat.succ.inj e)
theorem XM {K:W.Frag} {h:Heap} {mg:Str->Option Value} (X:K.In h) (j:h.Ns mainGlobals mg)
 {L a2 a1 al a9 ah ab ac a0 ad V N D F J:Addr}
 {n6:Tok}
 {n7:Tok}
 {n5:Tok}
 {n3:Tok}
 {n4:Tok}
 {a4 cd:Addr} {mn lw nc:Option Addr} {mz nv:Array (Option Value)} {me m8 m4 mt c8 m1 np:Value} {nf:Nat}
 {a5 ch:Addr} {mo ly nd:Option Addr} {n0 nw:Array (Option Value)} {ml mb m5 mu c9 m2 nq:Value} {nl:Nat} {n8:Tok}
 {a6 ck:Addr} {mp lz ne:Option Addr} {n2 nx:Array (Option Value)} {mm mc m7 mx ca m3 nt:Value} {nn:Nat} {n9:Tok}
 {m0:ClassData}
 (bt:W.nsIn K mainGlobals "NoRoom">(↑L))
 (bn:W.nsIn K mainGlobals "NoRight">(↑a2))
 (bd:W.nsIn K mainGlobals "NotMapped">(↑a1))
 (c2:W.nsIn K mainGlobals "Taken">(↑al))
 (be:W.nsIn K mainGlobals "OutOfBank">(↑a9))
 (c0:W.nsIn K mainGlobals "NoBank">(↑ah))
 (c1:W.nsIn K mainGlobals "NoTask">(↑ab))
 (bh:W.nsIn K mainGlobals "BadRights">(↑ac))
 (bl:W.nsIn K mainGlobals "OutOfRoom">(↑a0))
 (bo:W.nsIn K mainGlobals "NoShape">(↑ad))
 (bm:W.nsIn K mainGlobals "FrameError">(↑V))
 (kt:W.nsIn K mainGlobals "Shape">(↑N))
 (kw:W.nsIn K mainGlobals "Rooms">(↑D))
 (ky:W.nsIn K mainGlobals "House">(↑F))
 (hm:W.nsIn K mainGlobals "Stretches">(↑J))
 (g1:W.nsIn K mainGlobals "ValueError">none)
 (l0:W.nsIn K mainGlobals "bool">none)
 (l1:W.nsIn K mainGlobals "dict">none)
 (kf:W.nsIn K mainGlobals "int">none)
 (g2:W.nsIn K mainGlobals "isinstance">none)
 (kk:W.nsIn K mainGlobals "len">none)
 (l2:W.nsIn K mainGlobals "list">none)
 (le:W.nsIn K mainGlobals "max">none)
 (lf:W.nsIn K mainGlobals "min">none)
 (js:W.nsIn K mainGlobals "range">none)
 (lk:W.nsIn K mainGlobals "set">none)
 (hv:W.nsIn K mainGlobals "sorted">none)
 (ls:W.nsIn K mainGlobals "sum">none)
 (l3:W.nsIn K mainGlobals "READ">(some (.int 1 n6)))
 (k0:W.nsIn K mainGlobals "WRITE">(some (.int 2 n7)))
 (f4:W.nsIn K mainGlobals "MOST_RIGHTS">(some (.int 3 n5)))
 (ev:W.nsIn K mainGlobals "MOST_IN_BANK">(some (.int 64 n3)))
 (e5:W.nsIn K mainGlobals "MOST_IN_STRETCH">(some (.int 64 n4)))
 (hf:GF K "is_whole" qU)
 (hn:GF K "is_within" sU)
 (f5:GF K "power_of_two" tU)
 (ef:GF K "check_measures" uU)
 (f8:GF K "check_rights" BU)
 (k1:GF K "end_of" CU)
 (hg:GF K "tie_from" DU)
 (hw:GF K "part_of" EU)
 (hx:GF K "goes_on" FU)
 (k3:GF K "joined" GU)
 (gr:GF K "least_free" UU)
 (ho:GF K "_law_cell_at" OV)
 (k4:GF K "_law_part" PV)
 (hy:GF K "_law_whole" QV)
 (l9:GF K "_law_key" RV)
 (hh:GF K "_law_answer" SV)
 (hj:GF K "_law_access" TV)
 (k5:GF K "_law_fork" UV)
 (hl:GF K "_law_let_go" WV)
 (k8:GF K "_law_lift" XV)
 (k9:GF K "_law_seen" YV)
 (ka:GF K "_law_turn" ZV)
 (hp:WG K J)
 (ec:W.findIn K (.ref J) "runs">none)
 (eh:IF K J "Stretches.__init__" HU)
 (c3:W.findIn K (.ref J) "put">(↑a4))
 (c4:W.isFn K (.ref a4)=true)
 (c5:K.lookup a4>(me,mn,.func (W.fnOf "put" "Stretches.put" (cD gK) (aD gK) (EC gK) (.ref cd) m8 m4 mt lw c8 m1),mz))
 (c6:K.lookup cd>(np,nc,.seq #[.none] nf,nv))
 (c7:W.codeIn K c8 "Stretches.put"=true)
 (a3:W.keepIn K (.ref a4)=true)
 (ew:MF K J "cut" "Stretches.cut" IU)
 (cw:MF K J "check_full" "Stretches.check_full" JU)
 (cl:MF K J "rights_at" "Stretches.rights_at" KU)
 (e6:MF K J "tie_at" "Stretches.tie_at" LU)
 (dy:MF K J "is_free" "Stretches.is_free" MU)
 (e0:MF K J "is_full" "Stretches.is_full" NU)
 (cv:MF K J "place_behind" "Stretches.place_behind" OU)
 (cx:MF K J "parts_amid" "Stretches.parts_amid" PU)
 (e1:MF K J "part_at" "Stretches.part_at" RU)
 (dn:MF K J "lay_amid" "Stretches.lay_amid" SU)
 (ej:MF K J "told" "Stretches.told" TU)
 (e7:MF K J "copied" "Stretches.copied" NV)
 (ld:WG K F)
 (f9:W.findIn K (.ref F) "shape">none)
 (fa:W.findIn K (.ref F) "tasks">none)
 (fb:W.findIn K (.ref F) "banks">none)
 (gs:IF K F "House.__init__" WU)
 (ek:MF K F "new_task" "House.new_task" XU)
 (el:MF K F "new_bank" "House.new_bank" YU)
 (bb:W.findIn K (.ref F) "lay">(↑a5))
 (am:W.isFn K (.ref a5)=true)
 (b0:K.lookup a5>(ml,mo,.func (W.fnOf "lay" "House.lay" (cD hJ) (aD hJ) (EC hJ) (.ref ch) mb m5 mu ly c9 m2),n0))
 (b1:K.lookup ch>(nq,nd,.seq #[.none,(.int 0 n8)] nl,nw))
 (b2:W.codeIn K c9 "House.lay"=true)
 (Y:W.keepIn K (.ref a5)=true)
 (gt:MF K F "lift" "House.lift" aV)
 (em:MF K F "end_task" "House.end_task" cV)
 (g3:MF K F "asked" "House.asked" eV)
 (ff:MF K F "tie_at" "House.tie_at" hV)
 (dp:MF K F "stretches_of" "House.stretches_of" iV)
 (en:MF K F "pages_of" "House.pages_of" jV)
 (e8:MF K F "check_task" "House.check_task" mV)
 (e9:MF K F "check_bank" "House.check_bank" nV)
 (cm:MF K F "check_stretch" "House.check_stretch" oV)
 (cs:MF K F "check_part_of_bank" "House.check_part_of_bank" pV)
 (h3:MF K F "fork" "House.fork" MV)
 (kc:WG K D)
 (fl:W.findIn K (.ref D) "shape">none)
 (g4:W.findIn K (.ref D) "most">none)
 (fn:W.findIn K (.ref D) "house">none)
 (ey:W.findIn K (.ref D) "sheets">none)
 (ez:W.findIn K (.ref D) "havers">none)
 (g5:W.findIn K (.ref D) "made">none)
 (eo:W.findIn K (.ref D) "private">none)
 (f0:W.findIn K (.ref D) "banked">none)
 (h4:IF K D "Rooms.__init__" qV)
 (eq:MF K D "new_task" "Rooms.new_task" rV)
 (er:MF K D "new_bank" "Rooms.new_bank" sV)
 (b3:W.findIn K (.ref D) "lay">(↑a6))
 (b4:W.isFn K (.ref a6)=true)
 (b5:K.lookup a6>(mm,mp,.func (W.fnOf "lay" "Rooms.lay" (cD iJ) (aD iJ) (EC iJ) (.ref ck) mc m7 mx lz ca m3),n2))
 (b9:K.lookup ck>(nt,ne,.seq #[.none,(.int 0 n9)] nn,nx))
 (bc:W.codeIn K ca "Rooms.lay"=true)
 (Z:W.keepIn K (.ref a6)=true)
 (h5:MF K D "lift" "Rooms.lift" tV)
 (et:MF K D "end_task" "Rooms.end_task" uV)
 (h6:MF K D "read" "Rooms.read" vV)
 (g6:MF K D "write" "Rooms.write" wV)
 (f1:MF K D "seen_by" "Rooms.seen_by" xV)
 (e2:MF K D "live_sheets" "Rooms.live_sheets" yV)
 (g7:MF K D "shown" "Rooms.shown" zV)
 (f2:MF K D "noughts" "Rooms.noughts" BV)
 (co:MF K D "sheet_to_read" "Rooms.sheet_to_read" CV)
 (d1:MF K D "sheet_to_write" "Rooms.sheet_to_write" DV)
 (d2:MF K D "sheet_there" "Rooms.sheet_there" FV)
 (e3:MF K D "new_sheet" "Rooms.new_sheet" GV)
 (d3:MF K D "let_page_go" "Rooms.let_page_go" HV)
 (ea:MF K D "let_all_go" "Rooms.let_all_go" IV)
 (h7:MF K D "fork" "Rooms.fork" JV)
 (ke:WG K N)
 (f3:W.findIn K (.ref N) "levels">none)
 (h8:W.findIn K (.ref N) "fan">none)
 (fv:W.findIn K (.ref N) "grain">none)
 (g8:W.findIn K (.ref N) "ways">none)
 (fx:W.findIn K (.ref N) "boxes">none)
 (fy:W.findIn K (.ref N) "pages">none)
 (h9:IF K N "Shape.__init__" vU)
 (eb:MF K N "sheet_size" "Shape.sheet_size" wU)
 (ed:MF K N "has_page" "Shape.has_page" xU)
 (dd:MF K N "has_address" "Shape.has_address" yU)
 (g0:MF K N "parted" "Shape.parted" zU)
 (ha:MF K N "fits" "Shape.fits" AU)
 (g9:W.typeIn K (.ref V)>(.type "type"))
 (ga:W.clsIn K V>m0)
 (ge:W.mroIn K V (.type "BaseException")>true)
 (ht:W.excIn K ad eF "ValueError.__new__"=true)
 (hb:W.excIn K a0 eF "ValueError.__new__"=true)
 (hc:W.excIn K ac eF "ValueError.__new__"=true)
 (hz:W.excIn K ab eF "ValueError.__new__"=true)
 (i1:W.excIn K ah eF "ValueError.__new__"=true)
 (hd:W.excIn K a9 eF "ValueError.__new__"=true)
 (kq:W.excIn K al eF "ValueError.__new__"=true)
 (he:W.excIn K a1 eF "ValueError.__new__"=true)
 (hu:W.excIn K a2 eF "ValueError.__new__"=true)
 (i2:W.excIn K L eF "ValueError.__new__"=true)
 (ih:W.findIn K (.ref L) "__getattribute__">(some (.builtin "BaseException.__getattribute__")))
 (ir:W.findIn K (.ref L) "__getattr__">none)
 (iv:W.mroIn K L (.type "BaseException")>true)
 (ix:W.hasDictIn K L=true)
 (j0:W.findIn K (.ref L) "__class__">(some (.builtin "object.__class__")))
 (hq:W.specialIn K (.builtin "object.__class__") "__get__">(some (.builtin "getset_descriptor.__get__")))
 (hr:W.takesIn K (.builtin "object.__class__")>true)
 (hs:W.mroIn K L (.type "object")>true)
 (dr:W.mroIn K L (.ref V)>true)
 (ee:W.kitOne K (.ref L) (.ref L)>true)
 (dv:W.kitOne K (.ref L) (.type "ValueError")>true)
 (e4:W.kitOne K (.ref L) (.ref a2)>false)
 (dl:W.kitOne K (.ref L) (.ref a1)>false)
 (dm:W.kitOne K (.ref L) (.ref a0)>false)
 (lv:GF K "law" wS)
 :∃A:sD,JD K mg A:=((J,F,D,N,V,ad,a0,ac,ab,ah,a9,al,a1,a2,L),W.mg_none_of X j g1,
  W.mg_none_of X j l0,
  W.mg_none_of X j l1,
  W.mg_none_of X j kf,
  W.mg_none_of X j g2,
  W.mg_none_of X j kk,
  W.mg_none_of X j l2,
  W.mg_none_of X j le,
  W.mg_none_of X j lf,
  W.mg_none_of X j js,
  W.mg_none_of X j lk,
  W.mg_none_of X j hv,
  W.mg_none_of X j ls,
  (_,W.mg_of X j l3,⟨_,rfl⟩),
  (_,W.mg_of X j k0,⟨_,rfl⟩),
  (_,W.mg_of X j f4,⟨_,rfl⟩),
  (_,W.mg_of X j ev,⟨_,rfl⟩),
  (_,W.mg_of X j e5,⟨_,rfl⟩),
  hf.raw X j (λο ο ο ο ο ο=>aI (λο=>rfl)),
  hn.raw X j (λο ο ο ο ο ο=>dH (λο ο ο=>rfl)),
  f5.raw X j (λο ο ο ο ο ο=>aI (λο=>rfl)),
  ef.raw X j (λο ο ο ο ο ο=>dH (λο ο ο=>rfl)),
  f8.raw X j (λο ο ο ο ο ο=>aI (λο=>rfl)),
  k1.raw X j (λο ο ο ο ο ο=>aI (λο=>rfl)),
  hg.raw X j (λο ο ο ο ο ο=>WF (λο ο=>rfl)),
  hw.raw X j (λο ο ο ο ο ο=>dH (λο ο ο=>rfl)),
  hx.raw X j (λο ο ο ο ο ο=>WF (λο ο=>rfl)),
  k3.raw X j (λο ο ο ο ο ο=>aI (λο=>rfl)),
  gr.raw X j (λο ο ο ο ο ο=>aI (λο=>rfl)),
  ho.raw X j (λο ο ο ο ο ο=>WF (λο ο=>rfl)),
  k4.raw X j (λο ο ο ο ο ο=>dH (λο ο ο=>rfl)),
  hy.raw X j (λο ο ο ο ο ο=>WF (λο ο=>rfl)),
  l9.raw X j (λο ο ο ο ο ο=>WF (λο ο=>rfl)),
  hh.raw X j (λο ο ο ο ο ο=>kJ (λο ο ο ο=>rfl)),
  hj.raw X j (λο ο ο ο ο ο=>Zd (λο ο ο ο ο ο ο=>rfl)),
  k5.raw X j (λο ο ο ο ο ο=>dH (λο ο ο=>rfl)),
  hl.raw X j (λο ο ο ο ο ο=>dH (λο ο ο=>rfl)),
  k8.raw X j (λο ο ο ο ο ο=>ip (λο ο ο ο ο ο=>rfl)),
  k9.raw X j (λο ο ο ο ο ο=>kJ (λο ο ο ο=>rfl)),
  ka.raw X j (λο ο ο ο ο ο=>Zd (λο ο ο ο ο ο ο=>rfl)),
  hp,
  ec,
  eh.raw X j hm (λο ο ο ο ο ο=>aI (λο=>rfl)),
  (_,_,_,(c3,c4,a3),ZK (st:=gK) c5 c7 a3,(bL 5 rfl λο us O U=>bd5x (λο ο ο ο ο=>PB rfl (O _ _ c6) rfl rfl rfl) us U),.nil),
  (_,_,_,(c3,c4,a3),ZK (st:=gK) c5 c7 a3,(bL 4 rfl λο us O U=>bd4x (λο ο ο ο=>PB rfl (O _ _ c6) rfl rfl rfl) us U),.cons rfl (.nil)),
  ew.raw (λο ο ο ο ο ο=>dH (λο ο ο=>rfl)),
  cw.raw (λο ο ο ο ο ο=>dH (λο ο ο=>rfl)),
  cl.raw (λο ο ο ο ο ο=>WF (λο ο=>rfl)),
  e6.raw (λο ο ο ο ο ο=>WF (λο ο=>rfl)),
  dy.raw (λο ο ο ο ο ο=>dH (λο ο ο=>rfl)),
  e0.raw (λο ο ο ο ο ο=>dH (λο ο ο=>rfl)),
  cv.raw (λο ο ο ο ο ο=>WF (λο ο=>rfl)),
  cx.raw (λο ο ο ο ο ο=>dH (λο ο ο=>rfl)),
  e1.raw (λο ο ο ο ο ο=>WF (λο ο=>rfl)),
  dn.raw (λο ο ο ο ο ο=>kJ (λο ο ο ο=>rfl)),
  ej.raw (λο ο ο ο ο ο=>aI (λο=>rfl)),
  e7.raw (λο ο ο ο ο ο=>aI (λο=>rfl)),
  ld,
  f9,
  fa,
  fb,
  gs.raw X j ky (λο ο ο ο ο ο=>WF (λο ο=>rfl)),
  ek.raw (λο ο ο ο ο ο=>aI (λο=>rfl)),
  el.raw (λο ο ο ο ο ο=>WF (λο ο=>rfl)),
  (_,_,_,(bb,am,Y),ZK (st:=hJ) b0 b2 Y,(bL 7 rfl λο us O U=>bd7x (λο ο ο ο ο ο ο=>PB rfl (O _ _ b1) rfl rfl rfl) us U),.nil),
  (_,_,_,(bb,am,Y),ZK (st:=hJ) b0 b2 Y,(bL 6 rfl λο us O U=>bd6x (λο ο ο ο ο ο=>PB rfl (O _ _ b1) rfl rfl rfl) us U),.cons ⟨_,rfl⟩ (.nil)),
  (_,_,_,(bb,am,Y),ZK (st:=hJ) b0 b2 Y,(bL 5 rfl λο us O U=>bd5x (λο ο ο ο ο=>PB rfl (O _ _ b1) rfl rfl rfl) us U),.cons rfl (.cons ⟨_,rfl⟩ (.nil))),
  gt.raw (λο ο ο ο ο ο=>kJ (λο ο ο ο=>rfl)),
  em.raw (λο ο ο ο ο ο=>WF (λο ο=>rfl)),
  g3.raw (λο ο ο ο ο ο=>kJ (λο ο ο ο=>rfl)),
  ff.raw (λο ο ο ο ο ο=>dH (λο ο ο=>rfl)),
  dp.raw (λο ο ο ο ο ο=>WF (λο ο=>rfl)),
  en.raw (λο ο ο ο ο ο=>WF (λο ο=>rfl)),
  e8.raw (λο ο ο ο ο ο=>WF (λο ο=>rfl)),
  e9.raw (λο ο ο ο ο ο=>WF (λο ο=>rfl)),
  cm.raw (λο ο ο ο ο ο=>kJ (λο ο ο ο=>rfl)),
  cs.raw (λο ο ο ο ο ο=>kJ (λο ο ο ο=>rfl)),
  h3.raw (λο ο ο ο ο ο=>WF (λο ο=>rfl)),
  kc,
  fl,
  g4,
  fn,
  ey,
  ez,
  g5,
  eo,
  f0,
  h4.raw X j kw (λο ο ο ο ο ο=>dH (λο ο ο=>rfl)),
  eq.raw (λο ο ο ο ο ο=>aI (λο=>rfl)),
  er.raw (λο ο ο ο ο ο=>WF (λο ο=>rfl)),
  (_,_,_,(b3,b4,Z),ZK (st:=iJ) b5 bc Z,(bL 7 rfl λο us O U=>bd7x (λο ο ο ο ο ο ο=>PB rfl (O _ _ b9) rfl rfl rfl) us U),.nil),
  (_,_,_,(b3,b4,Z),ZK (st:=iJ) b5 bc Z,(bL 6 rfl λο us O U=>bd6x (λο ο ο ο ο ο=>PB rfl (O _ _ b9) rfl rfl rfl) us U),.cons ⟨_,rfl⟩ (.nil)),
  (_,_,_,(b3,b4,Z),ZK (st:=iJ) b5 bc Z,(bL 5 rfl λο us O U=>bd5x (λο ο ο ο ο=>PB rfl (O _ _ b9) rfl rfl rfl) us U),.cons rfl (.cons ⟨_,rfl⟩ (.nil))),
  h5.raw (λο ο ο ο ο ο=>kJ (λο ο ο ο=>rfl)),
  et.raw (λο ο ο ο ο ο=>WF (λο ο=>rfl)),
  h6.raw (λο ο ο ο ο ο=>dH (λο ο ο=>rfl)),
  g6.raw (λο ο ο ο ο ο=>kJ (λο ο ο ο=>rfl)),
  f1.raw (λο ο ο ο ο ο=>WF (λο ο=>rfl)),
  e2.raw (λο ο ο ο ο ο=>aI (λο=>rfl)),
  g7.raw (λο ο ο ο ο ο=>kJ (λο ο ο ο=>rfl)),
  f2.raw (λο ο ο ο ο ο=>aI (λο=>rfl)),
  co.raw (λο ο ο ο ο ο=>dH (λο ο ο=>rfl)),
  d1.raw (λο ο ο ο ο ο=>dH (λο ο ο=>rfl)),
  d2.raw (λο ο ο ο ο ο=>dH (λο ο ο=>rfl)),
  e3.raw (λο ο ο ο ο ο=>WF (λο ο=>rfl)),
  d3.raw (λο ο ο ο ο ο=>dH (λο ο ο=>rfl)),
  ea.raw (λο ο ο ο ο ο=>WF (λο ο=>rfl)),
  h7.raw (λο ο ο ο ο ο=>WF (λο ο=>rfl)),
  ke,
  f3,
  h8,
  fv,
  g8,
  fx,
  fy,
  h9.raw X j kt (λο ο ο ο ο ο=>kJ (λο ο ο ο=>rfl)),
  eb.raw (λο ο ο ο ο ο=>aI (λο=>rfl)),
  ed.raw (λο ο ο ο ο ο=>WF (λο ο=>rfl)),
  dd.raw (λο ο ο ο ο ο=>WF (λο ο=>rfl)),
  g0.raw (λο ο ο ο ο ο=>WF (λο ο=>rfl)),
  ha.raw (λο ο ο ο ο ο=>dH (λο ο ο=>rfl)),
  (_,W.mg_of X j bm,rfl),
  (W.mg_of X j bm,g9,⟨_,ga⟩,ge),
  (_,W.mg_of X j bo,rfl),
  ⟨W.mg_of X j bo,ht⟩,
  (_,W.mg_of X j bl,rfl),
  ⟨W.mg_of X j bl,hb⟩,
  (_,W.mg_of X j bh,rfl),
  ⟨W.mg_of X j bh,hc⟩,
  (_,W.mg_of X j c1,rfl),
  ⟨W.mg_of X j c1,hz⟩,
  (_,W.mg_of X j c0,rfl),
  ⟨W.mg_of X j c0,i1⟩,
  (_,W.mg_of X j be,rfl),
  ⟨W.mg_of X j be,hd⟩,
  (_,W.mg_of X j c2,rfl),
  ⟨W.mg_of X j c2,kq⟩,
  (_,W.mg_of X j bd,rfl),
  ⟨W.mg_of X j bd,he⟩,
  (_,W.mg_of X j bn,rfl),
  ⟨W.mg_of X j bn,hu⟩,
  (_,W.mg_of X j bt,rfl),
  ⟨W.mg_of X j bt,i2⟩,
  (ih,ir,iv,ix,j0,hq,hr,hs),
  dr,
  ee,
  dv,
  e4,
  dl,
  dm,
  lv.law X j λο ο ο ο ο ο ο=>rfl)
section
variable {P:Program} {w:World} {K:W.Frag} {mg:Str->Option Value} {base:Heap} {A:sD}
def sp_is_whole:Sp:=λvs H Q ο=>∃x,vs=[x]/\Kn H x/\Q (.bl (nG x)) H
theorem jp (T:JD K mg A):qE P w K mg base "is_whole" 1 ["thing"] [] sp_is_whole:=by
 show T.K0.have rn (λvs H Q D j=>?_) ?_
 .let(x,rfl,_):=j;rfl
 .intro f J F N s H vs Q D L j;let(x,rfl,hk,q):=j;show(_,(gD (RD (zJ (fG bS rfl T.A6 sB (IC (GC 0) (IC (UP (n:="int") rfl T.Kz PyProof.Rows.boot_int) MC))) (tK (X8 (fG bS rfl T.A6 sB (IC (GC 0) (IC (UP (n:="bool") rfl T.Lg PyProof.Rows.boot_bool) MC)))))))),?_);rfl';rw[<-Wk hk] at q;show(by decide,hk,?_);cases e:WI "int" H x with
  |true=>rw[e] at q;show WD (by decide,hk,q)
  |false=>rw[e] at q;show ND q
def sp_is_within:Sp:=λvs H Q ο=>∃x l h,vs=[x,.int l,.int h]/\Kn H x/\Q (.bl (DE x l h)) H
theorem YM (T:JD K mg A):qE P w K mg base "is_within" 2 ["thing","low","high"] [] sp_is_within:=by
 let F:=@jp P w K mg base A T;show T.Ki.have xn (λvs H Q D j=>?_) ?_
 .let(x,l,h,rfl,_):=j;rfl
 .intro f N L O s H vs Q D J j;let(x,l,h,rfl,hk,q):=j;show(_,(gD (RD (zJ (kE F (-J) qD (IC (GC 0) MC)) (tK (ij zK zK (GC 1) (GC 0) (GC 2)))))),?_);unfold sp_is_whole;rfl';show⟨hk,?_⟩;cases x with
  |int i=>
   show WD (i,rfl,?_);rw[YI] at q;by_cases c:l<=i
   .rw[qA c] at q;rw[iA c];show(i,rfl,q)
   .rw[HA c] at q;rw[gA c];show q
  |_=>show ND q
def sp_power_of_two:Sp:=λvs H Q ο=>∃e:Int,vs=[.int e]/\0<=e/\e<=62/\Q (.int (pw e)) H
theorem pp (T:JD K mg A):qE P w K mg base "power_of_two" 1 ["exponent"] [] sp_power_of_two:=by
 show T.Gw.have uS (λvs H Q F j=>?_) ?_
 .let(e,rfl,_):=j;rfl
 .intro f L J W s H vs Q F V j;let(e,rfl,h0,h1,q):=j;show(_,(fD (ZD (i:=1) uS.nd rfl (Or.inl rfl) ZC)
   (fD (AI jB rfl (OR rfl T.Ce (IC (GC 0) MC)) (SF (i:=2) uS.nd rfl (Or.inl rfl)) (gD (ZD (i:=1) uS.nd rfl (Or.inl rfl) (jE tP (GC 1) ZC))))
   (gD (RD (GC 1))))),?_)
  rfl';show(⋯,⋯,MT (λi D H'=>∃v,D=[some (.int e),some (.int (pw (i:Int))),v]/\H'=H) (_,rfl,rfl) (λi D H' hi=>?_) (λD H'=>?_))
  .rintro⟨v,rfl,rfl⟩;rfl';let O:=Za (n:=i) (m:=62) ⋯;let U:=dS i;let N:pw ((62:Nat):Int)=4611686018427387904:=by decide
   show by first|exact (cS i).symm|exact⟨⋯,(cS i).symm⟩|(rw[cS];omega)|(trace_state;omega)
  .rintro⟨v,rfl,rfl⟩;rfl';rw[show ((e.toNat:Nat):Int)=e by omega];show q
def EF (x y z:V):Bool:=DE x 2 3&&DE y 1 8&&DE z 0 4
theorem qp {l f g:Int} (h:EF (.int l) (.int f) (.int g)=true):2<=l/\l<=3/\1<=f/\f<=8/\0<=g/\g<=4:=by
 unfold EF at h;simp only[YI,OA,UA] at h;omega
theorem rp {l f g:Int} (h:2<=l/\l<=3/\1<=f/\f<=8/\0<=g/\g<=4):EF (.int l) (.int f) (.int g)=true:=by
 unfold EF;simp only[YI,OA,UA];omega
def ae (N:Addr):Sp:=λvs H Q E=>∃x y z,vs=[x,y,z]/\Kn H x/\Kn H y/\Kn H z/\if EF x y z=true then Q .non H else E (.ref N) none H
theorem vp (T:JD K mg A):qE P w K mg base "check_measures" 3 ["levels","fan","grain"] [] (ae A.Bc):=by
 let D:=@YM P w K mg base A T;show T.E9.have yn (λvs H Q J j=>?_) ?_
 .let(x,y,j,rfl,_):=j;rfl
 .intro f Y W Z s H vs Q J F j;let(x,y,j,rfl,U,V,hz,q):=j;show(_,(fD (yE (UH (iH (kE D (-F) qD (IC (GC 0) (IC ZC (IC ZC MC)))))) (gD (NH LH rfl T.Ei (IC kG MC))) FE)
   (fD (yE (UH (iH (kE D (-F) qD (IC (GC 1) (IC ZC (IC ZC MC)))))) (gD (NH LH rfl T.Ei (IC kG MC))) FE)
   (gD (yE (UH (iH (kE D (-F) qD (IC (GC 2) (IC ZC (IC ZC MC)))))) (gD (NH LH rfl T.Ei (IC kG MC))) FE)))),?_)
  unfold sp_is_within;rfl';unfold EF at q;simp only[U,V,hz,true_and];cases L:DE x 2 3<;>cases N:DE y 1 8<;>cases O:DE j 0 4<;>simp only[L,N,O,Bool.and_true,Bool.and_false,Bool.true_and,zC,Bool.not_true,Bool.not_false,if_true,HB,SA, ↓reduceIte] at q ⊢<;>show q
def bI (l f g:Int):!(Str×V):=QC "pages" (.int (pw (l * f))) (QC "boxes" (.int (pw g)) (QC "ways" (.int (pw f)) (QC "grain" (.int g) (QC "fan" (.int f) (QC "levels" (.int l) [])))))
def lJ (C N:Addr):Sp:=λvs H Q E=>∃(p dx:Addr) (x y z:V),vs=[.ref p,x,y,z]/\H p>(.ins C dx [])/\Kn H x/\Kn H y/\Kn H z/\
 if EF x y z=true then ∃l f g:Int,x=.int l/\y=.int f/\z=.int g/\Q .non (JC H p (.ins C dx (bI l f g))) else E (.ref N) none H
theorem ZM (T:JD K mg A):TF P w K mg base "Shape" A.Ah 4 ["self","levels","fan","grain"] [] (lJ A.Ah A.Bc):=by
 let N:=@vp P w K mg base A T;let J:=@pp P w K mg base A T;show T.Jd.have zn (λvs H Q L j=>?_) ?_
 .let(p,O,x,y,j,rfl,_):=j;rfl
 .intro f Z Y a1 s H vs Q L F j;let(p,O,x,y,j,rfl,U,V,W,hz,q):=j;show(_,(fD (vE (kE N (-F) qD (IC (GC 1) (IC (GC 2) (IC (GC 3) MC)))))
   (fD (BG (GC 0) (GC 1) rfl)
   (fD (BG (GC 0) (GC 2) rfl)
   (fD (BG (GC 0) (GC 3) rfl)
   (fD (BG (GC 0) (kE J (-F) qD (IC (GC 2) MC)) rfl)
   (fD (BG (GC 0) (kE J (-F) qD (IC (GC 3) MC)) rfl)
   (gD (BG (GC 0) (kE J (-F) qD (IC (jE tP (GC 1) (GC 2)) MC)) rfl)))))))),?_)
  unfold ae sp_power_of_two;rfl';simp only[V,W,hz,U,T.A0,T.Cj,T.Eg,T.C2,T.Dk,T.A9,T.A5,true_and];rfl';simp only[T.A0,T.Cj,T.Eg,T.C2,T.Dk,T.A9,T.A5,true_and];show rH (λD=>?_) (λD=>?_)
  .rw[iA D] at q;let(l,a0,g,rfl,rfl,rfl,q):=q;let b:=qp D;let m:=QT b.1 b.2.1 b.2.2.1 b.2.2.2.1;rfl'
   repeat' (show And.intro ?_ ?_)
   all_goals first|omega|exact q|(show KA (?_:_ < 9) (by decide);repeat (first|exact Nat.zero_lt_succ _|refine cb ?_))
  .rw[gA D] at q;show q
theorem aW {l f g:Int}:(bI l f g).lookup ("pages":Str)>(.int (pw (l * f))):=by rfl
theorem xS {l f g:Int}:(bI l f g).lookup ("boxes":Str)>(.int (pw g)):=by rfl
theorem CJ {l f g:Int} {m:Str} (h:¬m∈(["levels","fan","grain","ways","boxes","pages"]:!Str)):(bI l f g).lookup m=none:=by
 simp only[pA,WA,BC,not_or] at h;unfold bI;simp only[sO,h,HB]
 rfl
def aE (C:Addr) (H:Hp) (p:Addr) (l f g:Int):Prop:=∃dx,H p>(.ins C dx (bI l f g))
theorem aE.same {C:Addr} {H H':Hp} {p:Addr} {l f g:Int} (h:aE C H p l f g) (s:OC H H'):aE C H' p l f g:=let ⟨dx,e⟩:=h;⟨dx,s _ _ e⟩
def ce (C:Addr):Sp:=λvs H Q ο=>∃(p:Addr) (x l f g:Int),vs=[.ref p,.int x]/\aE C H p l f g/\Q (.bl (decide (0<=x)&&decide (x<=pw (l * f) - 1))) H
theorem oQ (T:JD K mg A):YC P w K mg base A.Ah "has_page" 3 ["self","page"] [] (ce A.Ah):=by
 let D:=@YM P w K mg base A T;show T.Fl.have Sn (λvs H Q F j=>?_) ?_
 .let(p,x,l,f,g,rfl,_):=j;rfl
 .intro f O N W s H vs Q F L j;let(p,x,l,V,g,rfl,(U,J),q):=j;show(_,(gD (RD (kE D (-L) qD (IC (GC 1) (IC ZC (IC (jE AJ (MD (GC 0) rfl) ZC) MC)))))),?_);unfold sp_is_within;rfl';simp only[J,T.A0,T.A5,true_and];rfl';simp only[T.A0,T.A5,aW,true_and];rfl';show q
def HE (x m p:Int):Bool:=decide (0<=x/\x < p/\1<=m/\m<=64/\x+m - 1 < p)
def de (C:Addr):Sp:=λvs H Q ο=>∃(p:Addr) (x m l f g:Int),vs=[.ref p,.int x,.int m]/\aE C H p l f g/\Q (.bl (HE x m (pw (l * f)))) H
theorem aN (T:JD K mg A):YC P w K mg base A.Ah "fits" 4 ["self","first","many"] [] (de A.Ah):=by
 let U:=@YM P w K mg base A T;let O:=@oQ P w K mg base A T;show T.Je.have Xn (λvs H Q V L=>?_) ?_
 .let(p,x,m,l,f,g,rfl,_):=L;rfl
 .intro f Z Y a2 s H vs Q V J L;let(p,x,m,l,D,g,rfl,F,q):=L;show(_,(gD (RD (zJ (VD (GC 0) T.A0 O (-J) qD (IC (GC 1) MC)) (zJ (kE U (-J) qD (IC (GC 2) (IC ZC (IC (ZJ rfl T.Ex) MC)))) (tK (VD (GC 0) T.A0 O (-J) qD (IC (jE AJ (jE KG (GC 1) (GC 2)) ZC) MC))))))),?_);unfold sp_is_within ce;rfl';let(a0,W):=id F;simp only[W];rfl';show(CJ ∅,l,D,g,F,?_);generalize a1:pw (l * D)=N at q ⊢;by_cases c:0<=x/\x<=N - 1
  .rw[qA c.1,qA c.2];show WD ?_;rw[YI];by_cases d:1<=m/\m<=64
   .rw[qA d.1,qA d.2];show WD (CJ ∅,l,D,g,F,?_);let j:(decide (0<=x+m - 1)&&decide (x+m - 1<=pw (l * D) - 1))=HE x m N:=by
     unfold HE;rw[rB];simp only[OA,UA];omega
    rw[j];show q
   .let e:(decide (1<=m)&&decide (m<=64))=false:=by
     rw[Bool.eq_false_iff];simp only[ne_eq,OA,UA];show d
    rw[e];show ND ?_;let j:HE x m N=false:=HA ⋯;rw[j] at q;show q
  .let e:(decide (0<=x)&&decide (x<=N - 1))=false:=by
    rw[Bool.eq_false_iff];simp only[ne_eq,OA,UA];show c
   rw[e];show ND ?_;let j:HE x m N=false:=HA ⋯;rw[j] at q;show q
theorem wp {a b c:Int}:(decide (a<=b)&&decide (b<=c - 1))=decide (a<=b/\b < c):=by
 rw[rB];simp only[OA,UA];omega
def gd (l f g:Int):Prop:=2<=l/\l<=3/\1<=f/\f<=8/\0<=g/\g<=4
theorem mJ {l f g:Int} (h:gd l f g):(1<=pw g/\pw g<=16)/\(1<=pw (l * f)/\pw (l * f)<=16777216):=by
 let(h1,h2,j,D,J,F):=h;let m:=QT h1 h2 j D;show(⟨dS _,ql F⟩,dS _,OT m.2)
def gL (C:Addr):Sp:=λvs H Q ο=>∃(p:Addr) (x l f g:Int),vs=[.ref p,.int x]/\aE C H p l f g/\gd l f g/\Q (.bl (decide (0<=x/\x < pw (l * f) * pw g))) H
theorem bW (T:JD K mg A):YC P w K mg base A.Ah "has_address" 3 ["self","address"] [] (gL A.Ah):=by
 let D:=@YM P w K mg base A T;show T.Dt.have Vn (λvs H Q F j=>?_) ?_
 .let(p,x,l,f,g,rfl,_):=j;rfl
 .intro f V U Z s H vs Q F O j;let(p,x,l,Y,g,rfl,J,L,q):=j;show(_,(gD (RD (kE D (-O) qD (IC (GC 1) (IC ZC (IC (jE AJ (jE tP (MD (GC 0) rfl) (MD (GC 0) rfl)) ZC) MC)))))),?_);unfold sp_is_within;let(W,N):=id J;rfl';simp only[N];rfl';simp only[T.A0,T.A5,T.A9,aW,xS,true_and];rfl';let b:=mJ L;show⟨.inr ⟨⋯,⋯⟩,?_⟩;rw[YI,wp];show q
def iL (C O:Addr):Sp:=λvs H Q E=>∃(p:Addr) (x l f g:Int),vs=[.ref p,.int x]/\aE C H p l f g/\gd l f g/\
 if 0<=x/\x < pw (l * f) * pw g then ∀t,H t=none->Q (.ref t) (JC H t (.tup [.int (x / pw g),.int (x % pw g)])) else E (.ref O) none H
theorem cW (T:JD K mg A):YC P w K mg base A.Ah "parted" 4 ["self","address"] [] (iL A.Ah A.Al):=by
 let L:=@bW P w K mg base A T;show T.Gz.have Wn (λvs H Q N j=>?_) ?_
 .let(p,x,l,f,g,rfl,_):=j;rfl
 .intro f W V Z s H vs Q N U j;let(p,x,l,D,g,rfl,F,J,q):=j;show(_,(fD (yE (UH (iH (VD (GC 0) T.A0 L (-U) qD (IC (GC 1) MC)))) (gD (NH LH rfl T.E2 (IC kG MC))) FE)
   (gD (RD (lG (IC (jE o9 (GC 1) (MD (GC 0) rfl)) (IC (jE TJ (GC 1) (MD (GC 0) rfl)) MC)))))),?_)
  unfold gL;let(Y,O):=id F;rfl';simp only[O];rfl';show(CJ ∅,l,D,g,F,J,?_);simp only[T.A0,T.A5,T.A9,aW,xS,true_and];rfl';let b:=mJ J;by_cases c:0<=x/\x < pw (l * D) * pw g
  .rw[iA c] at q;rw[qA c];show ND (⋯,⋯,⋯,q)
  .rw[gA c] at q;rw[HA c];show WD q
def fe (K:W.Frag) (a:Addr) (ns:!Int):Sp:=λvs H Q ο=>∃(k:Int),vs=[.ref a,.int k]/\BD K H a (ns.map V.int)/\0<=k/\Q (.int (ns.getD k.toNat 0)) H
theorem bN (T:JD K mg A) (a:Addr) (ns:!Int):qE P w K mg base "_law_cell_at" 1 ["_law_script","_law_k"] [] (fe K a ns):=by
 show T.Kj.have ap (λvs H Q F j=>?_) ?_
 .let(k,rfl,_):=j;rfl
 .intro f O N W s H vs Q F U j;let(k,rfl,D,hk,q):=j;show(_,(fD (yE (dF fM (GC 1) (fG rO rfl T.Bj PySem.boot_len (IC (GC 0) MC)) (UC _)) (gD (RD (pE uO (GC 0) (GC 1) (λο ο=>rfl)))) FE)
   (gD (RD ZC))),?_)
  rfl';show(ns.length,.inl (_,D,by simp),?_);by_cases c:k < (ns.length:Int)
  .rw[iA c];show(_,D,.int (ns.getD k.toNat 0),?_,q);let L:k.toNat < ns.length:=⋯;let e:VH (ns.map V.int) ((k.toNat:Nat):Int)>(.int (ns.getD k.toNat 0)):=iM (by simp[L]);rw[show ((k.toNat:Nat):Int)=k by omega] at e;show e
  .rw[gA c];let J:ns.length<=k.toNat:=⋯;rw[show ns.getD k.toNat 0=0 by simp[List.getD,J]] at q;show q
theorem BI {H H':Hp} {t:Addr} {o:HO} (s:OC H H') (h:H t=none):OC H (JC H' t o):=λb u e=>by
 rw[WC (FD e h)];show s b u e
theorem rG {H H':Hp} {p:Addr} (s:OC H H') (h:H' p=none):H p=none:=by
 cases e:H p with
 |none=>rfl
 |some o=>rw[s p o e] at h;cases h
set_option genInjectivity false in
structure Rn where
 f:Int
 m:Int
 r:Int
 t:Option (Int×Int)
 deriving DecidableEq
def bD (r:Rn):Int:=r.f+r.m
def tf (r:Rn) (p:Int):Option (Int×Int):=r.t.map λt=>(t.1,t.2+p - r.f)
def WE (r:Rn) (lo hi:Int):Rn:=(max r.f lo,min (bD r) hi - max r.f lo,r.r,tf r (max r.f lo))
def go (r s:Rn):Bool:=decide (bD r=s.f)&&decide (r.r=s.r)&&decide (tf r s.f=s.t)
def IE (acc:!Rn) (r:Rn):!Rn:=
 match acc.getLast? with
 |none=>acc++[r]
 |some l=>if go l r=true then acc.dropLast++[(l.f,l.m+r.m,l.r,l.t)] else acc++[r]
def jn (rs:!Rn):!Rn:=rs.foldl IE []
def pb (rs:!Rn) (p:Int):Nat:=(rs.takeWhile λr=>decide (bD r<=p)).length
def bF (rs:!Rn) (lo hi:Nat):!Rn:=(rs.take hi).drop lo
def gF (rs:!Rn) (a n:Int):!Rn:=((bF rs (pb rs a) (pb rs (a+n)+1)).filter λr=>decide (r.f < a+n)).map λr=>WE r a (a+n)
def uE (rs:!Rn) (a n:Int) (parts:!Rn):!Rn:=
 letI near:=bF rs (pb rs (a - 1)) (pb rs (a+n)+1)
 rs.take (pb rs (a - 1))++jn ((near.filter λr=>decide (r.f < a)).map (λr=>WE r r.f a)++parts++(near.filter λr=>decide (GT.gt (bD r) (a+n))).map (λr=>WE r (a+n) (bD r)))++rs.drop (pb rs (a+n)+1)
def pm:!Rn->Int->Option (Int×Option (Int×Int))
 |[],_=>none
 |r::rs,p=>if r.f<=p/\p < bD r then some (r.r,tf r p) else pm rs p
def jD (rs:!Rn):Prop:=rs.Pairwise (λa b=>bD a<=b.f)/\∀r∈rs,0 < r.m
def dE:!Rn->Prop
 |[]=>True
 |[_]=>True
 |a::b::r=>go a b=false/\dE (b::r)
theorem jD.tail {r:Rn} {rs:!Rn} (h:jD (r::rs)):jD rs:=⟨(List.pairwise_cons.mp h.1).2,λx j=>h.2 x (kA _ j)⟩
theorem jD.head {r:Rn} {rs:!Rn} (h:jD (r::rs)):∀s∈rs,bD r<=s.f:=(List.pairwise_cons.mp h.1).1
theorem dE.tail {r:Rn} {rs:!Rn} (h:dE (r::rs)):dE rs:=by
 cases rs with
 |nil=>show True.intro
 |cons s rs=>show h.2
theorem yS {p:Int}:∀{rs:!Rn},(∀r∈rs,¬(r.f<=p/\p < bD r))->pm rs p=none
 |[],_=>rfl
 |r::rs,h=>by
  unfold pm;rw[gA (h r cA)];show yS λs hs=>h s (kA _ hs)
theorem dW {p:Int} {rs:!Rn} (h:∀r∈rs,p < r.f):pm rs p=none:=yS λr j D=>by have:=h r j;omega
theorem ie {p:Int} {rs:!Rn} (h:∀r∈rs,bD r<=p):pm rs p=none:=yS λr j D=>by have:=h r j;omega
theorem cN {p:Int}:∀{rs:!Rn} {r:Rn},jD rs->r∈rs->r.f<=p->p < bD r->pm rs p>(r.r,tf r p)
 |[],_,_,h,_,_=>by cases h
 |s::rs,r,o,h,h1,h2=>by
  unfold pm;let rfl||h:=pA.mp h
  .rw[iA ⟨h1,h2⟩]
  .have:=o.head r h;rw[gA ⋯];show cN o.tail h h1 h2
theorem je {p:Int} {x:Int×Option (Int×Int)}:∀{rs:!Rn},pm rs p>x->∃r∈rs,r.f<=p/\p < bD r/\x=(r.r,tf r p)
 |[],h=>by cases h
 |s::rs,h=>by
  unfold pm at h;by_cases c:s.f<=p/\p < bD s
  .rw[iA c] at h;show(s,cA,c.1,c.2,(yA h).symm)
  .rw[gA c] at h;let(r,h1,h2):=je h;show(r,kA _ h1,h2)
theorem cI {p:Int}:∀{rs ss:!Rn},pm (rs++ss) p=(pm rs p).or (pm ss p)
 |[],ss=>by rw[List.nil_append];rfl
 |r::rs,ss=>by
  change (if r.f<=p/\p < bD r then some (r.r,tf r p) else pm (rs++ss) p)=(if r.f<=p/\p < bD r then some (r.r,tf r p) else pm rs p).or (pm ss p);by_cases c:r.f<=p/\p < bD r
  .rw[iA c,iA c];rfl
  .rw[gA c,gA c];show cI
theorem eW {r:Rn}:tf r r.f=r.t:=by
 unfold tf;cases r.t with
 |none=>rfl
 |some t=>simp
theorem fW {r:Rn} {p q:Int} {m x:Int}:tf (p,m,x,tf r p) q=tf r q:=by
 unfold tf;cases r.t with
 |none=>rfl
 |some t=>simp;omega
def zS (a b:Rn):Prop:=a.f=b.f/\a.r=b.r/\a.t=b.t
def gW (a b:Rn):Prop:=bD a=bD b/\a.r=b.r/\∀p,tf a p=tf b p
theorem iW {l a b:Rn} (h:zS a b):go l a=go l b:=by unfold go;rw[h.1,h.2.1,h.2.2]
theorem jL {l a b:Rn} (h:gW a b):go a l=go b l:=by unfold go;rw[h.1,h.2.1,h.2.2]
theorem AS:∀{xs ys:!Rn},dE xs->dE ys->(∀a b,xs.getLast?>a->ys.head?>b->go a b=false)->dE (xs++ys)
 |[],ys,_,h,_=>h
 |[a],[],h,_,_=>h
 |[a],b::ys,_,h,g=>⟨g a b rfl rfl,h⟩
 |a::b::xs,ys,h,h2,g=>⟨h.1,AS (xs:=b::xs) h.2 h2 λx y e1 e2=>g x y (by rw[List.getLast?_cons_cons];show e1) e2⟩
theorem qe:∀{xs ys:!Rn},dE (xs++ys)->dE xs
 |[],_,_=>True.intro
 |[a],_,_=>True.intro
 |a::b::xs,ys,h=>⟨h.1,qe (xs:=b::xs) (ys:=ys) h.2⟩
theorem BS:∀{xs ys:!Rn},dE (xs++ys)->dE ys
 |[],_,h=>h
 |a::xs,ys,h=>BS (xs:=xs) (dE.tail (r:=a) h)
theorem jW:∀{xs ys:!Rn} {a b:Rn},dE (xs++ys)->xs.getLast?>a->ys.head?>b->go a b=false
 |[],_,_,_,_,h,_=>by cases h
 |[x],[],_,_,_,_,h=>by cases h
 |[x],y::ys,a,b,h,h1,h2=>by
  cases h1;cases h2;show h.1
 |x::z::xs,ys,a,b,h,h1,h2=>jW (xs:=z::xs) h.2 (by rw[List.getLast?_cons_cons] at h1;show h1) h2
theorem ue:∀{xs:!Rn} {a b:Rn},zS a b->dE (xs++[b])->dE (xs++[a])
 |[],_,_,_,_=>True.intro
 |[x],a,b,h,l=>⟨by rw[iW h];show l.1,True.intro⟩
 |x::z::xs,a,b,h,l=>⟨l.1,ue (xs:=z::xs) h l.2⟩
theorem CO {xs ys:!Rn} (h1:jD xs) (h2:jD ys) (h:∀x∈xs,∀y∈ys,bD x<=y.f):jD (xs++ys):=
 ⟨DB.mpr (h1.1,h2.1,h),λr j=>(jA.mp j).elim (h1.2 r) (h2.2 r)⟩
theorem pQ {xs ys:!Rn} (h:jD (xs++ys)):jD xs:=⟨(DB.mp h.1).1,λr j=>h.2 r (CA _ j)⟩
theorem DJ {xs ys:!Rn} (h:jD (xs++ys)):jD ys:=⟨(DB.mp h.1).2.1,λr j=>h.2 r (uA _ j)⟩
theorem dN {xs ys:!Rn} (h:jD (xs++ys)):∀x∈xs,∀y∈ys,bD x<=y.f:=(DB.mp h.1).2.2
theorem CS {r:Rn} (h:0 < r.m):jD [r]:=⟨by simp,λx j=>by rw[bA.mp j];show h⟩
structure Jn (c acc:!Rn):Prop where
 ord:jD acc
 lst:dE acc
 pg:∀p,pm acc p=pm c p
 hd:∀b,c.head?>b->∃a,acc.head?>a/\zS a b
 ls:∀b,c.getLast?>b->∃a,acc.getLast?>a/\gW a b
 lo:∀z,(∀y∈c,z<=y.f)->∀x∈acc,z<=x.f
 hi:∀z,(∀y∈c,bD y<=z)->∀x∈acc,bD x<=z
 no:c=[]->acc=[]
theorem DS {α:Type}:∀{l:!α} {a:α},l.getLast?>a->∃i,l=i++[a]
 |[],_,h=>by cases h
 |[x],a,h=>⟨[],by cases h;rfl⟩
 |x::y::l,a,h=>by
  rw[List.getLast?_cons_cons] at h;let(i,e):=DS h;show⟨x::i,by rw[e];rfl⟩
theorem Jn.step {c acc:!Rn} {r:Rn} (D:Jn c acc) (o:jD (c++[r])):Jn (c++[r]) (IE acc r):=by
 let a4:0 < r.m:=o.2 r (uA _ cA);let a1:∀y∈c,bD y<=r.f:=λy F=>dN o y F r cA;rcases hc:c.getLast? with _|d
 .have:c=[]:=List.getLast?_eq_none_iff.mp hc;subst this;have:=D.no rfl;subst this;show(CS a4,True.intro,λο=>rfl,λb h=>(r,rfl,by cases h;show(rfl,rfl,rfl)),λb h=>(r,rfl,by cases h;show(rfl,rfl,λο=>rfl)),λJ h=>h,λJ h=>h,λh=>by cases h)
 .let(l,a3,sl):=D.ls d hc;let(i,rfl):=DS a3;let a6:c≠[]:=λe=>by rw[e] at hc;cases hc
  let ad:bD l<=r.f:=D.hi r.f a1 l (by simp);let a9:∀x∈i,bD x<=l.f:=λx j=>dN D.ord x j l cA;let ac:0 < l.m:=D.ord.2 l (by simp);let a2:∀{b:Rn} {x:!Rn},(c++x).head?>b->c.head?>b:=λ{b x} h=>by
   cases c with
   |nil=>show absurd rfl a6
   |cons y c=>show h
  unfold IE;rw[a3];change Jn (c++[r]) (if go l r=true then (i++[l]).dropLast++[(l.f,l.m+r.m,l.r,l.t)] else (i++[l])++[r]);cases g:go l r with
  |true=>
   rw[iA rfl,List.dropLast_concat];unfold go at g;simp only[OA,UA] at g;let((ab,Z),a0):=g;let Y:∀p,tf r p=tf l p:=λp=>by
    unfold tf at a0 ⊢;rw[<-a0];cases l.t with
    |none=>rfl
    |some t=>simp;omega
   let a5:∀p,tf ((l.f,l.m+r.m,l.r,l.t):Rn) p=tf l p:=λp=>rfl;show(?_,?_,?_,?_,?_,?_,?_,?_)
   .show CO (pQ D.ord) (CS (by change 0 < l.m+r.m;omega)) λx j y F=>?_;rw[bA.mp F];show a9 x j
   .show ue (b:=l) (rfl,rfl,rfl) D.lst
   .intro p;rw[cI,cI,<-D.pg p,cI];cases pm i p with
    |some x=>rfl
    |none=>
     change (if l.f<=p/\p < l.f+(l.m+r.m) then some (l.r,tf l p) else none)=((if l.f<=p/\p < bD l then some (l.r,tf l p) else none).or (if r.f<=p/\p < bD r then some (r.r,tf r p) else none));unfold bD at *;by_cases V:l.f<=p/\p < l.f+l.m
     .rw[iA V,iA ⋯];rfl
     .rw[gA V];by_cases W:r.f<=p/\p < r.f+r.m
      .rw[iA W,iA ⋯,Y,Z];rfl
      .rw[gA W,gA ⋯];rfl
   .intro b L;let(a,N,O):=D.hd b (a2 L);cases i with
    |nil=>
     cases N;show(_,rfl,O.1,O.2.1,O.2.2)
    |cons x i=>show(a,N,O)
   .intro b L;rw[LB] at L;cases L;show((l.f,l.m+r.m,l.r,l.t),by rw[LB],by change l.f+(l.m+r.m)=bD r;unfold bD at *; omega,Z,λp=>(a5 p).trans (Y p).symm)
   .intro J hz x j;let U:∀y∈c,J<=y.f:=λy F=>hz y (CA _ F);let j||j:=jA.mp j
    .show D.lo J U x (CA _ j)
    .rw[bA.mp j];show D.lo J U l (by simp)
   .intro J hz x j;let U:∀y∈c,bD y<=J:=λy F=>hz y (CA _ F);let j||j:=jA.mp j
    .show D.hi J U x (CA _ j)
    .rw[bA.mp j];have:=hz r (by simp);change l.f+(l.m+r.m)<=J;unfold bD at *;omega
   .intro h;simp at h
  |false=>
   rw[gA zA];show(?_,?_,?_,?_,?_,?_,?_,?_)
   .show CO D.ord (CS a4) λx j y F=>?_;rw[bA.mp F];show D.hi r.f a1 x j
   .show AS D.lst True.intro λa b N L=>?_;rw[LB] at N;cases N;cases L;show g
   .intro p;rw[cI,cI (rs:=c),D.pg p]
   .intro b L;let(a,N,O):=D.hd b (a2 L);show(a,?_,O);rw[List.head?_append,N];rfl
   .intro b L;rw[LB] at L;cases L;show(_,by rw[LB],rfl,rfl,λο=>rfl)
   .intro J hz x j;let j||j:=jA.mp j
    .show D.lo J (λy F=>hz y (CA _ F)) x j
    .show hz x (uA _ j)
   .intro J hz x j;let j||j:=jA.mp j
    .show D.hi J (λy F=>hz y (CA _ F)) x j
    .show hz x (uA _ j)
   .intro h;simp at h
theorem Jn.fold:∀{rs c acc:!Rn},Jn c acc->jD (c++rs)->Jn (c++rs) (rs.foldl IE acc)
 |[],c,acc,J,_=>by rw[MB];show J
 |r::rs,c,acc,J,o=>by
  let e:c++r::rs=(c++[r])++rs:=by simp
  rw[e] at o ⊢;show Jn.fold (J.step (pQ o)) o
theorem qQ {rs:!Rn} (o:jD rs):Jn rs (jn rs):=by
 have:=Jn.fold (rs:=rs) (c:=[]) (acc:=[]) (⟨by simp,λο h=>by simp at h⟩,True.intro,λο=>rfl,λο h=>by simp at h,λο h=>by simp at h,λο ο ο h=>by simp at h,λο ο ο h=>by simp at h,λο=>rfl) o;show this
theorem kW {rs:!Rn} (o:jD rs) (p:Int):∃A F,rs=A++F/\pb rs p=A.length/\(∀x∈A,bD x<=p)/\(∀x∈F,p < bD x):=by
 show(rs.takeWhile λr=>decide (bD r<=p),rs.dropWhile λr=>decide (bD r<=p),(List.takeWhile_append_dropWhile).symm,rfl,λx j=>?_,λx j=>?_)
 .induction rs with
  |nil=>cases j
  |cons y rs D=>
   rw[List.takeWhile_cons] at j;by_cases c:bD y<=p
   .rw[qA c] at j;simp only[if_true] at j;let rfl||j:=pA.mp j
    .show c
    .show D o.tail j
   .rw[HA c] at j;simp at j
 .induction rs with
  |nil=>cases j
  |cons y rs D=>
   rw[List.dropWhile_cons] at j;by_cases c:bD y<=p
   .rw[qA c] at j;simp only[if_true] at j;show D o.tail j
   .rw[HA c] at j;simp only[SA,HB] at j;let rfl||j:=pA.mp j
    .omega
    .let h1:=o.head x j;let h2:=o.2 x (kA _ j);unfold bD at *;omega
theorem we {rs:!Rn} (o:jD rs) {p q:Int} (h:p<=q):∃A M j,rs=A++M++j/\pb rs p=A.length/\pb rs q=A.length+M.length/\(∀x∈A,bD x<=p)/\(∀x∈M,p < bD x/\bD x<=q)/\(∀x∈j,q < bD x):=by
 let(A,R1,D,h1,h2,N):=kW o p;let(M,j,J,L,O,U):=kW (rs:=R1) (by rw[D] at o;show DJ o) q;show(A,M,j,by rw[D,J,ZA],h1,?_,h2,λx F=>⟨N x (by rw[J];show CA _ F),O x F⟩,U);have:pb rs q=A.length+pb R1 q:=by
  rw[D];clear D h1 J L o
  induction A with
  |nil=>simp
  |cons y A V=>
   let W:=h2 y cA;unfold pb at *;rw[List.cons_append,List.takeWhile_cons,qA ⋯];simp only[if_true,gB];rw[V λx F=>h2 x (kA _ F)];omega
 rw[this,L]
theorem ye {A M j:!Rn} {n m:Nat} (F:n=A.length) (D:m=A.length+M.length+1):bF (A++M++j) n m=M++j.take 1:=by
 unfold bF;rw[F,D,ZA,List.take_append,uC ⋯,List.drop_append,List.drop_length,Nat.sub_self,List.drop_zero,List.nil_append,
  List.take_append,uC ⋯]
 congr 2;omega
theorem xp {A M j:!Rn} {m:Nat} (D:m=A.length+M.length+1):(A++M++j).drop m=j.drop 1:=by
 rw[D,<-xA,List.drop_append,List.drop_eq_nil_of_le ⋯,List.nil_append];congr 1;omega
theorem lW {r:Rn} {a:Int} (h1:a<=bD r):WE r r.f a=(r.f,a - r.f,r.r,r.t):=by
 unfold WE;rw[Int.max_self,Int.min_eq_right h1,eW]
theorem ze {a p:Int}:∀{N:!Rn},(∀x∈N,a<=bD x)->pm ((N.filter λr=>decide (r.f < a)).map λr=>WE r r.f a) p=if p < a then pm N p else none
 |[],_=>by simp[pm]
 |x::N,h=>by
  let ih:=ze (p:=p) (N:=N) λy hy=>h y (kA _ hy);let hx:=h x cA;rw[mB];by_cases c:x.f < a
  .rw[qA c];simp only[if_true,rA];rw[lW hx];change (if x.f<=p/\p < x.f+(a - x.f) then some (x.r,tf (x.f,a - x.f,x.r,x.t) p) else pm _ p)=if p < a then (if x.f<=p/\p < bD x then some (x.r,tf x p) else pm N p) else none
   rw[ih];let et:tf (x.f,a - x.f,x.r,x.t) p=tf x p:=rfl;rw[et];by_cases c2:p < a
   .rw[iA c2,iA c2];by_cases c3:x.f<=p
    .rw[iA ⋯,iA ⋯]
    .rw[gA ⋯,gA ⋯]
   .rw[gA c2,gA c2,gA ⋯]
  .rw[HA c];simp only[SA,HB];rw[ih];change _=if p < a then (if x.f<=p/\p < bD x then some (x.r,tf x p) else pm N p) else none
   by_cases c2:p < a
   .rw[iA c2,iA c2,gA ⋯]
   .rw[gA c2,gA c2]
theorem Pe {e p:Int}:∀{N:!Rn},pm ((N.filter λr=>decide (GT.gt (bD r) e)).map λr=>WE r e (bD r)) p=if e<=p then pm N p else none
 |[]=>by simp[pm]
 |x::N=>by
  let ih:=Pe (e:=e) (p:=p) (N:=N);rw[mB];by_cases c:GT.gt (bD x) e
  .rw[qA c];simp only[if_true,rA];change (if max x.f e<=p/\p < max x.f e+(min (bD x) (bD x) - max x.f e) then some (x.r,tf (_,_,_,tf x (max x.f e)) p) else pm _ p)=if e<=p then (if x.f<=p/\p < bD x then some (x.r,tf x p) else pm N p) else none
   rw[ih,fW,Int.min_self];by_cases c2:e<=p
   .rw[iA c2,iA c2];by_cases c3:x.f<=p/\p < bD x
    .rw[iA c3,iA ⋯]
    .rw[gA c3,gA ⋯]
   .rw[gA c2,gA c2,gA ⋯]
  .rw[HA c];simp only[SA,HB];rw[ih];change _=if e<=p then (if x.f<=p/\p < bD x then some (x.r,tf x p) else pm N p) else none
   by_cases c2:e<=p
   .rw[iA c2,iA c2,gA ⋯]
   .rw[gA c2,gA c2]
theorem mW {N:!Rn} {q:Rn->Bool} {g:Rn->Rn} (o:jD N) (h1:∀x∈N,q x=true->0 < (g x).m) (h2:∀x∈N,∀y∈N,q x=true->q y=true->bD x<=y.f->bD (g x)<=(g y).f):jD ((N.filter q).map g):=by
 show⟨?_,λr J=>?_⟩
 .rw[CB];let F:((N.filter q)).Pairwise λa b=>bD a<=b.f:=o.1.filter q;show List.Pairwise.imp_of_mem (λ{x y} j D h=>?_) F;let j:=DA.mp j;let D:=DA.mp D;show h2 x j.1 y D.1 j.2 D.2 h
 .let(x,j,rfl):=aA.mp J;let j:=DA.mp j;show h1 x j.1 j.2
theorem Qe {rs parts:!Rn} {a n:Int} (o:jD rs) (l:dE rs) (cx:0 < n) (ca:jD parts) (Y:∀x∈parts,a<=x.f/\bD x<=a+n):
  jD (uE rs a n parts)/\dE (uE rs a n parts)/\∀p,pm (uE rs a n parts) p=if a<=p/\p < a+n then pm parts p else pm rs p:=by
 let(A,M,L,e,h1,h2,ac,bt,al):=we o (p:=a - 1) (q:=a+n) ⋯;let be:bF rs (pb rs (a - 1)) (pb rs (a+n)+1)=M++L.take 1:=by
  rw[h1,h2]
  conv=>lhs;rw[e]
  show ye rfl rfl
 let bd:rs.drop (pb rs (a+n)+1)=L.drop 1:=by
  rw[h2]
  conv=>lhs;rw[e]
  show xp rfl
 let bc:rs.take (pb rs (a - 1))=A:=by rw[h1];conv=>lhs;rw[e,ZA,List.take_left]
 unfold uE;rw[be,bd,bc];let am:L=L.take 1++L.drop 1:=(List.take_append_drop 1 L).symm;let o3:jD (A++((M++L.take 1)++L.drop 1)):=by rw[ZA M,<-am,<-ZA,<-e];show o
 let a9:dE (A++((M++L.take 1)++L.drop 1)):=by rw[ZA M,<-am,<-ZA,<-e];show l
 let a1:∀x∈M++L.take 1,a<=bD x:=λx j=>by
  let j||j:=jA.mp j
  .have:=bt x j;omega
  .have:=al x (List.mem_of_mem_take j);omega
 let ad:∀x∈L.drop 1,a+n < x.f:=λx j=>by
  cases L with
  |nil=>cases j
  |cons D B=>
   let bl:bD D<=x.f:=(DJ (DJ o3)) |> λο=>by
    let b1:=dN (DJ o3) D (by simp) x j;show b1
   have:=al D cA;omega
 let hz:L.drop 1≠[]->∃D,(M++L.take 1).getLast?>D/\a+n < bD D:=λh=>by
  cases L with
  |nil=>show absurd rfl h
  |cons D B=>show(D,by simp,al D cA)
 let a5:jD (M++L.take 1):=pQ (DJ o3);let c6:jD (L.drop 1):=DJ (DJ o3);let c5:jD A:=pQ o3;let ep:∀p,pm rs p=(pm A p).or ((pm (M++L.take 1) p).or (pm (L.drop 1) p)):=λp=>by
  rw[<-cI,<-cI,ZA M,<-am,<-ZA,<-e]
 generalize cw:M++L.take 1=N at *;generalize L.drop 1=B at *;let c8:jD ((N.filter λr=>decide (r.f < a)).map λr=>WE r r.f a):=mW a5 (λx j c=>by
   let c:x.f < a:=by simpa using c
   rw[lW (a1 x j)];change 0 < a - x.f;omega) λx j y F ab W h=>by
  let W:y.f < a:=by simpa using W
  have:=a1 x j;omega
 let c9:jD ((N.filter λr=>decide (GT.gt (bD r) (a+n))).map λr=>WE r (a+n) (bD r)):=mW a5 (λx j c=>by
   let c:GT.gt (bD x) (a+n):=by simpa using c
   have:=a5.2 x j;change 0 < min (bD x) (bD x) - max x.f (a+n);rw[Int.min_self];unfold bD at *;omega) λx j y F ab W h=>by
  let ab:GT.gt (bD x) (a+n):=by simpa using ab
  have:=a5.2 x j;change max x.f (a+n)+(min (bD x) (bD x) - max x.f (a+n))<=max y.f (a+n);rw[Int.min_self];omega
 let a0:∀x∈(N.filter λr=>decide (r.f < a)).map λr=>WE r r.f a,bD x=a/\∃y∈N,y.f < a/\zS x y:=λx j=>by
  let(y,F,rfl):=aA.mp j;let F:=DA.mp F;let c:y.f < a:=by simpa using F.2
  rw[lW (a1 y F.1)];show(by change y.f+(a - y.f)=a;omega,y,F.1,c,rfl,rfl,rfl)
 let a6:∀x∈(N.filter λr=>decide (GT.gt (bD r) (a+n))).map λr=>WE r (a+n) (bD r),a+n<=x.f/\∃y∈N,bD x=bD y:=λx j=>by
  let(y,F,rfl):=aA.mp j;let F:=DA.mp F;show(by change a+n<=max y.f (a+n);omega,y,F.1,?_);change max y.f (a+n)+(min (bD y) (bD y) - max y.f (a+n))=bD y;rw[Int.min_self];omega
 generalize bm:(N.filter λr=>decide (r.f < a)).map (λr=>WE r r.f a)=ah at *;generalize b2:(N.filter λr=>decide (GT.gt (bD r) (a+n))).map (λr=>WE r (a+n) (bD r))=bh at *;let c7:jD (ah++parts++bh):=by
  show CO (CO c8 ca λx j y F=>?_) c9 λx j y F=>?_
  .have:=(a0 x j).1;have:=(Y y F).1;omega
  .let bl:=(a6 y F).1;let j||j:=jA.mp j
   .have:=(a0 x j).1;omega
   .have:=(Y x j).2;omega
 let O:=qQ c7;let c0:∀x∈jn (ah++parts++bh),∀y∈B,bD x<=y.f:=λx j y F=>by
  show O.hi y.f (λw J=>?_) x j;let J||J:=jA.mp J
  .let J||J:=jA.mp J
   .have:=(a0 w J).1;have:=ad y F;omega
   .have:=(Y w J).2;have:=ad y F;omega
  .let(D,Z,a4):=(a6 w J).2;rw[a4];show dN (DJ o3) D Z y F
 let bn:∀x∈A,∀y∈jn (ah++parts++bh),bD x<=y.f:=λx j y F=>by
  show O.lo (bD x) (λw J=>?_) y F;let d3:=ac x j;let J||J:=jA.mp J
  .let J||J:=jA.mp J
   .let(D,Z,_,a4):=(a0 w J).2;rw[a4.1];show dN o3 x j D (CA _ Z)
   .have:=(Y w J).1;omega
  .have:=(a6 w J).1;omega
 show(?_,?_,?_)
 .show CO (CO c5 O.ord bn) c6 λx j y F=>?_;let j||j:=jA.mp j
  .show dN o3 x j y (uA _ F)
  .show c0 x j y F
 .let c2:dE A:=qe a9;let c4:dE B:=BS (BS a9);let c3:dE (A++jn (ah++parts++bh)):=AS c2 O.lst λu v a3 V=>by
   cases U:(ah++parts++bh).head? with
   |none=>
    let U:=List.head?_eq_none_iff.mp U;rw[U,show jn []=[] from rfl] at V;cases V
   |some w=>
    let(dl,b3,ch):=O.hd w U;rw[V] at b3;cases b3;rw[iW ch];let d2:=ac u (List.mem_of_getLast? a3);by_cases b5:a<=w.f
    .unfold go;rw[HA ⋯];rfl
    .cases ah with
     |nil=>
      exfalso;let J:w∈parts++bh:=by
       rw[List.nil_append] at U;show List.mem_of_head? U
      let J||J:=jA.mp J
      .show b5 (Y w J).1
      .have:=(a6 w J).1;omega
     |cons b4 cs=>
      obtain rfl:b4=w:=by simpa using U
      let(y,F,dd,ck):=(a0 b4 cA).2;rw[iW ck];show jW a9 a3 ?_;rw[List.head?_append];cases N with
      |nil=>cases F
      |cons cm N=>
       let rfl||F:=pA.mp F
       .rfl
       .let b1:=a5.head y F;let cv:=a1 cm cA;omega
  show AS c3 c4 λu v a3 V=>?_;let bo:B≠[]:=λD=>by rw[D] at V;cases V
  let(D,Z,a4):=hz bo;let(co,rfl):=DS Z;let c1:(ah++parts++bh).getLast?>(WE D (a+n) (bD D)):=by
   rw[<-b2,WB,nA];have:([D].filter λr=>decide (GT.gt (bD r) (a+n)))=[D]:=by rw[mB,qA a4];rfl
   rw[this,<-ZA,rA,EB,LB]
  let(cl,b0,cd):=O.ls _ c1;let d1:jn (ah++parts++bh)≠[]:=λD=>by rw[D] at b0;cases b0
  rw[List.getLast?_append,b0] at a3;obtain rfl:cl=u:=by simpa using a3
  rw[jL cd];let sz:gW (WE D (a+n) (bD D)) D:=by
   show(?_,rfl,λp=>?_)
   .change max D.f (a+n)+(min (bD D) (bD D) - max D.f (a+n))=bD D;rw[Int.min_self];omega
   .show fW
  rw[jL sz];show jW (BS a9) Z V
 .intro p;rw[cI,cI,O.pg,cI,cI,ep p];let b9:pm ah p=if p < a then pm N p else none:=by rw[<-bm];show ze a1
  let bb:pm bh p=if a+n<=p then pm N p else none:=by rw[<-b2];show Pe
  rw[b9,bb];by_cases c:a<=p/\p < a+n
  .rw[iA c,gA ⋯,gA ⋯,ie (rs:=A) λr a2=>by have:=ac r a2;omega,dW (rs:=B) λr a2=>by have:=ad r a2;omega];cases pm parts p<;>rfl
  .rw[gA c,yS (rs:=parts) λr a2 D=>by have:=Y r a2;omega];by_cases W:p < a
   .rw[iA W,gA ⋯];cases pm A p<;>cases pm N p<;>rfl
   .rw[gA W,iA ⋯];cases pm A p<;>cases pm N p<;>rfl
theorem Re {r:Rn} {a e:Int} (h1:a < bD r) (h2:r.f < e) (J:a < e) (h0:0 < r.m):a<=(WE r a e).f/\bD (WE r a e)<=e/\0 < (WE r a e).m:=by
 let j:(WE r a e).f=max r.f a:=rfl;let D:(WE r a e).m=min (bD r) e - max r.f a:=rfl;let F:bD (WE r a e)=max r.f a+(min (bD r) e - max r.f a):=rfl;rw[F,D,j];unfold bD at *;omega
theorem kL {a e p:Int}:∀{N:!Rn},(∀x∈N,0 < x.m)->pm ((N.filter λr=>decide (r.f < e)).map λr=>WE r a e) p=if a<=p/\p < e then pm N p else none
 |[],_=>by simp[pm]
 |x::N,h=>by
  let ih:=kL (a:=a) (e:=e) (p:=p) (N:=N) λy hy=>h y (kA _ hy);let hx:=h x cA;rw[mB];by_cases c:x.f < e
  .rw[qA c];simp only[if_true,rA];change (if max x.f a<=p/\p < max x.f a+(min (bD x) e - max x.f a) then some (x.r,tf (_,_,_,tf x (max x.f a)) p) else pm _ p)=if a<=p/\p < e then (if x.f<=p/\p < bD x then some (x.r,tf x p) else pm N p) else none
   rw[ih,fW];by_cases c2:a<=p/\p < e
   .rw[iA c2,iA c2];by_cases c3:x.f<=p/\p < bD x
    .rw[iA c3,iA ⋯]
    .rw[gA c3,gA ⋯]
   .rw[gA c2,gA c2,gA ⋯]
  .rw[HA c];simp only[SA,HB];rw[ih];change _=if a<=p/\p < e then (if x.f<=p/\p < bD x then some (x.r,tf x p) else pm N p) else none
   by_cases c2:a<=p/\p < e
   .rw[iA c2,iA c2,gA ⋯]
   .rw[gA c2,gA c2]
theorem nW {rs:!Rn} {a n:Int} (o:jD rs) (a5:0 < n):jD (gF rs a n)/\(∀x∈gF rs a n,a<=x.f/\bD x<=a+n)/\∀p,pm (gF rs a n) p=if a<=p/\p < a+n then pm rs p else none:=by
 let(A,M,D,e,h1,h2,Z,a1,U):=we o (p:=a) (q:=a+n) ⋯;let Y:bF rs (pb rs a) (pb rs (a+n)+1)=M++D.take 1:=by
  rw[h1,h2]
  conv=>lhs;rw[e]
  show ye rfl rfl
 unfold gF;rw[Y];let V:D=D.take 1++D.drop 1:=(List.take_append_drop 1 D).symm;let o3:jD (A++((M++D.take 1)++D.drop 1)):=by rw[ZA M,<-V,<-ZA,<-e];show o
 let O:∀x∈M++D.take 1,a < bD x:=λx j=>by
  let j||j:=jA.mp j
  .show (a1 x j).1
  .have:=U x (List.mem_of_mem_take j);omega
 let a0:∀x∈D.drop 1,a+n < x.f:=λx j=>by
  cases D with
  |nil=>cases j
  |cons W B=>
   let a4:=dN (DJ o3) W (by simp) x j;have:=U W cA;omega
 let J:jD (M++D.take 1):=pQ (DJ o3);let ep:∀p,pm rs p=(pm A p).or ((pm (M++D.take 1) p).or (pm (D.drop 1) p)):=λp=>by
  rw[<-cI,<-cI,ZA M,<-V,<-ZA,<-e]
 generalize M++D.take 1=N at *;generalize D.drop 1=B at *;show(mW J (λx j c=>?_) (λx j y F a2 a3 h=>?_),λx j=>?_,λp=>?_)
 .show (Re (O x j) (by simpa using c) ⋯ (J.2 x j)).2.2
 .change max x.f a+(min (bD x) (a+n) - max x.f a)<=max y.f a;omega
 .let(y,F,rfl):=aA.mp j;let F:=DA.mp F;have:=Re (O y F.1) (by simpa using F.2) (show a < a+n by omega) (J.2 y F.1);show⟨this.1,this.2.1⟩
 .rw[kL λx j=>J.2 x j,ep p];by_cases c:a<=p/\p < a+n
  .rw[iA c,iA c,ie (rs:=A) λr L=>by have:=Z r L;omega,dW (rs:=B) λr L=>by have:=a0 r L;omega];cases pm N p<;>rfl
  .rw[gA c,gA c]
theorem Se:∀{L:!Rn} {a e:Int},jD L->a<=e->(∀x∈L,a<=x.f/\bD x<=e)->0<=(L.map (·.m)).sum/\(L.map (·.m)).sum<=e - a/\((L.map (·.m)).sum=e - a↔∀p,a<=p->p < e->pm L p≠none)
 |[],a,e,_,h,_=>by
  show(by simp,by simp;omega,?_);constructor
  .intro h1 p h2 h3;simp at h1;omega
  .intro h1;simp;let h2||h2:=(by omega:a < e\/e<=a)
   .show absurd rfl (h1 a (QB _) h2)
   .omega
 |x::L,a,e,o,h,hb=>by
  let hx:=hb x cA;let pos:=o.2 x cA;let ih:=Se (L:=L) (a:=bD x) (e:=e) o.tail hx.2 λy hy=>⟨o.head y hy,(hb y (kA _ hy)).2⟩
  rw[rA,List.sum_cons];let ex:bD x=x.f+x.m:=rfl;show(⋯,⋯,?_);constructor
  .intro h1 p h2 h3;let h4:(L.map (·.m)).sum=e - bD x:=⋯;let h5:x.f=a:=⋯;change (if x.f<=p/\p < bD x then some (x.r,tf x p) else pm L p)≠none;by_cases c:p < bD x
   .rw[iA ⋯];show λz=>by cases z
   .rw[gA ⋯];show ih.2.2.mp h4 p ⋯ h3
  .intro h1;let h5:x.f=a:=by
    let h2||h2:=(by omega:a < x.f\/x.f<=a)
    .show absurd (dW (p:=a) (rs:=x::L) λr hr=>?_) (h1 a (QB _) ⋯);let rfl||hr:=pA.mp hr
     .show h2
     .have:=o.head r hr;omega
    .omega
   let h4:=ih.2.2.mpr λp h2 h3=>by
    have:=h1 p ⋯ h3;intro z;apply this;change (if x.f<=p/\p < bD x then some (x.r,tf x p) else pm L p)=none;rw[gA ⋯];show z
   omega
theorem yp {rs:!Rn} {a n:Int} (o:jD rs) (D:0 < n):((gF rs a n).map (·.m)).sum=n↔∀p,a<=p->p < a+n->pm rs p≠none:=by
 let(h1,h2,j):=nW (a:=a) o D;have:=(Se h1 (show a<=a+n by omega) h2).2.2;rw[show a+n - a=n by omega] at this;rw[this];show⟨λh p x y=>?_,λh p x y=>?_⟩
 .have:=h p x y;rw[j,iA ⟨x,y⟩] at this;show this
 .rw[j,iA ⟨x,y⟩];show h p x y
theorem Pp {rs:!Rn} {a n:Int} (o:jD rs) (J:0 < n):gF rs a n=[]↔∀p,a<=p->p < a+n->pm rs p=none:=by
 let(h1,h2,D):=nW (a:=a) o J;show⟨λh p x y=>?_,λh=>?_⟩
 .have:=D p;rw[h,iA ⟨x,y⟩] at this;show this.symm
 .cases e:gF rs a n with
  |nil=>rfl
  |cons j L=>
   rw[e] at h1 h2 D;let hz:=h2 j cA;let O:=h1.2 j cA;let N:bD j=j.f+j.m:=rfl;let F:=cN h1 (p:=j.f) cA (QB _) ⋯;rw[D,iA ⋯,h j.f hz.1 ⋯] at F;cases F
theorem Qp {rs:!Rn} {p:Int} (o:jD rs):(gF rs p 1=[]/\pm rs p=none)\/∃x,gF rs p 1=[x]/\pm rs p>(x.r,x.t):=by
 let(h1,h2,j):=nW (a:=p) o (show (0:Int) < 1 by decide);cases e:gF rs p 1 with
 |nil=>
  show .inl ⟨rfl,?_⟩;have:=j p;rw[e,iA ⋯] at this;show this.symm
 |cons x L=>
  rw[e] at h1 h2 j;let V:=h2 x cA;let W:=h1.2 x cA;let ex:bD x=x.f+x.m:=rfl;let D:L=[]:=by
   cases L with
   |nil=>rfl
   |cons y L=>
    let N:=h1.head y cA;let O:=h2 y (by simp);let U:=h1.2 y (by simp);let J:bD y=y.f+y.m:=rfl;omega
  subst D;show .inr (x,rfl,?_);have:=j p;rw[iA ⋯] at this;rw[<-this];let F:x.f=p:=⋯;change (if x.f<=p/\p < bD x then some (x.r,tf x p) else none)=_;rw[iA ⋯,<-F,eW]
theorem rQ {rs:!Rn} {p:Int}:pb rs p<=rs.length:=by unfold pb;show (List.takeWhile_prefix _).length_le
theorem sQ {rs:!Rn} (o:jD rs) {p:Int} {i:Nat} {x:Rn} (h:rs[i]?>x):i < pb rs p↔bD x<=p:=by
 let(A,D,e,h1,h2,j):=kW o p;rw[h1];rw[e] at h;constructor
 .intro hi;rw[List.getElem?_append_left hi] at h;show h2 x (QA h)
 .intro F;let hi||hi:=Nat.lt_or_ge i A.length
  .show hi
  .rw[KB hi] at h;have:=j x (QA h);omega
def YD (H:Hp) (v:V):Option (Int×Int)->Prop
 |none=>v=.non
 |some (b,k)=>∃a,v=.ref a/\H a>(.tup [.int b,.int k])
def ED (H:Hp) (v:V) (r:Rn):Prop:=∃a tv,v=.ref a/\H a>(.tup [.int r.f,.int r.m,.int r.r,tv])/\YD H tv r.t
theorem YD.same {H H':Hp} {v:V}:∀{t:Option (Int×Int)},YD H v t->OC H H'->YD H' v t
 |none,h,_=>h
 |some (b,k),⟨a,e,h⟩,s=>(a,e,s _ _ h)
theorem ED.same {H H':Hp} {v:V} {r:Rn} (h:ED H v r) (s:OC H H'):ED H' v r:=let ⟨a,tv,e,h1,h2⟩:=h;(a,tv,e,s _ _ h1,h2.same s)
theorem YD.same2 {H H':Hp} {a:Addr} {xs:!V} {o:HO} {v:V} (hx:H' a>(.lst xs)):∀{t:Option (Int×Int)},YD H' v t->YD (JC H' a o) v t
 |none,h=>h
 |some (b,k),⟨c,e,h⟩=>(c,e,by rw[WC (uD h hx λz=>nomatch z)];show h)
theorem ED.same2 {H H':Hp} {a:Addr} {xs:!V} {o:HO} {v:V} {r:Rn} (h:ED H' v r) (j:H' a>(.lst xs)) (_:OC H H'):ED (JC H' a o) v r:=
 let ⟨c,tv,e,h1,h2⟩:=h
 (c,tv,e,by rw[WC (uD h1 j λD=>nomatch D)];show h1,YD.same2 (H:=H) j h2)
abbrev TC (H:Hp):!V->!Rn->Prop:=Paired (ED H)
theorem TC.same {H H':Hp} {vs:!V} {rs:!Rn} (h:TC H vs rs) (s:OC H H'):TC H' vs rs:=Paired.mapP h λο ο q=>q.same s
theorem TC.same2 {H H':Hp} {a:Addr} {xs:!V} {o:HO} {vs:!V} {rs:!Rn} (h:TC H' vs rs) (j:H' a>(.lst xs)) (s:OC H H'):TC (JC H' a o) vs rs:=Paired.mapP h λο ο q=>q.same2 j s
theorem EJ {α β:Type} {F:α->β->Prop}:∀{xs:!α} {ys:!β} {i:Nat} {x:α},Paired F xs ys->xs[i]?>x->∃y,ys[i]?>y/\F x y
 |_,_,_,_,.nil,e=>by simp at e
 |_,_,0,_,.cons r _,e=>by simp at e;subst e;show(_,rfl,r)
 |_,_,i+1,x,.cons _ t,e=>by
  let(u,h1,h2):=EJ (i:=i) (x:=x) t (by simpa using e);show(u,by simpa using h1,h2)
theorem nJ {α β:Type} {F:α->β->Prop}:∀{xs:!α} {ys:!β} {zs:!α} {ws:!β},Paired F xs ys->Paired F zs ws->Paired F (xs++zs) (ys++ws)
 |_,_,_,_,.nil,h=>h
 |_,_,_,_,.cons r t,h=>.cons r (nJ t h)
theorem ES {α β:Type} {F:α->β->Prop}:∀{xs:!α} {ys:!β} (n:Nat),Paired F xs ys->Paired F (xs.take n) (ys.take n)
 |_,_,0,_=>.nil
 |_,_,_+1,.nil=>.nil
 |_,_,n+1,.cons r t=>.cons r (ES n t)
theorem FS {α β:Type} {F:α->β->Prop}:∀{xs:!α} {ys:!β} (n:Nat),Paired F xs ys->Paired F (xs.drop n) (ys.drop n)
 |_,_,0,h=>h
 |_,_,_+1,.nil=>.nil
 |_,_,n+1,.cons _ t=>FS n t
def DO (K:W.Frag):Sp:=λvs H Q ο=>∃v r,vs=[v]/\ED H v r/\Q (.int (bD r)) H
theorem tQ (T:JD K mg A):qE P w K mg base "end_of" 1 ["run"] [] (DO K):=by
 show T.Mc.have Zn (λvs H Q F j=>?_) ?_
 .let(v,r,rfl,_):=j;rfl
 .intro f L J U s H vs Q F N j;let(v,r,rfl,(a,V,rfl,D,O),q):=j;show(_,(gD (RD (jE KG (pE QE (GC 0) ZC (λο ο=>rfl)) (pE QE (GC 0) ZC (λο ο=>rfl))))),?_);rfl';show(_,HD.of D,_,rfl,_,HD.of D,_,rfl,_,rfl,_,rfl,q)
def GS (K:W.Frag):Sp:=λvs H Q ο=>∃v r p,vs=[v,.int p]/\ED H v r/\∀u H',OC H H'->YD H' u (tf r p)->Q u H'
theorem oW (T:JD K mg A):qE P w K mg base "tie_from" 1 ["run","page"] [] (GS K):=by
 show T.K1.have Tc (λvs H Q L D=>?_) ?_
 .let(v,r,p,rfl,_):=D;rfl
 .intro f W V Z s H vs Q L Y D;let(v,r,p,rfl,(a,U,rfl,F,j),q):=D;show(_,(fD (ZD (i:=2) Tc.nd rfl (Or.inl rfl) (pE QE (GC 0) ZC (λο ο=>rfl)))
   (fD (yE (dF KI (GC 2) IG (UC _)) (gD (RD IG)) FE)
   (gD (RD (lG (IC (pE QE (GC 2) ZC (λο ο=>rfl)) (IC (jE AJ (jE KG (pE QE (GC 2) ZC (λο ο=>rfl)) (GC 1)) (pE QE (GC 0) ZC (λο ο=>rfl))) MC))))))),?_)
  rfl';show(_,HD.of F,_,rfl,?_);cases e:r.t with
  |none=>
   rw[e] at j;let j:U=.non:=j;subst j;rw[iA rfl];show q _ _ mE ?_;unfold tf;rw[e]
   rfl
  |some t=>
   let(b,k):=t;rw[e] at j;let(c,rfl,J):=j;rw[gA nofun];rfl';show(_,HD.of J,_,rfl,_,HD.of J,_,rfl,_,rfl,_,HD.of F,_,rfl,_,rfl,λO N=>?_);show q _ _ (wE mE N) ?_;unfold tf;rw[e];show(O,rfl,nD)
def pW (K:W.Frag):Sp:=λvs H Q ο=>∃v r lo hi,vs=[v,.int lo,.int hi]/\ED H v r/\∀u H',OC H H'->ED H' u (WE r lo hi)->Q u H'
theorem Te (T:JD K mg A):qE P w K mg base "part_of" 2 ["run","low","high"] [] (pW K):=by
 let U:=@tQ P w K mg base A T;let V:=@oW P w K mg base A T;show T.Lh.have Uc (λvs H Q W D=>?_) ?_
 .let(v,r,lo,hi,rfl,_):=D;rfl
 .intro f a2 a0 a4 s H vs Q W N D;let(v,r,lo,hi,rfl,j,q):=D;let(a,a5,rfl,J,a3):=id j;show(_,(fD (ZD (i:=3) Uc.nd rfl (Or.inl rfl) (fG (jj rfl) rfl T.Nj PyProof.Rows.boot_max (IC (pE QE (GC 0) ZC (λο ο=>rfl)) (IC (GC 1) MC))))
   (gD (RD (lG (IC (GC 3) (IC (jE AJ (fG (kj rfl) rfl T.On PyProof.Rows.boot_min (IC (kE U (-N) qD (IC (GC 0) MC)) (IC (GC 2) MC))) (GC 3)) (IC (pE QE (GC 0) ZC (λο ο=>rfl)) (IC (kE V (-N) qD (IC (GC 0) (IC (GC 3) MC))) MC)))))))),?_)
  unfold DO GS;rfl';show(_,HD.of J,_,rfl,_,rfl,r,j,_,HD.of J,_,rfl,r,j,λu a1 Z O p L=>?_);let F:(if GT.gt lo r.f then lo else r.f)=max r.f lo:=by split<;>omega
  let Y:(if hi < bD r then hi else bD r)=min (bD r) hi:=by split<;>omega
  rw[F,Y];rw[F] at O;show q _ _ (wE Z L) (p,u,rfl,nD,?_);show O.same (wE mE L)
theorem Rp {H:Hp} {u v:V} {j t2:Option (Int×Int)} {Q:VK} (h1:YD H u j) (h2:YD H v t2) (q:Q (.bl (decide (j=t2))) H):bQ K 4 u v H Q:=by
 cases j with
 |none=>
  cases t2 with
  |none=>show .inl (h1,h2,q)
  |some t2=>
   let(b,k):=t2;let(a,e,h2):=h2;show .inr (.inl (h1,(a,_,e,HD.of h2),q))
 |some j=>
  let(b,k):=j;let(a,e,h1):=h1;cases t2 with
  |none=>show .inr (.inr (.inl ((a,_,e,HD.of h1),h2,q)))
  |some t2=>
   let(D,k2):=t2;let(J,F,h2):=h2;subst e F;show .inr (.inr (.inr (true,SD [b,k],SD [D,k2],ub (ns:=[b,k]) (HD.of h1),ub (ns:=[D,k2]) (HD.of h2),wb _ _,by rw[xb];decide,?_)));rw[yb];rw[show decide ([b,k]=[D,k2])=decide (some (b,k)>(D,k2)) from by rw[decide_eq_decide];simp];show q
def Ue (K:W.Frag):Sp:=λvs H Q ο=>∃v u r s,vs=[v,u]/\ED H v r/\ED H u s/\∀H',OC H H'->Q (.bl (go r s)) H'
theorem Tp (T:JD K mg A):qE P w K mg base "goes_on" 2 ["run","later"] [] (Ue K):=by
 let U:=@tQ P w K mg base A T;let W:=@oW P w K mg base A T;show T.Li.have ao (λvs H Q Y j=>?_) ?_
 .let(v,u,r,s,rfl,_):=j;rfl
 .intro f a6 a4 ab s H vs Q Y N j;let(v,u,r,s',rfl,L,Z,q):=j;let(a,ac,rfl,a0,a9):=id L;let(b,a3,rfl,J,a1):=id Z;show(_,(gD (RD (zJ (zI jI (kE U (-N) qD (IC (GC 0) MC)) (pE QE (GC 1) ZC (λο ο=>rfl)) (UC _)) (zJ (zI jI (pE QE (GC 0) ZC (λο ο=>rfl)) (pE QE (GC 1) ZC (λο ο=>rfl)) (UC _)) (tK (zI (GM (n:=4) (iS N)) (kE W (-N) qD (IC (GC 0) (IC (pE QE (GC 1) ZC (λο ο=>rfl)) MC))) (pE QE (GC 1) ZC (λο ο=>rfl)) (UC _))))))),?_);unfold DO GS;rfl';show(r,L,_,HD.of J,.int s'.f,rfl,rfl,?_);by_cases D:bD r=s'.f
  .rw[iA (by rw[D])];show(_,HD.of a0,.int r.r,rfl,_,HD.of J,.int s'.r,rfl,rfl,?_);by_cases F:r.r=s'.r
   .rw[iA (by rw[F])];show(_,HD.of J,_,rfl,r,_,rfl,L,λu a5 O a2=>(_,HD.of (O _ _ J),a3,rfl,Rp a2 (a1.same O) ?_));let e:go r s'=decide (tf r s'.f=s'.t):=by unfold go;rw[qA D,qA F,Bool.true_and,Bool.true_and]
    have:=q _ O;rw[e] at this;show this
   .rw[gA (λj=>F (V.int.inj j))];let e:go r s'=false:=by unfold go;rw[HA F,Bool.and_false,zC]
    have:=q _ mE;rw[e] at this;show this
  .rw[gA (λj=>D (V.int.inj j))];let e:go r s'=false:=by unfold go;rw[HA D,zC,zC]
   have:=q _ mE;rw[e] at this;show this
theorem Ve {α β:Type} {F:α->β->Prop} {y:β}:∀{ys:!β} {xs:!α},Paired F xs (ys++[y])->∃zs z,xs=zs++[z]/\Paired F zs ys/\F z y
 |[],_,.cons r .nil=>([],_,rfl,.nil,r)
 |_::_,_,.cons r t=>by
  let(zs,z,e,h1,h2):=Ve t;show(_::zs,z,by rw[e];rfl,.cons r h1,h2)
theorem qW:∀(l acc:!Rn),(l.foldl IE acc).length<=acc.length+l.length
 |[],acc=>vA _
 |r::l,acc=>by
  rw[List.foldl_cons];show FB (qW l _) ?_;have:(IE acc r).length<=acc.length+1:=by
   unfold IE;cases h:acc.getLast? with
   |none=>simp
   |some x=>
    simp only
    split
    .rw[xA,List.length_dropLast,IB];cases acc with
     |nil=>cases h
     |cons a acc=>simp
    .simp
  rw[gB];omega
theorem Vp {acc:!Rn} {l r:Rn} (h:go l r=false):IE (acc++[l]) r=acc++[l]++[r]:=by
 unfold IE;rw[LB];change (if go l r=true then _ else _)=_;rw[h];rfl
theorem Wp {acc:!Rn} {l r:Rn} (h:go l r=true):IE (acc++[l]) r=acc++[(l.f,l.m+r.m,l.r,l.t)]:=by
 unfold IE;rw[LB];change (if go l r=true then _ else _)=_;rw[iA h,List.dropLast_concat]
def We (K:W.Frag):Sp:=λvs H Q ο=>∃(a:Addr) (ws:!V) (rs:!Rn),vs=[.ref a]/\BD K H a ws/\TC H ws rs/\rs.length<=1000000/\∀t us H',OC H H'->H t=none->H' t>(.lst us)->TC H' us (jn rs)->Q (.ref t) H'
theorem Xp (T:JD K mg A):qE P w K mg base "joined" 3 ["runs"] [] (We K):=by
 let b5:=@Tp P w K mg base A T;show T.Md.have vS (λvs H Q b4 W=>?_) ?_
 .let(a,ac,rs,rfl,_):=W;rfl
 .intro f c1 bt c6 s H vs Q b4 bd W;let(a,ac,rs,rfl,am,ah,c5,q):=W;show(_,(fD (ZD (i:=1) vS.nd rfl (Or.inl rfl) (UJ MC))
   (fD (AI jB rfl (yI (GC 0)) (SF (i:=2) vS.nd rfl (Or.inl rfl)) (gD (yE (PW.pt (oO (dF gM (fG rO rfl T.Bj PySem.boot_len (IC (GC 1) MC)) ZC (UC _)) (nO (iH (kE b5 (-bd) qD (IC (pE uO (GC 1) (qP uM ZC) (λο ο=>rfl)) (IC (GC 2) MC))))))) (fD (ZD (i:=3) vS.nd rfl (Or.inl rfl) (lM PySem.F.plainAttrs_list PySem.F.slot_list_pop PySem.F.type_list_pop mM (GC 1)))
   (gD (vE (TR PySem.F.plainAttrs_list PySem.F.slot_list_append PySem.F.type_list_append UR (GC 1) (IC (lG (IC (pE QE (GC 3) ZC (λο ο=>rfl)) (IC (jE KG (pE QE (GC 3) ZC (λο ο=>rfl)) (pE QE (GC 2) ZC (λο ο=>rfl))) (IC (pE QE (GC 3) ZC (λο ο=>rfl)) (IC (pE QE (GC 3) ZC (λο ο=>rfl)) MC))))) MC))))) (gD (vE (TR PySem.F.plainAttrs_list PySem.F.slot_list_append PySem.F.type_list_append UR (GC 1) (IC (GC 2) MC)))))))
   (gD (RD (GC 1))))),?_)
  unfold Ue;rfl';intro t O;let b3:=wE (o:=.lst []) mE O;let bm:ac.length=rs.length:=Paired.length ah;show⟨⟨_,b3.seq am⟩,yM (xs:=ac) (λi a0 H'=>∃us a9 ab,a0=[↑a,↑t,a9,ab]/\OC H H'/\H' t>(.lst us)/\TC H' us ((rs.take i).foldl IE [])) ([],_,_,rfl,b3,nD,.nil) (λi a0 H' _ ad=>by let(_,_,_,ad):=ad;show ad.2.1.seq am) (λi x a0 H' hi=>?_) (λa0 H'=>?_)⟩
  .rintro⟨us,a9,ab,rfl,U,F,N⟩;let(r,b2,be):=EJ ah hi;let Z:=be.same U;let bh:rs.take (i+1)=rs.take i++[r]:=by rw[bB,b2];rfl
   let bl:us.length<=i:=by
    let h1:=Paired.length N;let h2:=qW (rs.take i) [];rw[cB] at h2;simp only[List.length_nil] at h2;omega
   let c4:i < rs.length:=(JA.mp b2).1;rw[bh,List.foldl_append,List.foldl_cons,List.foldl_nil];generalize (rs.take i).foldl IE []=acc at *;rfl';show(us.length,.inl (_,BD.of F,rfl),?_);rcases hacc:acc.getLast? with _|l
   .let b9:acc=[]:=List.getLast?_eq_none_iff.mp hacc;subst b9;cases N;rw[gA (show ¬(0:Int) < (([]:!V).length:Int) from λW=>absurd W (by decide))];show ND (.inl (rfl,_,BD.of F),_,F,by change 0 < 16777216;decide,BI U O,_,rfl,?_);show .cons (Z.same2 F U) .nil
   .let(c0,rfl):=DS hacc;let(D,y,rfl,al,a4):=Ve N;let bc:(0:Int) < ((D++[y]).length:Int):=by rw[xA,IB];omega
    rw[iA bc];show(_,BD.of F,y,?_,l,a4,r,Z,λa1 J=>?_)
    .unfold VH MI;rw[gA (by decide),iA (by rw[xA,IB];omega)];change (D++[y])[(-1+((D++[y]).length:Int)).toNat]?>y;rw[xA,IB,show (-1+((D.length+1:Nat):Int)).toNat=D.length by omega,KB (vA _),Nat.sub_self]
     rfl
    let j:=J _ _ F;let L:=U.trans J;cases b1:go l r with
    |true=>
     show WD (.inl (rfl,_,BD.of j),_,j,y,by rw[xA,IB,Nat.add_sub_cancel,KB (vA _),Nat.sub_self];rfl,?_);rw[List.dropLast_concat];let bo:ED (JC a1 t (.lst D)) y l:=(a4.same J).same2 j L;let bn:ED (JC a1 t (.lst D)) x r:=(Z.same J).same2 j L;let(c,a2,rfl,Y,bb):=id bo;let(d,c2,rfl,hd,c3):=id bn;rfl';show(.inl (rfl,_,BD.of nD),_,HD.of Y,_,rfl,_,HD.of Y,_,rfl,_,HD.of hd,_,rfl,_,rfl,_,rfl,_,HD.of Y,_,rfl,_,HD.of Y,_,rfl,λe b0=>?_);let a5:=wE (o:=.tup [V.int l.f,V.int (l.m+r.m),V.int l.r,a2]) mE b0;let a3:=a5 _ _ (nD (H:=a1) (a:=t) (o:=.lst D));let a6:=wE (o:=.tup [V.int l.f,V.int (l.m+r.m),V.int l.r,a2]) (BI (o:=.lst D) L O) b0;show(D,a3,by rw[xA,IB] at bl;omega,BI a6 O,_,rfl,?_);rw[Wp b1];show nJ (TC.same2 (TC.same (TC.same2 (TC.same al J) j L) a5) a3 a6) (.cons ?_ .nil);show ED.same2 ((e,a2,rfl,nD,bb.same a5):ED _ (.ref e) (l.f,l.m+r.m,l.r,l.t)) a3 a6
    |false=>
     show ND (.inl (rfl,_,BD.of j),_,j,by rw[xA,IB] at *; omega,BI L O,_,rfl,?_);rw[Vp b1];show nJ (nJ (TC.same2 (TC.same al J) j L) (.cons ((a4.same J).same2 j L) .nil)) (.cons ((Z.same J).same2 j L) .nil)
  .rintro⟨us,a9,ab,rfl,U,F,N⟩;rfl';rw[bm,iB] at N;show q _ _ _ U O F N
def AH (a:Addr):!(Str×V):=QC "runs" (.ref a) []
theorem lL {a:Addr}:(AH a).lookup ("runs":Str)=↑a:=by rfl
theorem tG {a:Addr} {m:Str} (h:¬m∈(["runs"]:!Str)):(AH a).lookup m=none:=by
 simp only[pA,WA,BC] at h;unfold AH;simp only[sO,h,HB]
 rfl
def rE (C:Addr) (H:Hp) (p a:Addr) (rs:!Rn):Prop:=∃dx vs,H p>(.ins C dx (AH a))/\H a>(.lst vs)/\TC H vs rs
theorem rE.same {C:Addr} {H H':Hp} {p a:Addr} {rs:!Rn} (h:rE C H p a rs) (s:OC H H'):rE C H' p a rs:=let ⟨dx,vs,h1,h2,h3⟩:=h;(dx,vs,s _ _ h1,s _ _ h2,TC.same h3 s)
def rW (K:W.Frag) (C:Addr):Sp:=λvs H Q ο=>∃(p a:Addr) (rs:!Rn) (x:Int),vs=[.ref p,.int x]/\rE C H p a rs/\jD rs/\rs.length<=1000000/\Q (.int (pb rs x)) H
theorem Xe (T:JD K mg A):YC P w K mg base A.Aa "place_behind" 2 ["self","page"] [] (rW K A.Aa):=by
 let W:=@tQ P w K mg base A T;show T.Cf.have AO (λvs H Q Y j=>?_) ?_
 .let(p,a,rs,x,rfl,_):=j;rfl
 .intro f a9 a6 ac s H vs Q Y a2 j;let(p,a,rs,x,rfl,(Z,vs,h1,h2,F),ho,ab,q):=j;show(_,(fD (ZD (i:=2) AO.nd rfl (Or.inl rfl) ZC)
   (fD (ZD (i:=3) AO.nd rfl (Or.inl rfl) (fG rO rfl T.Bj PySem.boot_len (IC (MD (GC 0) rfl) MC)))
   (fD (Pb jB (dF fM (GC 2) (GC 3) (UC _)) (fD (ZD (i:=4) AO.nd rfl (Or.inl rfl) (jE o9 (jE KG (GC 2) (GC 3)) ZC))
   (gD (yE (dF gM (kE W (-a2) qD (IC (pE uO (MD (GC 0) rfl) (GC 4) (λο ο=>rfl)) MC)) (GC 1) (UC _)) (gD (ZD (i:=3) AO.nd rfl (Or.inl rfl) (GC 4))) (gD (ZD (i:=2) AO.nd rfl (Or.inl rfl) (jE KG (GC 4) ZC)))))))
   (gD (RD (GC 2)))))),?_)
  let a5:vs.length=rs.length:=Paired.length F;unfold DO;rfl';simp only[h1];rfl';show(T.Ag,T.Ak,_,lL,vs.length,.inl (_,BD.of h2,rfl),?_);show Qb (λN U H'=>∃(lo hi:Nat) (O:Option V),N=hi - lo/\U=[↑p,some (.int x),some (.int lo),some (.int hi),O]/\H'=H/\lo<=pb rs x/\pb rs x<=hi/\hi<=rs.length) vs.length (0,vs.length,_,rfl,rfl,rfl,Nat.zero_le _,by rw[a5];show rQ,⋯) (λN U H'=>?_);rintro⟨lo,hi,O,rfl,rfl,rfl,k1,k2,k3⟩;rfl';by_cases c:(lo:Int) < (hi:Int)
  .rw[iA c];show SK ?_;rfl';let J:(lo+hi) / 2 < vs.length:=⋯;let(r,a3,a4):=EJ F (GA J);let a1:=iM (GA J);let a0:((lo:Int)+(hi:Int)) / 2=(((lo+hi) / 2:Nat):Int):=⋯;let L:=sQ ho (p:=x) a3;rw[a0];show(_,Z,_,h1,T.Ag,T.Ak,_,lL,a,rfl,_,BD.of h2,_,a1,r,a4,?_);by_cases D:x < bD r
   .rw[iA D];have:¬(lo+hi) / 2 < pb rs x:=λj=>by have:=L.mp j;omega
    show((lo+hi) / 2 - lo,⋯,lo,(lo+hi) / 2,?_)
    first
     |exact⟨rfl,rfl,rfl,k1,⋯,⋯⟩
     |exact⟨rfl,k1,⋯,⋯⟩
     |(trace_state;show⟨rfl,rfl,k1,⋯,⋯⟩)
   .rw[gA D];have:(lo+hi) / 2 < pb rs x:=L.mpr ⋯;show(hi - ((lo+hi) / 2+1),⋯,(lo+hi) / 2+1,hi,?_)
    first
     |exact⟨rfl,rfl,rfl,⋯,k2,k3⟩
     |exact⟨rfl,⋯,k2,k3⟩
     |(trace_state;show⟨rfl,⋯,rfl,⋯,k2,k3⟩)
  .rw[gA c];let e:pb rs x=lo:=⋯;rw[e] at q;show q
theorem sW {xs:!V} {lo hi:Nat}:rF xs (some (lo:Int)) (some (hi:Int))=(xs.take hi).drop lo:=by
 unfold rF;change (xs.drop (if (lo:Int) < 0 then ((lo:Int)+(xs.length:Int)).toNat else min (lo:Int).toNat xs.length)).take ((if (hi:Int) < 0 then ((hi:Int)+(xs.length:Int)).toNat else min (hi:Int).toNat xs.length) - (if (lo:Int) < 0 then ((lo:Int)+(xs.length:Int)).toNat else min (lo:Int).toNat xs.length))=_;rw[gA ⋯,gA ⋯,SB,SB,List.drop_take];show List.ext_getElem? λk=>?_;rw[List.getElem?_take,List.getElem?_take,List.getElem?_drop,List.getElem?_drop];by_cases h1:k < hi - lo
 .rw[iA h1];by_cases h2:k < min hi xs.length - min lo xs.length
  .rw[iA h2,Nat.min_eq_left ⋯]
  .rw[gA h2,List.getElem?_eq_none_iff.mpr ⋯]
 .rw[gA h1];by_cases h2:k < min hi xs.length - min lo xs.length
  .rw[iA h2,List.getElem?_eq_none_iff.mpr ⋯]
  .rw[gA h2]
theorem Yp {xs:!V} {hi:Nat}:rF xs none (some (hi:Int))=xs.take hi:=by
 unfold rF;change (xs.drop 0).take ((if (hi:Int) < 0 then ((hi:Int)+(xs.length:Int)).toNat else min (hi:Int).toNat xs.length) - 0)=_;rw[gA ⋯,SB,List.drop_zero,Nat.sub_zero];let h||h:=Nat.le_total hi xs.length
 .rw[Nat.min_eq_left h]
 .rw[Nat.min_eq_right h,iB,uC h]
theorem Zp {xs:!V} {lo:Nat}:rF xs (some (lo:Int)) none=xs.drop lo:=by
 unfold rF;change (xs.drop (if (lo:Int) < 0 then ((lo:Int)+(xs.length:Int)).toNat else min (lo:Int).toNat xs.length)).take (xs.length - (if (lo:Int) < 0 then ((lo:Int)+(xs.length:Int)).toNat else min (lo:Int).toNat xs.length))=_;rw[gA ⋯,SB];let h||h:=Nat.le_total lo xs.length
 .rw[Nat.min_eq_left h];show uC (by rw[wC];omega)
 .rw[Nat.min_eq_right h,Nat.sub_self,List.take_zero,List.drop_eq_nil_of_le h]
def HS (K:W.Frag) (C:Addr):Sp:=λvs H Q ο=>∃(p a:Addr) (rs:!Rn) (x n:Int),vs=[.ref p,.int x,.int n]/\rE C H p a rs/\jD rs/\rs.length<=1000000/\∀t us H',OC H H'->H t=none->H' t>(.lst us)->TC H' us (gF rs x n)->Q (.ref t) H'
theorem tW (T:JD K mg A):YC P w K mg base A.Aa "parts_amid" 4 ["self","first","many"] [] (HS K A.Aa):=by
 let ac:=@Te P w K mg base A T;let a4:=@Xe P w K mg base A T;show T.Cm.have QU (λvs H Q ad a2=>?_) ?_
 .let(p,a,rs,x,n,rfl,_):=a2;rfl
 .intro f bl bh c2 s H vs Q ad Z a2;let(p,a,rs,x,n,rfl,Y,ho,a5,q):=a2;let(bn,vs,h1,h2,al):=id Y;show(_,(fD (ZD (i:=3) QU.nd rfl (Or.inr rfl) (jE KG (GC 1) (GC 2)))
   (fD (ZD (i:=4) QU.nd rfl (Or.inl rfl) (zP FP (MD (GC 0) rfl) (EK (VD (GC 0) T.Ag a4 (-Z) qD (IC (GC 1) MC))) (EK (jE KG (VD (GC 0) T.Ag a4 (-Z) qD (IC (GC 3) MC)) ZC))))
   (gD (RD (PK rfl (yI (GC 4)) (x:="run") (fs:=["first","end"]) (ix:=[1,3]) rfl rfl (λο ο ο ο ο ο=>(SF (i:=0) (show (["run","first","end"]:!Str).Nodup by decide+kernel) rfl (Or.inl rfl))) (λο ο ο ο ο ο=>(jS (dF fM (pE (cQ (K:=K) rfl) (GC 0) ZC (λο ο=>rfl)) (GC 2) (UC _)))) (λο ο ο ο ο ο=>(kE ac (-Z) DM (IC (GC 0) (IC (GC 1) (IC (GC 2) MC)))))))))),?_)
  unfold pW rW;rfl';simp only[h1];rfl';show(T.Ag,T.Ak,_,lL,tG ∅,a,rs,Y,ho,a5,tG ∅,a,rs,Y,ho,a5,?_);show(a,rfl,_,BD.of h2,λsl b4=>⟨⟨_,BD.of nD⟩,?_⟩);let ah:rF vs (some ((pb rs x:Nat):Int)) (some (((pb rs (x+n):Nat):Int)+1))=(vs.take (pb rs (x+n)+1)).drop (pb rs x):=sW (hi:=pb rs (x+n)+1);rw[ah];let a6:TC H ((vs.take (pb rs (x+n)+1)).drop (pb rs x)) (bF rs (pb rs x) (pb rs (x+n)+1)):=FS _ (ES _ al);let bd:∀t us H',OC H H'->H t=none->H' t>(.lst us)->TC H' us (((bF rs (pb rs x) (pb rs (x+n)+1)).filter λr=>decide (r.f < x+n)).map λr=>WE r x (x+n))->Q (.ref t) H':=q;let c0:(bF rs (pb rs x) (pb rs (x+n)+1)).length<=1000000:=by
   unfold bF;rw[wC,cB];omega
  generalize (vs.take (pb rs (x+n)+1)).drop (pb rs x)=nv at *;generalize bF rs (pb rs x) (pb rs (x+n)+1)=near at *;intro D V;let a0:=wE (o:=.lst nv) mE b4;let b2:nv.length=near.length:=Paired.length a6;show aQ (xs:=nv) (λi ys O H'=>∃v,O=[v,some (.int x),some (.int (x+n))]/\OC (JC H sl (.lst nv)) H'/\H' D>(.lst ys)/\TC H' ys (((near.take i).filter λr=>decide (r.f < x+n)).map λr=>WE r x (x+n))) (_,rfl,wE mE V,nD,.nil) (λi ys O H' _ a3=>by let(_,a3):=a3;show BD.of (a3.2.1 _ _ nD)) (λi v ys O H' hi=>?_) (λys O H'=>?_)
  .rintro⟨be,rfl,F,N,j⟩;let(r,a9,b3):=EJ a6 hi;let ab:=b3.same (a0.trans F);let b5:near.take (i+1)=near.take i++[r]:=by rw[bB,a9];rfl
   let bt:i < near.length:=(JA.mp a9).1;let c1:ys.length<=i:=by
    let am:=Paired.length j;rw[dA] at am;let b0:=qB (λr:Rn=>decide (r.f < x+n)) (near.take i);rw[cB] at b0;omega
   rw[b5,WB,nA];let(c,bm,rfl,b1,bo):=id ab;rfl';show(_,HD.of b1,_,rfl,_,rfl,?_);by_cases L:r.f < x+n
   .rw[iA L];show(r,ab,λu J a1 b9=>?_);let W:=a1 _ _ N;let bb:ED (JC J D (.lst (ys++[u]))) u (WE r x (x+n)):=ED.same2 (H:=J) b9 W mE;let bc:TC (JC J D (.lst (ys++[u]))) ys (((near.take i).filter λr=>decide (r.f < x+n)).map λr=>WE r x (x+n)):=TC.same2 (H:=J) (TC.same j a1) W mE;show(W,⋯,BI (F.trans a1) V,?_);let U:[r].filter (λr=>decide (r.f < x+n))=[r]:=by rw[mB,qA L];rfl
    rw[U];show nJ bc (.cons bb .nil)
   .rw[gA L];let U:[r].filter (λr=>decide (r.f < x+n))=[]:=by rw[mB,HA L];rfl
    rw[U,EB,MB];show(F,N,j)
  .rintro⟨be,rfl,F,N,j⟩;rw[b2,iB] at j;show bd _ _ _ (a0.trans F) (rG a0 V) N j
def Ye (C:Addr):Sp:=λvs H Q ο=>∃(p a:Addr) (rs:!Rn) (x n:Int),vs=[.ref p,.int x,.int n]/\rE C H p a rs/\jD rs/\rs.length<=1000000/\∀H',OC H H'->Q (.bl (decide (gF rs x n=[]))) H'
theorem fN (T:JD K mg A):YC P w K mg base A.Aa "is_free" 5 ["self","first","many"] [] (Ye A.Aa):=by
 let F:=@tW P w K mg base A T;show T.Dl.have oo (λvs H Q J j=>?_) ?_
 .let(p,a,rs,x,n,rfl,_):=j;rfl
 .intro f a0 Y a4 s H vs Q J U j;let(p,a,rs,x,n,rfl,D,ho,O,q):=j;let(a1,vs,h1,h2,a2):=id D;show(_,(gD (RD (zI jI (fG rO rfl T.Bj PySem.boot_len (IC (VD (GC 0) T.Ag F (-U) qD (IC (GC 1) (IC (GC 2) MC))) MC)) ZC (UC _)))),?_);unfold HS;rfl';simp only[h1];rfl';show(tG ∅,a,rs,D,ho,O,λt us Z W a3 V L=>(us.length,.inl (_,BD.of V,rfl),?_));let N:=Paired.length L;let e:decide ((us.length:Int)=0)=decide (gF rs x n=[]):=by
   rw[decide_eq_decide,<-List.length_eq_zero_iff,<-N];omega
  rw[e];show q _ W
def Ze (C:Addr):Sp:=λvs H Q ο=>∃(p a:Addr) (rs:!Rn) (x n:Int),vs=[.ref p,.int x,.int n]/\rE C H p a rs/\jD rs/\rs.length<=1000000/\∀H',OC H H'->Q (.bl (decide (((gF rs x n).map (·.m)).sum=n))) H'
theorem gN (T:JD K mg A):YC P w K mg base A.Aa "is_full" 5 ["self","first","many"] [] (Ze A.Aa):=by
 let Z:=@tW P w K mg base A T;show T.Do.have qo (λvs H Q a0 L=>?_) ?_
 .let(p,a,rs,x,n,rfl,_):=L;rfl
 .intro f ah ad b4 s H vs Q a0 a4 L;let(p,a,rs,x,n,rfl,U,ho,a3,q):=L;let(am,vs,h1,h2,b0):=id U;show(_,(gD (RD (zI jI (fG (Ul rfl) rfl T.Oo ∅ (IC (PK rfl (yI (VD (GC 0) T.Ag Z (-a4) qD (IC (GC 1) (IC (GC 2) MC)))) (x:="part") (fs:=[]) (ix:=[]) rfl rfl (λο ο ο ο ο ο=>(SF (i:=0) (show (["part"]:!Str).Nodup by decide+kernel) rfl (Or.inl rfl))) (λο ο ο ο ο ο=>MK) (λο ο ο ο ο ο=>(pE (cQ (K:=K) rfl) (GC 0) ZC (λο ο=>rfl)))) MC)) (GC 2) (UC _)))),?_);unfold HS;rfl';simp only[h1];rfl';show(tG ∅,a,rs,U,ho,a3,λt us a1 ab b3 Y W=>⟨⟨_,BD.of Y⟩,λD O=>?_⟩);show aQ (xs:=us) (λi ys J H'=>∃v,J=[v]/\OC a1 H'/\H' D>(.lst ys)/\ys=(((gF rs x n).take i).map (·.m)).map V.int) (_,rfl,wE mE O,nD,rfl) (λi ys J H' _ N=>by let(_,N):=N;show BD.of (N.2.1 _ _ Y)) (λi v ys J H' hi=>?_) (λys J H'=>?_)
  .rintro⟨ac,rfl,F,j,rfl⟩;let(r,a5,a6):=EJ W hi;let(c,al,rfl,a2,b1):=a6.same F;let a9:(gF rs x n).take (i+1)=(gF rs x n).take i++[r]:=by rw[bB,a5];rfl
   let b2:(gF rs x n).length<=1000000:=by
    unfold gF bF;rw[dA];show FB (qB _ _) ?_;rw[wC,cB];omega
   rfl';show(_,HD.of a2,_,rfl,j,by rw[dA,dA,cB];omega,BI F O,?_);rw[a9,nA,nA];rfl
  .rintro⟨ac,rfl,F,j,rfl⟩;rw[Paired.length W,iB] at j;show(_,BD.of j,q _ (ab.trans F))
def af (C:Addr):Sp:=λvs H Q ο=>∃(p a:Addr) (rs:!Rn),vs=[.ref p]/\rE C H p a rs/\∀t us,H t=none->TC (JC H t (.lst us)) us rs->Q (.ref t) (JC H t (.lst us))
theorem aq (T:JD K mg A):YC P w K mg base A.Aa "told" 1 ["self"] [] (af A.Aa):=by
 show T.Fc.have uo (λvs H Q F j=>?_) ?_
 .let(p,a,rs,rfl,_):=j;rfl
 .intro f O N W s H vs Q F V j;let(p,a,rs,rfl,L,q):=j;let(U,vs,h1,h2,J):=id L;show(_,(gD (RD (lI SR rfl T.Cv aC (IC (MD (GC 0) rfl) MC)))),?_);rfl';simp only[h1];rfl';show(T.Ag,T.Ak,_,lL,a,rfl,_,.inl (BD.of h2),λt D=>?_);show q t vs D (TC.same J (wE mE D))
def uW (C:Addr):Sp:=λvs H Q ο=>∃(p a:Addr) (rs:!Rn) (x:Int),vs=[.ref p,.int x]/\rE C H p a rs/\jD rs/\rs.length<=1000000/\∀v H',OC H H'->((v=.non/\pm rs x=none)\/∃y,ED H' v y/\pm rs x>(y.r,y.t))->Q v H'
theorem mL (T:JD K mg A):YC P w K mg base A.Aa "part_at" 5 ["self","page"] [] (uW A.Aa):=by
 let W:=@tW P w K mg base A T;show T.Dp.have Xc (λvs H Q Y D=>?_) ?_
 .let(p,a,rs,x,rfl,_):=D;rfl
 .intro f a5 a3 ac s H vs Q Y a1 D;let(p,a,rs,x,rfl,N,ho,Z,q):=D;let(a6,vs,h1,h2,a9):=id N;show(_,(fD (ZD (i:=2) Xc.nd rfl (Or.inl rfl) (VD (GC 0) T.Ag W (-a1) qD (IC (GC 1) (IC ZC MC))))
   (gD (RD (pO (dF gM (fG rO rfl T.Bj PySem.boot_len (IC (GC 2) MC)) ZC (UC _)) (pE uO (GC 2) ZC (λο ο=>rfl)) IG)))),?_)
  unfold HS;rfl';simp only[h1];rfl';show(tG ∅,a,rs,N,ho,Z,λt us a4 U ab O F=>(us.length,.inl (_,BD.of O,rfl),?_));let(J,L)||(y,J,L):=Qp (p:=x) ho
  .rw[J] at F;cases F;rw[gA (show ¬(0:Int) < (([]:!V).length:Int) from λD=>absurd D (by decide))];show q _ _ U (.inl ⟨rfl,L⟩)
  .rw[J] at F;cases F with
   |cons a2 a0=>
    cases a0;rw[iA (show (0:Int) < (([_]:!V).length:Int) from by change (0:Int) < 1;decide)];show(_,BD.of O,_,iM (j:=0) rfl,q _ _ U (.inr (y,a2,L)))
def oR:Option (Int×Option (Int×Int))->V
 |none=>.non
 |some (r,_)=>.int r
def bf (C:Addr):Sp:=λvs H Q ο=>∃(p a:Addr) (rs:!Rn) (x:Int),vs=[.ref p,.int x]/\rE C H p a rs/\jD rs/\rs.length<=1000000/\∀H',OC H H'->Q (oR (pm rs x)) H'
theorem uQ (T:JD K mg A):YC P w K mg base A.Aa "rights_at" 6 ["self","page"] [] (bf A.Aa):=by
 let L:=@mL P w K mg base A T;show T.Cw.have Vc (λvs H Q N j=>?_) ?_
 .let(p,a,rs,x,rfl,_):=j;rfl
 .intro f Z W a4 s H vs Q N U j;let(p,a,rs,x,rfl,D,ho,O,q):=j;let(a1,vs,h1,h2,a2):=id D;show(_,(fD (ZD (i:=2) Vc.nd rfl (Or.inl rfl) (VD (GC 0) T.Ag L (-U) qD (IC (GC 1) MC)))
   (gD (RD (pO (dF KI (GC 2) IG (UC _)) IG (pE QE (GC 2) ZC (λο ο=>rfl)))))),?_)
  unfold uW;rfl';simp only[h1];rfl';show(tG ∅,a,rs,D,ho,O,λv Y J h=>?_);let(rfl,e)||(y,V,e):=h
  .rw[iA rfl];have:=q _ J;rw[e] at this;show this
  .let(c,a0,rfl,F,a3):=V;rw[gA nofun];have:=q _ J;rw[e] at this
   first
    |exact⟨_,HD.of F,_,rfl,this⟩
    |(rfl';show⟨_,HD.of F,_,rfl,this⟩)
def cf (C:Addr):Sp:=λvs H Q ο=>∃(p a:Addr) (rs:!Rn) (x:Int),vs=[.ref p,.int x]/\rE C H p a rs/\jD rs/\rs.length<=1000000/\∀v H',OC H H'->YD H' v ((pm rs x).bind (·.2))->Q v H'
theorem vQ (T:JD K mg A):YC P w K mg base A.Aa "tie_at" 6 ["self","page"] [] (cf A.Aa):=by
 let L:=@mL P w K mg base A T;show T.Eb.have Wc (λvs H Q N j=>?_) ?_
 .let(p,a,rs,x,rfl,_):=j;rfl
 .intro f a0 Y a4 s H vs Q N V j;let(p,a,rs,x,rfl,D,ho,U,q):=j;let(a2,vs,h1,h2,a3):=id D;show(_,(fD (ZD (i:=2) Wc.nd rfl (Or.inl rfl) (VD (GC 0) T.Ag L (-V) qD (IC (GC 1) MC)))
   (gD (RD (pO (dF KI (GC 2) IG (UC _)) IG (pE QE (GC 2) ZC (λο ο=>rfl)))))),?_)
  unfold uW;rfl';simp only[h1];rfl';show(tG ∅,a,rs,D,ho,U,λv Z J h=>?_);let(rfl,e)||(y,W,e):=h
  .rw[iA rfl];show q _ _ J (by rw[e];rfl)
  .let(c,a1,rfl,F,O):=W;rw[gA nofun];have:=q _ _ J (by rw[e];show O)
   first
    |exact⟨_,HD.of F,_,rfl,this⟩
    |(rfl';show⟨_,HD.of F,_,rfl,this⟩)
def vW (C:Addr):Sp:=λvs H Q ο=>∃(p dx:Addr),vs=[.ref p]/\H p>(.ins C dx [])/\∀a,H a=none->Q .non (JC (JC H a (.lst [])) p (.ins C dx (AH a)))
theorem df (T:JD K mg A):TF P w K mg base "Stretches" A.Aa 1 ["self"] [] (vW A.Aa):=by
 show T.Fa.have fo (λvs H Q L j=>?_) ?_
 .let(p,D,rfl,_):=j;rfl
 .intro f U O W s H vs Q L V j;let(p,D,rfl,J,q):=j;show(_,(gD (BG (GC 0) (UJ MC) rfl)),?_);rfl';intro a F;let N:p≠a:=FD J F;show(_,D,[],by rw[WC N];show J,T.Ag,T.Ak,by change 0 < 1000;decide,?_);show q a F
def wW (O:Addr):Sp:=λvs H Q E=>∃x:V,vs=[x]/\Kn H x/\if DE x 0 3=true then Q .non H else E (.ref O) none H
theorem wQ (T:JD K mg A):qE P w K mg base "check_rights" 3 ["rights"] [] (wW A.Ay):=by
 let D:=@YM P w K mg base A T;show T.Gx.have Yn (λvs H Q F j=>?_) ?_
 .let(x,rfl,_):=j;rfl
 .intro f N L O s H vs Q F J j;let(x,rfl,hk,q):=j;show(_,(gD (yE (UH (iH (kE D (-J) qD (IC (GC 0) (IC ZC (IC (ZJ rfl T.Hy) MC)))))) (gD (NH LH rfl T.Ko (IC kG MC))) FE)),?_);unfold sp_is_within;rfl';show⟨hk,?_⟩;cases e:DE x 0 3 with
  |true=>rw[e,iA rfl] at q;show ND q
  |false=>rw[e,gA (show ¬false=true by decide)] at q;show WD q
def Bu (p:Addr) (H H':Hp):Prop:=∀c o,H c>o->c≠p->H' c>o
def xW (C:Addr):Sp:=λvs H Q ο=>∃(p a b:Addr) (rs parts:!Rn) (x n:Int) (ws:!V),vs=[.ref p,.int x,.int n,.ref b]/\rE C H p a rs/\jD rs/\rs.length<=100000/\H b>(.lst ws)/\TC H ws parts/\parts.length<=100000/\∀a' H',rE C H' p a' (uE rs x n parts)->Bu p H H'->Q .non H'
theorem nL (T:JD K mg A):YC P w K mg base A.Aa "lay_amid" 5 ["self","first","many","parts"] [] (xW A.Aa):=by
 let c2:=@Te P w K mg base A T;let c0:=@tQ P w K mg base A T;let dd:=@Xp P w K mg base A T;let c1:=@Xe P w K mg base A T;show T.C9.have VM (λvs H Q d3 N=>?_) ?_
 .let(p,a,b,rs,parts,x,n,D,rfl,_):=N;rfl
 .intro f f5 f3 fy s H vs Q d3 Z N;let(p,a,b,rs,parts,x,n,D,rfl,b3,ho,e6,e3,c8,e8,q):=N;let(ah,vs,h1,h2,al):=id b3;show(_,(fD (ZD (i:=4) VM.nd rfl (Or.inr rfl) (jE KG (GC 1) (GC 2)))
   (fD (ZD (i:=5) VM.nd rfl (Or.inl rfl) (VD (GC 0) T.Ag c1 (-Z) qD (IC (jE AJ (GC 1) ZC) MC)))
   (fD (ZD (i:=6) VM.nd rfl (Or.inl rfl) (jE KG (VD (GC 0) T.Ag c1 (-Z) qD (IC (GC 4) MC)) ZC))
   (fD (ZD (i:=7) VM.nd rfl (Or.inl rfl) (zP FP (MD (GC 0) rfl) (EK (GC 5)) (EK (GC 6))))
   (fD (dU (i:=8) VM.nd rfl rfl rfl (yI (GC 7)) (x:="run") (fs:=["first"]) (ix:=[1]) rfl rfl (λο ο ο ο ο ο=>(SF (i:=0) (show (["run","first"]:!Str).Nodup by decide+kernel) rfl (Or.inl rfl))) (λο ο ο ο ο ο=>(jS (dF fM (pE (cQ (K:=K) rfl) (GC 0) ZC (λο ο=>rfl)) (GC 1) (UC _)))) (λο ο ο ο ο ο=>(kE c2 (-Z) DM (IC (GC 0) (IC (pE (cQ (K:=K) rfl) (GC 0) ZC (λο ο=>rfl)) (IC (GC 1) MC))))))
   (fD (dU (i:=9) VM.nd rfl rfl rfl (yI (GC 7)) (x:="run") (fs:=["end"]) (ix:=[4]) rfl rfl (λο ο ο ο ο ο=>(SF (i:=0) (show (["run","end"]:!Str).Nodup by decide+kernel) rfl (Or.inl rfl))) (λο ο ο ο ο ο=>(jS (dF gM (kE c0 (-Z) DM (IC (GC 0) MC)) (GC 1) (UC _)))) (λο ο ο ο ο ο=>(kE c2 (-Z) DM (IC (GC 0) (IC (GC 1) (IC (kE c0 (-Z) DM (IC (GC 0) MC)) MC))))))
   (gD (BG (GC 0) (jE VR (jE VR (zP FP (MD (GC 0) rfl) X9 (EK (GC 5))) (kE dd (-Z) qD (IC (jE VR (jE VR (GC 8) (GC 3)) (GC 9)) MC))) (zP FP (MD (GC 0) rfl) (EK (GC 6)) X9)) rfl)))))))),?_)
  unfold pW DO We rW;rfl';simp only[h1];rfl';show(tG ∅,a,rs,b3,ho,⋯,tG ∅,a,rs,b3,ho,⋯,T.Ag,T.Ak,_,lL,a,rfl,_,BD.of h2,λsl eq=>⟨⟨_,BD.of nD⟩,?_⟩);let dp:rF vs (some ((pb rs (x - 1):Nat):Int)) (some (((pb rs (x+n):Nat):Int)+1))=(vs.take (pb rs (x+n)+1)).drop (pb rs (x - 1)):=sW (hi:=pb rs (x+n)+1);rw[dp];let b4:TC H ((vs.take (pb rs (x+n)+1)).drop (pb rs (x - 1))) (bF rs (pb rs (x - 1)) (pb rs (x+n)+1)):=FS _ (ES _ al);let f8:(bF rs (pb rs (x - 1)) (pb rs (x+n)+1)).length<=100000:=by
   unfold bF;rw[wC,cB];omega
  let et:∀a' H',rE A.Aa H' p a' (rs.take (pb rs (x - 1))++jn (((bF rs (pb rs (x - 1)) (pb rs (x+n)+1)).filter λr=>decide (r.f < x)).map (λr=>WE r r.f x)++parts++((bF rs (pb rs (x - 1)) (pb rs (x+n)+1)).filter λr=>decide (GT.gt (bD r) (x+n))).map (λr=>WE r (x+n) (bD r)))++rs.drop (pb rs (x+n)+1))->Bu p H H'->Q .non H':=q;generalize (vs.take (pb rs (x+n)+1)).drop (pb rs (x - 1))=nv at *;generalize bF rs (pb rs (x - 1)) (pb rs (x+n)+1)=near at *;intro d1 c7;let cl:=wE (o:=.lst nv) mE eq;let cd:nv.length=near.length:=Paired.length b4;let c6:∀(i:Nat) (g:Rn->Bool),((near.take i).filter g).length<=100000:=λi g=>FB (qB _ _) (by rw[cB];omega);show aQ (xs:=nv) (λi ys O H'=>∃v,O=[v,some (.int x)]/\OC (JC H sl (.lst nv)) H'/\H' d1>(.lst ys)/\TC H' ys (((near.take i).filter λr=>decide (r.f < x)).map λr=>WE r r.f x)) (_,rfl,wE mE c7,nD,.nil) (λi ys O H' _ a3=>by let(_,a3):=a3;show BD.of (a3.2.1 _ _ nD)) (λi v ys O H' hi=>?_) (λys O H'=>?_)
  .rintro⟨bt,rfl,a6,a9,a0⟩;let(r,b5,b9):=EJ b4 hi;let a5:=b9.same (cl.trans a6);let bb:near.take (i+1)=near.take i++[r]:=by rw[bB,b5];rfl
   let er:ys.length<=100000:=by
    let W:=Paired.length a0;rw[dA] at W;have:=c6 i λr=>decide (r.f < x);omega
   rw[bb,WB,nA];let(c,c5,rfl,Y,ab):=id a5;rfl';show(_,HD.of Y,_,rfl,_,rfl,?_);by_cases J:r.f < x
   .rw[iA J];show(_,HD.of Y,_,rfl,r,_,rfl,a5,λu j F bc=>?_);let a4:=F _ _ a9;show(a4,⋯,BI (a6.trans F) c7,?_);let U:[r].filter (λr=>decide (r.f < x))=[r]:=by rw[mB,qA J];rfl
    rw[U];show nJ (TC.same2 (H:=j) (TC.same a0 F) a4 mE) (.cons (ED.same2 (H:=j) bc a4 mE) .nil)
   .rw[gA J];let U:[r].filter (λr=>decide (r.f < x))=[]:=by rw[mB,HA J];rfl
    rw[U,EB,MB];show(a6,a9,a0)
  rintro⟨bt,rfl,a6,dr,a0⟩;rw[cd,iB] at a0;let ck:=a6 _ _ (nD (H:=H) (a:=sl) (o:=.lst nv));show⟨⟨_,BD.of ck⟩,λd2 a4=>?_⟩;let co:=cl.trans a6;show aQ (xs:=nv) (λi zs O j=>∃v,O=[v,some (.int (x+n))]/\OC H' j/\j d2>(.lst zs)/\TC j zs (((near.take i).filter λr=>decide (GT.gt (bD r) (x+n))).map λr=>WE r (x+n) (bD r))) (_,rfl,wE mE a4,nD,.nil) (λi ys O H' _ a3=>by let(_,a3):=a3;show BD.of (a3.2.1 _ _ ck)) (λi v zs O j hi=>?_) (λzs O j=>?_)
  .rintro⟨bt,rfl,F,a9,a1⟩;let(r,b5,b9):=EJ b4 hi;let a5:=b9.same (co.trans F);let bb:near.take (i+1)=near.take i++[r]:=by rw[bB,b5];rfl
   let er:zs.length<=100000:=by
    let W:=Paired.length a1;rw[dA] at W;have:=c6 i λr=>decide (GT.gt (bD r) (x+n));omega
   rw[bb,WB,nA];rfl';show(r,a5,?_);by_cases J:GT.gt (bD r) (x+n)
   .rw[iA (show x+n < bD r from J)];show(r,a5,r,a5,λu c3 L bc=>?_);let b2:=L _ _ a9;show(b2,⋯,BI (F.trans L) a4,?_);let U:[r].filter (λr=>decide (GT.gt (bD r) (x+n)))=[r]:=by rw[mB,qA J];rfl
    rw[U];show nJ (TC.same2 (H:=c3) (TC.same a1 L) b2 mE) (.cons (ED.same2 (H:=c3) bc b2 mE) .nil)
   .rw[gA (show ¬x+n < bD r from J)];let U:[r].filter (λr=>decide (GT.gt (bD r) (x+n)))=[]:=by rw[mB,HA J];rfl
    rw[U,EB,MB];show(F,a9,a1)
  rintro⟨bt,rfl,F,dy,a1⟩;rw[cd,iB] at a1;let ad:=co.trans F;let g0:OC H j:=ad;show(_,ah,_,ad _ _ h1,T.Ag,T.Ak,_,lL,a,rfl,_,BD.of (ad _ _ h2),λbd ea=>?_);rw[Yp];let L:=wE (o:=.lst (vs.take (pb rs (x - 1)))) mE ea;let eb:JC j bd (.lst (vs.take (pb rs (x - 1)))) bd>(.lst (vs.take (pb rs (x - 1)))):=nD;let dv:=L _ _ (F _ _ dr);let e0:=L _ _ dy;let e4:=L _ _ (ad _ _ e3);let ev:=ad.trans L;generalize JC j bd (.lst (vs.take (pb rs (x - 1))))=H4 at *;let fv:ys.length<=100000:=by
   let W:=Paired.length a0;rw[dA] at W;have:=qB (λr:Rn=>decide (r.f < x)) near;omega
  let fx:zs.length<=100000:=by
   let W:=Paired.length a1;rw[dA] at W;have:=qB (λr:Rn=>decide (GT.gt (bD r) (x+n))) near;omega
  let fn:D.length<=100000:=by rw[Paired.length c8];show e8
  show(_,dv,_,e4,⋯,λbe ee=>?_);let b1:=wE (o:=.lst (ys++D)) mE ee;let f9:JC H4 be (.lst (ys++D)) be>(.lst (ys++D)):=nD;let e1:=b1 _ _ e0;let ec:=b1 _ _ eb;let ew:=ev.trans b1;generalize JC H4 be (.lst (ys++D))=H5 at *;show(_,rfl,_,e1,by rw[xA];omega,λb0 ef=>?_);let bn:=wE (o:=.lst (ys++D++zs)) mE ef;let eh:JC H5 b0 (.lst (ys++D++zs)) b0>(.lst (ys++D++zs)):=nD;let ed:=bn _ _ ec;let cs:=ew.trans bn;let cv:OC j (JC H5 b0 (.lst (ys++D++zs))):=L.trans (b1.trans bn);generalize JC H5 b0 (.lst (ys++D++zs))=H6 at *;let ca:TC H6 (ys++D++zs) ((near.filter λr=>decide (r.f < x)).map (λr=>WE r r.f x)++parts++(near.filter λr=>decide (GT.gt (bD r) (x+n))).map (λr=>WE r (x+n) (bD r))):=
   nJ (nJ (TC.same a0 (F.trans cv)) (TC.same c8 cs)) (TC.same a1 cv)
  let e2:((near.filter λr=>decide (r.f < x)).map (λr=>WE r r.f x)++parts++(near.filter λr=>decide (GT.gt (bD r) (x+n))).map (λr=>WE r (x+n) (bD r))).length<=1000000:=by
   rw[<-Paired.length ca,xA,xA];omega
  show(_,BD.of eh,_,ca,e2,λt us c4 cw fb am c9=>?_);let ey:=cs.trans cw;let ff:us.length<=1000000:=by
   rw[Paired.length c9];have:=qW ((near.filter λr=>decide (r.f < x)).map (λr=>WE r r.f x)++parts++(near.filter λr=>decide (GT.gt (bD r) (x+n))).map (λr=>WE r (x+n) (bD r))) [];unfold jn;simp only[List.length_nil,Nat.zero_add] at this;omega
  let fl:vs.length<=100000:=by rw[Paired.length al];show e6
  show(_,cw _ _ ed,_,am,by rw[cB];omega,λbh ej=>?_);let cx:=wE (o:=.lst (vs.take (pb rs (x - 1))++us)) mE ej;let ek:JC c4 bh (.lst (vs.take (pb rs (x - 1))++us)) bh>(.lst (vs.take (pb rs (x - 1))++us)):=nD;let bm:=ey.trans cx;generalize JC c4 bh (.lst (vs.take (pb rs (x - 1))++us))=H8 at *;show(_,ah,_,bm _ _ h1,T.Ag,T.Ak,_,lL,a,rfl,_,BD.of (bm _ _ h2),λbl em=>?_);let dn:rF vs (some (((pb rs (x+n):Nat):Int)+1)) none=vs.drop (pb rs (x+n)+1):=Zp (lo:=pb rs (x+n)+1);rw[dn];let bo:=wE (o:=.lst (vs.drop (pb rs (x+n)+1))) mE em;let fa:JC H8 bl (.lst (vs.drop (pb rs (x+n)+1))) bl>(.lst (vs.drop (pb rs (x+n)+1))):=nD;let el:=bo _ _ ek;let ez:=bm.trans bo;let f1:=cx.trans bo;generalize JC H8 bl (.lst (vs.drop (pb rs (x+n)+1)))=H9 at *;show(_,el,_,rfl,by rw[xA,cB,wC];omega,λac en=>?_);let cm:=wE (o:=.lst (vs.take (pb rs (x - 1))++us++vs.drop (pb rs (x+n)+1))) mE en;let ch:JC H9 ac (.lst (vs.take (pb rs (x - 1))++us++vs.drop (pb rs (x+n)+1))) ac>(.lst (vs.take (pb rs (x - 1))++us++vs.drop (pb rs (x+n)+1))):=nD;let a2:=ez.trans cm;let f0:=f1.trans cm;generalize JC H9 ac (.lst (vs.take (pb rs (x - 1))++us++vs.drop (pb rs (x+n)+1)))=H10 at *;let e9:ac≠p:=uD ch (a2 _ _ h1) λN=>nomatch N;show(_,ah,_,a2 _ _ h1,T.Ag,T.Ak,by change 1 < 1000;decide,?_);let eo:∀{v:V} {r:Rn} {o:HO},ED H10 v r->ED (JC H10 p o) v r:=λ{v r o} h=>by
   let(c,c5,e,Y,ab):=h;show(c,c5,e,by rw[WC (uD Y (a2 _ _ h1) λN=>nomatch N)];show Y,?_);cases am:r.t with
   |none=>rw[am] at ab;show ab
   |some f2=>
    let(f4,k2):=f2;rw[am] at ab;let(dl,dm,h2):=ab;show(dl,dm,by rw[WC (uD h2 (a2 _ _ h1) λN=>nomatch N)];show h2)
  show et ac _ (ah,_,nD,by rw[WC e9];show ch,?_) λc o Y e7=>by rw[WC e7];show a2 _ _ Y
  let e5:TC H10 (vs.take (pb rs (x - 1))++us++vs.drop (pb rs (x+n)+1)) (rs.take (pb rs (x - 1))++jn ((near.filter λr=>decide (r.f < x)).map (λr=>WE r r.f x)++parts++(near.filter λr=>decide (GT.gt (bD r) (x+n))).map (λr=>WE r (x+n) (bD r)))++rs.drop (pb rs (x+n)+1)):=
   nJ (nJ (TC.same (ES _ al) a2) (TC.same c9 f0)) (TC.same (FS _ al) a2)
  show Paired.mapP e5 λο ο h=>eo h
def IS (C BR TK:Addr):Sp:=λvs H Q E=>∃(p a:Addr) (rs:!Rn) (x n r:Int) (tv:V) (t:Option (Int×Int)),vs=[.ref p,.int x,.int n,.int r,tv]/\rE C H p a rs/\jD rs/\rs.length<=100000/\YD H tv t/\
 if 0<=r/\r<=3 then (if gF rs x n=[] then ∀a' H',rE C H' p a' (uE rs x n [(x,n,r,t)])->Bu p H H'->Q .non H' else ∀H',OC H H'->E (.ref TK) none H') else E (.ref BR) none H
theorem cq (T:JD K mg A):bG P w K mg base "Stretches.put" gK ["self","first","many","rights","tie"] 5 (IS A.Aa A.Ay A.Bi):=by
 let Y:=@wQ P w K mg base A T;let Z:=@fN P w K mg base A T;let W:=@nL P w K mg base A T
 .intro f b0 ah b2 s H vs Q al J ad;let(p,a,rs,x,n,r,U,t,rfl,F,ho,a5,a3,q):=ad;let(a0,vs,h1,h2,b1):=id F;show(_,(fD (vE (kE Y (-J) qD (IC (GC 3) MC)))
   (fD (yE (UH (iH (VD (GC 0) T.Ag Z (-J) qD (IC (GC 1) (IC (GC 2) MC))))) (gD (NH LH rfl T.No (IC kG MC))) FE)
   (gD (vE (VD (GC 0) T.Ag W (-J) qD (IC (GC 1) (IC (GC 2) (IC (UJ (IC (lG (IC (GC 1) (IC (GC 2) (IC (GC 3) (IC (GC 4) MC))))) MC)) MC)))))))),?_)
  unfold wW Ye xW;rfl';simp only[h1];rfl';by_cases c:0<=r/\r<=3
  .rw[iA c] at q;rw[iA (by rw[YI,qA c.1,qA c.2];rfl)];show(tG ∅,a,rs,F,ho,⋯,λam L=>?_);by_cases j:gF rs x n=[]
   .rw[iA j] at q;rw[qA j];show ND (a0,_,L _ _ h1,tG ∅,λD a9 lp O=>?_);let ab:=wE (o:=.tup [V.int x,V.int n,V.int r,U]) L a9;let N:=wE (o:=.lst [V.ref D]) ab O;let ac:=wE (o:=.lst [V.ref D]) mE O;show(a,rs,F.same N,ho,a5,[(x,n,r,t)],[.ref D],rfl,.cons (D,U,rfl,ac _ _ nD,a3.same N) .nil,by change 1<=100000;decide,λa' H' a2 a1=>q a' H' a2 λc o a4 a6=>a1 c o (N c o a4) a6)
   .rw[gA j] at q;rw[HA j];show WD (q _ L)
  .rw[gA c] at q;rw[gA (by rw[YI];simpa using c)];show q
theorem dq {C D F:Addr}:∀vs H Q j,IS C D F vs H Q j->vs.length=5:=λvs H Q j J=>by
 let(p,a,rs,x,n,r,L,t,rfl,_):=J;rfl
theorem fq (T:JD K mg A):YC P w K mg base A.Aa "put" 6 ["self","first","many","rights","tie"] [] (IS A.Aa A.Ay A.Bi):=T.Ge.have io dq (cq T)
def pL (C NM:Addr):Sp:=λvs H Q E=>∃(p a:Addr) (rs:!Rn) (x n:Int),vs=[.ref p,.int x,.int n]/\rE C H p a rs/\jD rs/\rs.length<=1000000/\∀H',OC H H'->if ((gF rs x n).map (·.m)).sum=n then Q .non H' else E (.ref NM) none H'
theorem yW (T:JD K mg A):YC P w K mg base A.Aa "check_full" 6 ["self","first","many"] [] (pL A.Aa A.An):=by
 let J:=@gN P w K mg base A T;show T.Cl.have ko (λvs H Q L D=>?_) ?_
 .let(p,a,rs,x,n,rfl,_):=D;rfl
 .intro f Z W a1 s H vs Q L U D;let(p,a,rs,x,n,rfl,F,ho,O,q):=D;let(N,vs,h1,h2,a0):=id F;show(_,(gD (yE (UH (iH (VD (GC 0) T.Ag J (-U) qD (IC (GC 1) (IC (GC 2) MC))))) (gD (NH LH rfl T.E4 (IC kG MC))) FE)),?_);unfold Ze;rfl';show(N,_,h1,tG ∅,a,rs,F,ho,O,λY V=>?_);let j:=q _ V;by_cases c:((gF rs x n).map (·.m)).sum=n
  .rw[iA c] at j;rw[qA c];show ND j
  .rw[gA c] at j;rw[HA c];show WD j
def gf (C NM:Addr):Sp:=λvs H Q E=>∃(p a:Addr) (rs:!Rn) (x n:Int),vs=[.ref p,.int x,.int n]/\rE C H p a rs/\jD rs/\rs.length<=100000/\
 if ((gF rs x n).map (·.m)).sum=n then ∀a' H',rE C H' p a' (uE rs x n [])->Bu p H H'->Q .non H' else ∀H',OC H H'->E (.ref NM) none H'
theorem xQ (T:JD K mg A):YC P w K mg base A.Aa "cut" 7 ["self","first","many"] [] (gf A.Aa A.An):=by
 let U:=@yW P w K mg base A T;let O:=@nL P w K mg base A T;show T.Gf.have jo (λvs H Q V F=>?_) ?_
 .let(p,a,rs,x,n,rfl,_):=F;rfl
 .intro f a5 a3 a9 s H vs Q V L F;let(p,a,rs,x,n,rfl,j,ho,a0,q):=F;let(J,vs,h1,h2,a6):=id j;show(_,(fD (vE (VD (GC 0) T.Ag U (-L) qD (IC (GC 1) (IC (GC 2) MC))))
   (gD (vE (VD (GC 0) T.Ag O (-L) qD (IC (GC 1) (IC (GC 2) (IC (UJ MC) MC))))))),?_)
  unfold pL xW;rfl';show(J,_,h1,tG ∅,a,rs,j,ho,⋯,λa4 D=>?_);by_cases c:((gF rs x n).map (·.m)).sum=n
  .rw[iA c] at q;rw[iA c];show(J,_,D _ _ h1,tG ∅,λlp a1=>?_);let N:=wE (o:=.lst []) D a1;show(a,rs,j.same N,ho,a0,[],[],rfl,.nil,by decide,λa' H' Y W=>q a' H' Y λc o Z a2=>W c o (N c o Z) a2)
  .rw[gA c] at q;rw[gA c];show q _ D
theorem iN {C:Addr} {H:Hp} {x j a:Addr} (h1:H x=none) (h2:H j=none) (D:JC (JC H j (.own x)) x (.ins C j []) a=none):
  rE C (JC (JC (JC (JC H j (.own x)) x (.ins C j [])) a (.lst [])) x (.ins C j (AH a))) x a []/\OC H (JC (JC (JC (JC H j (.own x)) x (.ins C j [])) a (.lst [])) x (.ins C j (AH a))):=by
 let N:a≠x:=λe=>by subst e;rw[nD] at D;cases D
 show⟨(j,[],nD,by rw[WC N,nD],.nil),λb o F=>?_⟩;let J:b≠x:=FD F h1;let L:b≠j:=FD F h2;let O:b≠a:=λe=>by subst e;rw[WC J,WC L,F] at D;cases D
 rw[WC J,WC O,WC J,WC L];show F
def jf (C:Addr):Sp:=λvs H Q ο=>∃(p a:Addr) (rs:!Rn),vs=[.ref p]/\rE C H p a rs/\∀p' a' H',OC H H'->H p'=none->rE C H' p' a' rs->Q (.ref p') H'
theorem gq (T:JD K mg A):YC P w K mg base A.Aa "copied" 3 ["self"] [] (jf A.Aa):=by
 let W:=@df P w K mg base A T;show T.Ec.have Ud (λvs H Q Y O=>?_) ?_
 .let(p,a,rs,rfl,_):=O;rfl
 .intro f ab a9 ad s H vs Q Y a6 O;let(p,a,rs,rfl,a1,q):=O;let(Z,vs,h1,h2,a0):=id a1;show(_,(fD (ZD (i:=1) Ud.nd rfl (Or.inl rfl) (Ua W (-a6) qD))
   (fD (BG (GC 1) (lI SR rfl T.Cv aC (IC (MD (GC 0) rfl) MC)) rfl)
   (gD (RD (GC 1))))),?_)
  unfold vW;rfl';intro F L j a4 ac a' a3;let(a2,D):=iN j a4 a3;generalize JC (JC (JC (JC H L (.own F)) F (.ins A.Aa L [])) a' (.lst [])) F (.ins A.Aa L (AH a'))=H1 at *;show(_,Z,_,D _ _ h1,T.Ag,T.Ak,_,lL,a,rfl,_,.inl (BD.of (D _ _ h2)),λl N=>?_);let(U,ah,V,_):=id a2;let J:=wE (o:=.lst vs) (mE (H:=H1)) N;show(_,U,_,J _ _ V,T.Ag,T.Ak,by change 1 < 1000;decide,?_);let a5:l≠F:=λe=>by rw[e,V] at N;cases N
  let ep:QC "runs" (.ref l) (AH a')=AH l:=rfl;show q _ l _ ?_ j ?_
  .show BI (D.trans J) j
  .rw[ep];show(U,vs,nD,by rw[WC a5,nD],TC.same a0 (BI (D.trans J) j))
abbrev Kvs:=!(Key×V)
def TD (kvs:Kvs):!Key:=kvs.map (·.1)
def CI (ks:!Key) (k:Nat):Prop:=(inl (k:Int):Key)∉ks/\∀j:Nat,j < k->(inl (j:Int):Key)∈ks
theorem CI.one {ks:!Key} {a b:Nat} (h:CI ks a) (g:CI ks b):a=b:=by
 let q||q||q:=Nat.lt_trichotomy a b
 .show absurd (g.2 a q) h.1
 .show q
 .show absurd (h.2 b q) g.1
theorem mf:∀(i:Nat) (ks:!Int),(∀j:Nat,j < i->(j:Int)∈ks)->i<=ks.length
 |0,_,_=>Nat.zero_le _
 |i+1,ks,h=>by
  let hm:=h i (Nat.lt_succ_self i);have:=mf i (ks.erase (i:Int)) λj hj=>(List.mem_erase_of_ne ⋯).mpr (h j ⋯);rw[List.length_erase_of_mem hm] at this;have:=List.length_pos_of_mem hm;omega
def kI:Key->Int
 |.inl i=>i
 |.inr _=>0
theorem jN (i:Nat) (ks:!Key) (h:∀j:Nat,j < i->(inl (j:Int):Key)∈ks):i<=ks.length:=by
 have:=mf i (ks.map kI) λj D=>aA.mpr (_,h j D,rfl);rwa[dA] at this
theorem zW {kvs:Kvs} {k:Key} (h:k∈TD kvs):(KC kvs k).isSome=true:=by
 cases e:KC kvs k with
 |none=>show absurd h (Ra e)
 |some v=>rfl
theorem AW {kvs:Kvs} {k:Key} (h:k∉TD kvs):(KC kvs k).isSome=false:=by
 cases e:KC kvs k with
 |none=>rfl
 |some v=>show absurd (ET e) h
theorem pf {kvs:Kvs} {k:Key} (h:k∈TD kvs):∃v,KC kvs k>v:=by
 cases e:KC kvs k with
 |none=>show absurd h (Ra e)
 |some v=>show⟨v,rfl⟩
theorem qf {kvs:Kvs} {k:Key} (h:k∉TD kvs):KC kvs k=none:=by
 cases e:KC kvs k with
 |none=>rfl
 |some v=>show absurd (ET e) h
theorem iq {kvs:Kvs} {k:Key} {v:V} (h:KC kvs k>v):(k,v)∈kvs:=by
 unfold KC at h;cases e:kvs.find? λkv=>decide (kv.1=k) with
 |none=>rw[e] at h;cases h
 |some p=>
  rw[e] at h;cases h;let h1:=NB e;let h2:=YA e;let j:p.1=k:=by simpa using h1
  rw[<-j];show h2
theorem qL {kvs:Kvs} {k:Key} {v:V} (h:k∉TD kvs):iD kvs k v=kvs++[(k,v)]:=FK v (qf h)
def sI (ks:!Key):Prop:=∀k∈ks,∃i:Int,k=inl i
theorem sI.ns:∀{ks:!Key},sI ks->ks=(ks.map kI).map inl
 |[],_=>rfl
 |k::ks,h=>by
  let(i,rfl):=h k cA;rw[rA,rA,<-sI.ns (ks:=ks) λx hx=>h x (kA _ hx)]
  rfl
theorem sI.drop {ks:!Key} {k:Key} (h:sI ks):sI (ks.filter λx=>decide (x≠k)):=λx j=>h x (DA.mp j).1
def Kd (d:Addr) (H H':Hp):Prop:=∀c o,H c>o->c≠d->H' c>o
theorem Kd.trans {d:Addr} {H j D:Hp} (a:Kd d H j) (b:Kd d j D):Kd d H D:=λc o h F=>b c o (a c o h F) F
theorem Kd.of {d:Addr} {H H':Hp} (s:OC H H'):Kd d H H':=λc o h ο=>s c o h
theorem JE {d:Addr} {H:Hp} {o:HO}:Kd d H (JC H d o):=λc u h j=>by rw[WC j];show h
def sp_least_free:Sp:=λvs H Q ο=>∃(a:Addr) (kvs:Kvs),vs=[.ref a]/\H a>(.dK kvs)/\∀k:Nat,CI (TD kvs) k->Q (.int k) H
theorem BW (T:JD K mg A):qE P w K mg base "least_free" 1 ["numbers"] [] sp_least_free:=by
 show T.Iw.have VU (λvs H Q N D=>?_) ?_
 .let(a,kvs,rfl,_):=D;rfl
 .intro f W V a1 s H vs Q N U D;let(a,kvs,rfl,O,q):=D;show(_,(fD (ZD (i:=1) VU.nd rfl (Or.inl rfl) ZC)
   (fD (Pb jB (yJ (OP (KD U) (GC 1) (GC 0))) (gD (ZD (i:=1) VU.nd rfl (Or.inl rfl) (jE KG (GC 1) ZC))))
   (gD (RD (GC 1))))),?_)
  unfold nI;rfl';show Qb (λm L H'=>∃i:Nat,L=[↑a,some (.int i)]/\H'=H/\m+i=kvs.length+1/\∀j:Nat,j < i->(inl (j:Int):Key)∈TD kvs) (kvs.length+1) (0,rfl,rfl,rfl,λj h=>absurd h (Nat.not_lt_zero _)) (λm L H'=>?_);rintro⟨i,rfl,rfl,a0,F⟩;rfl';show(_,.inl (kvs,inl (i:Int),.inl O,rfl,rfl),?_);by_cases c:(inl (i:Int):Key)∈TD kvs
  .rw[zW c];let J:∀j:Nat,j < i+1->(inl (j:Int):Key)∈TD kvs:=λj h=>by
    let q||rfl:=Nat.lt_succ_iff_lt_or_eq.mp h
    .show F j q
    .show c
   let Y:=jN (i+1) (TD kvs) J;let Z:(TD kvs).length=kvs.length:=by unfold TD;rw[dA]
   show WD (SK ?_);rfl';show(m - 1,⋯,i+1,rfl,⋯,J)
  .rw[AW c];show ND ?_;show q i ⟨c,F⟩
def kN (sh td bd:Addr):!(Str×V):=QC "banks" (.ref bd) (QC "tasks" (.ref td) (QC "shape" (.ref sh) []))
theorem DI {sh j bd:Addr}:(kN sh j bd).lookup ("tasks":Str)=↑j:=by rfl
theorem JS {sh j bd:Addr}:(kN sh j bd).lookup ("banks":Str)=↑bd:=by rfl
theorem gG {sh j bd:Addr} {m:Str} (h:¬m∈(["shape","tasks","banks"]:!Str)):(kN sh j bd).lookup m=none:=by
 simp only[pA,WA,BC,not_or] at h;unfold kN;simp only[sO,h.1,h.2.1,h.2.2,HB]
 rfl
set_option genInjectivity false in
structure Hz where
 p:Addr
 sh:Addr
 td:Addr
 bd:Addr
def rf (C:Addr):Sp:=λvs H Q ο=>∃(p dx sh:Addr),vs=[.ref p,.ref sh]/\H p>(.ins C dx [])/\∀td bd H',H td=none->H bd=none->td≠bd->Kd p H H'->H' p>(.ins C dx (kN sh td bd))->H' td>(.dK [])->H' bd>(.dK [])->Q .non H'
theorem jq (T:JD K mg A):TF P w K mg base "House" A.Ad 1 ["self","shape"] [] (rf A.Ad):=by
 show T.Ix.have vo (λvs H Q Y j=>?_) ?_
 .let(p,O,sh,rfl,_):=j;rfl
 .intro f a1 a0 a3 s H vs Q Y a2 j;let(p,O,sh,rfl,Z,q):=j;show(_,(fD (BG (GC 0) (GC 1) rfl)
   (fD (BG (GC 0) NI rfl)
   (gD (BG (GC 0) NI rfl)))),?_)
  rfl';simp only[Z];rfl';show(T.Ai,T.Bl,λN F=>?_);let L:N≠p:=λj=>by rw[j,nD] at F;cases F
  let W:H N=none:=by rw[WC L] at F;show F
  show(_,O,_,by rw[WC L.symm,nD],T.Ai,T.Am,by change 1 < 1000;decide,λbd D=>?_);let J:bd≠p:=λj=>by rw[j,nD] at D;cases D
  rw[WC J] at D;let V:bd≠N:=λj=>by rw[j,nD] at D;cases D
  rw[WC V,WC J] at D;show(_,O,_,by rw[WC J.symm,nD],T.Ai,T.A8,by change 2 < 1000;decide,?_);show q N bd _ W D V.symm (λc o h U=>?_) nD (by rw[WC L,WC V.symm,WC L,nD]) (by rw[WC J,nD]);rw[WC U,WC (FD h D),WC U,WC (FD h W),WC U];show h
theorem CW {sh j bd:Addr}:(kN sh j bd).lookup ("shape":Str)=↑sh:=by rfl
set_option genInjectivity false in
structure Tk where
 n:Int
 p:Addr
 rs:!Rn
def bE (tks:!Tk):Kvs:=tks.map λt=>((inl t.n:Key),V.ref t.p)
def cG (S:Addr) (H:Hp) (t:Tk):Prop:=∃a,rE S H t.p a t.rs/\jD t.rs/\t.rs.length<=10000
structure oE (A:sD) (H:Hp) (z:Hz) (l f g:Int) (tks:!Tk) (bk:Kvs):Prop where
 me:∃dx,H z.p>(.ins A.Ad dx (kN z.sh z.td z.bd))
 sh:aE A.Ah H z.sh l f g
 t:H z.td>(.dK (bE tks))
 b:H z.bd>(.dK bk)
 st:∀t∈tks,cG A.Aa H t
 nd:(tks.map Tk.p).Nodup
 nk:(tks.map Tk.n).Nodup
 vb:∀kv∈bk,∃i:Int,kv.2=.int i
 ne:z.td≠z.bd
 np:∀t∈tks,t.p≠z.p/\t.p≠z.sh
theorem cG.same {S:Addr} {H H':Hp} {t:Tk} (h:cG S H t) (s:OC H H'):cG S H' t:=let ⟨a,h1,h2⟩:=h;(a,h1.same s,h2)
theorem oE.same {A:sD} {H H':Hp} {D:Hz} {l f g:Int} {j:!Tk} {bk:Kvs} (h:oE A H D l f g j bk) (s:OC H H'):oE A H' D l f g j bk:=
 (let ⟨dx,e⟩:=h.me;⟨dx,s _ _ e⟩,h.sh.same s,s _ _ h.t,s _ _ h.b,λt F=>(h.st t F).same s,h.nd,h.nk,h.vb,h.ne,h.np)
theorem YD.kd {H H':Hp} {d:Addr} {v:V} {o:HO} (hd:H d>o) (ho:∀xs,o≠.tup xs) (k:Kd d H H'):∀{t:Option (Int×Int)},YD H v t->YD H' v t
 |none,h=>h
 |some (b,i),⟨a,e,h⟩=>(a,e,k _ _ h (uD h hd (λz=>ho _ z.symm)))
theorem TC.kd {H H':Hp} {d:Addr} {o:HO} (hd:H d>o) (ho:∀xs,o≠.tup xs) (k:Kd d H H') {vs:!V} {rs:!Rn} (h:TC H vs rs):TC H' vs rs:=
 Paired.mapP h λ_ _ ⟨a,j,e,h1,h2⟩=>(a,j,e,k _ _ h1 (uD h1 hd (λD=>ho _ D.symm)),h2.kd hd ho k)
theorem cG.kd {S d:Addr} {H H':Hp} {t:Tk} {kvs:Kvs} (h:cG S H t) (hd:H d>(.dK kvs)) (k:Kd d H H'):cG S H' t:=
 let ⟨a,⟨dx,vs,h1,h2,h3⟩,h4⟩:=h
 (a,(dx,vs,k _ _ h1 (uD h1 hd nofun),k _ _ h2 (uD h2 hd nofun),h3.kd hd (λο z=>nomatch z) k),h4)
theorem cG.bu {S p:Addr} {H H':Hp} {t:Tk} {F:Addr} {fs:!(Str×V)} (h:cG S H t) (D:H p>(.ins S F fs)) (J:t.p≠p) (k:Bu p H H'):cG S H' t:=
 let ⟨a,⟨dx1,vs,h1,h2,h3⟩,h4⟩:=h
 (a,(dx1,vs,k _ _ h1 J,k _ _ h2 (uD h2 D nofun),h3.kd D (λο j=>nomatch j) k),h4)
def ME (n:Int) (rs:!Rn) (tks:!Tk):!Tk:=tks.map λt=>if t.n=n then {t with rs:=rs} else t
theorem lN {n:Int} {rs:!Rn} {j:!Tk}:bE (ME n rs j)=bE j:=by
 unfold bE ME;rw[wA];show IA λt ο=>?_;change ((inl (if t.n=n then {t with rs:=rs} else t).n:Key),V.ref (if t.n=n then {t with rs:=rs} else t).p)=_;by_cases h:t.n=n
 .rw[iA h]
 .rw[gA h]
theorem sf {n:Int} {rs:!Rn} {j:!Tk}:(ME n rs j).map Tk.p=j.map Tk.p:=by
 unfold ME;rw[wA];show IA λt ο=>?_;change (if t.n=n then {t with rs:=rs} else t).p=t.p;by_cases h:t.n=n
 .rw[iA h]
 .rw[gA h]
theorem KS {n:Int} {rs:!Rn} {j:!Tk}:(ME n rs j).map Tk.n=j.map Tk.n:=by
 unfold ME;rw[wA];show IA λt ο=>?_;change (if t.n=n then {t with rs:=rs} else t).n=t.n;by_cases h:t.n=n
 .rw[iA h]
 .rw[gA h]
theorem iK {α β:Type} {f:α->β}:∀{xs:!α} {a b:α},(xs.map f).Nodup->a∈xs->b∈xs->f a=f b->a=b
 |[],_,_,_,h,_,_=>by simp at h
 |x::xs,a,b,nd,ha,hb,e=>by
  rw[rA,NA] at nd;let e1||h1:=pA.mp ha<;>let e2||h2:=pA.mp hb
  .rw[e1,e2]
  .show absurd (aA.mpr (b,h2,by rw[<-e,e1])) nd.1
  .show absurd (aA.mpr (a,h1,by rw[e,e2])) nd.1
  .show iK nd.2 h1 h2 e
theorem oE.set {A:sD} {H H':Hp} {j:Hz} {l f g:Int} {L:!Tk} {bk:Kvs} {t:Tk} {a':Addr} {J:!Rn} (h:oE A H j l f g L bk) (D:t∈L) (a0:rE A.Aa H' t.p a' J) (ho:jD J) (a1:J.length<=10000) (k:Bu t.p H H'):oE A H' j l f g (ME t.n J L) bk:=by
 let(a,(a2,vs,N,_,_),_):=h.st t D;let(W,Z):=h.me;let(Y,es):=id h.sh;show(⟨W,k _ _ Z (h.np t D).1.symm⟩,⟨Y,k _ _ es (h.np t D).2.symm⟩,by rw[lN];show k _ _ h.t (uD h.t N nofun),k _ _ h.b (uD h.b N nofun),λu U=>?_,by rw[sf];show h.nd,by rw[KS];show h.nk,h.vb,h.ne,λu U=>?_)
 .let(v,F,rfl):=aA.mp U;by_cases O:v.n=t.n
  .obtain rfl:v=t:=iK h.nk F D O;rw[iA rfl];show(a',a0,ho,a1)
  .rw[gA O];show (h.st v F).bu N (λj=>O (by rw[iK h.nd F D j])) k
 .let V:u.p∈(ME t.n J L).map Tk.p:=aA.mpr (u,U,rfl);rw[sf] at V;let(v,F,e):=aA.mp V;rw[<-e];show h.np v F
theorem EO {j:!Tk} {n:Int} (h:(inl n:Key)∈TD (bE j)) (nk:(j.map Tk.n).Nodup):∃t∈j,t.n=n/\KC (bE j) (inl n)=↑t.p:=by
 let(v,D):=pf h;let(t,L,e):=aA.mp (iq D);let F:(inl t.n:Key)=inl n:=congrArg Prod.fst e;let J:V.ref t.p=v:=congrArg Prod.snd e;show(t,L,kB F,by rw[J];show D)
def nN (A:sD):Sp:=λvs H Q E=>∃(z:Hz) (l f g:Int) (tks:!Tk) (bk:Kvs) (n:Int),vs=[.ref z.p,.int n]/\oE A H z l f g tks bk/\((inl n∈TD (bE tks)/\Q .non H)\/(inl n∉TD (bE tks)/\E (.ref A.Aw) none H))
theorem uI (T:JD K mg A):YC P w K mg base A.Ad "check_task" 1 ["self","task"] [] (nN A):=by
 show T.Ed.have Po (λvs H Q F j=>?_) ?_
 .let(j,l,f,g,L,bk,n,rfl,_):=j;rfl
 .intro f O N W s H vs Q F J j;let(j,l,V,g,L,bk,n,rfl,D,q):=j;let(U,h1):=D.me;show(_,(gD (yE (yJ (wO (KD J) (GC 1) (MD (GC 0) rfl))) (gD (NH LH rfl T.Ml (IC kG MC))) FE)),?_);unfold UE;rfl';simp only[h1];rfl';show(T.Ai,T.Am,_,DI,j.td,rfl,_,.inl (_,inl n,.inl D.t,rfl,rfl),?_);let(h,q)||(h,q):=q
  .rw[zW h];show ND q
  .rw[AW h];show WD q
def rL (A:sD):Sp:=λvs H Q E=>∃(z:Hz) (l f g:Int) (tks:!Tk) (bk:Kvs) (n:Int),vs=[.ref z.p,.int n]/\oE A H z l f g tks bk/\((inl n∈TD bk/\Q .non H)\/(inl n∉TD bk/\E (.ref A.Bd) none H))
theorem DW (T:JD K mg A):YC P w K mg base A.Ad "check_bank" 1 ["self","bank"] [] (rL A):=by
 show T.Ee.have Qo (λvs H Q F j=>?_) ?_
 .let(j,l,f,g,L,bk,n,rfl,_):=j;rfl
 .intro f O N W s H vs Q F J j;let(j,l,V,g,L,bk,n,rfl,D,q):=j;let(U,h1):=D.me;show(_,(gD (yE (yJ (wO (KD J) (GC 1) (MD (GC 0) rfl))) (gD (NH LH rfl T.Mm (IC kG MC))) FE)),?_);unfold UE;rfl';simp only[h1];rfl';show(T.Ai,T.A8,_,JS,j.bd,rfl,_,.inl (bk,inl n,.inl D.b,rfl,rfl),?_);let(h,q)||(h,q):=q
  .rw[zW h];show ND q
  .rw[AW h];show WD q
def EW (A:sD):Sp:=λvs H Q E=>∃(z:Hz) (l f g:Int) (tks:!Tk) (bk:Kvs) (n x m:Int),vs=[.ref z.p,.int n,.int x,.int m]/\oE A H z l f g tks bk/\
 ((inl n∉TD (bE tks)/\E (.ref A.Aw) none H)\/(inl n∈TD (bE tks)/\HE x m (pw (l * f))=false/\E (.ref A.Al) none H)\/(inl n∈TD (bE tks)/\HE x m (pw (l * f))=true/\Q .non H))
theorem yQ (T:JD K mg A):YC P w K mg base A.Ad "check_stretch" 5 ["self","task","first","many"] [] (EW A):=by
 let U:=@uI P w K mg base A T;let W:=@aN P w K mg base A T;show T.Cy.have So (λvs H Q V j=>?_) ?_
 .let(j,l,f,g,O,bk,n,x,m,rfl,_):=j;rfl
 .intro f Z Y a1 s H vs Q V N j;let(j,l,F,g,O,bk,n,x,m,rfl,D,q):=j;let(a0,h1):=D.me;let(L,h2):=id D.sh;show(_,(fD (vE (VD (GC 0) T.Ai U (-N) qD (IC (GC 1) MC)))
   (gD (yE (UH (iH (VD (MD (GC 0) rfl) T.A0 W (-N) qD (IC (GC 2) (IC (GC 3) MC))))) (gD (NH LH rfl T.E2 (IC kG MC))) FE))),?_)
  unfold nN de;rfl';simp only[h1];rfl';show(gG ∅,j,rfl,l,F,g,O,bk,D,?_);let(h,q)||(h,J,q)||(h,J,q):=q
  .show .inr ⟨h,q⟩
  .show .inl (h,T.Ai,T.Bl,_,CW,j.sh,rfl,L,_,h2,CJ ∅,j.sh,rfl,l,F,g,D.sh,?_);rw[J];show WD q
  .show .inl (h,T.Ai,T.Bl,_,CW,j.sh,rfl,L,_,h2,CJ ∅,j.sh,rfl,l,F,g,D.sh,?_);rw[J];show ND q
def uf (A:sD):Sp:=λvs H Q E=>∃(z:Hz) (l f g:Int) (tks:!Tk) (bk:Kvs) (b st m:Int),vs=[.ref z.p,.int b,.int st,.int m]/\oE A H z l f g tks bk/\
 ((inl b∉TD bk/\E (.ref A.Bd) none H)\/∃i:Int,KC bk (inl b)>(.int i)/\((¬(0<=st/\st<=i - m)/\E (.ref A.A4) none H)\/((0<=st/\st<=i - m)/\Q .non H)))
theorem zQ (T:JD K mg A):YC P w K mg base A.Ad "check_part_of_bank" 3 ["self","bank","start","many"] [] (uf A):=by
 let O:=@DW P w K mg base A T;let L:=@YM P w K mg base A T;show T.B7.have To (λvs H Q N j=>?_) ?_
 .let(j,l,f,g,J,bk,b,st,m,rfl,_):=j;rfl
 .intro f Y W a0 s H vs Q N F j;let(j,l,U,g,J,bk,b,st,m,rfl,D,q):=j;let(Z,h1):=D.me;show(_,(fD (vE (VD (GC 0) T.Ai O (-F) qD (IC (GC 1) MC)))
   (gD (yE (UH (iH (kE L (-F) qD (IC (GC 2) (IC ZC (IC (jE AJ (BE (KD F) (MD (GC 0) rfl) (GC 1) (λο ο=>rfl)) (GC 3)) MC)))))) (gD (NH LH rfl T.E3 (IC kG MC))) FE))),?_)
  unfold rL sp_is_within DD;rfl';simp only[h1];rfl';show(gG ∅,j,rfl,l,U,g,J,bk,D,?_);let(h,q)||(i,hi,q):=q
  .show .inr ⟨h,q⟩
  .show .inl (ET hi,T.Ai,T.A8,_,JS,j.bd,rfl,_,.inl (bk,inl b,.inl D.b,rfl,hi.symm),i,rfl,?_);rw[YI];let(h,q)||((h2,V),q):=q
   .let e:(decide (0<=st)&&decide (st<=i - m))=false:=by
     rw[Bool.eq_false_iff];intro j;simp only[OA,UA] at j;show h j
    rw[e];show WD q
   .rw[qA h2,qA V];show ND q
theorem oE.more {A:sD} {H H':Hp} {j:Hz} {l f g:Int} {J:!Tk} {bk:Kvs} {k:Int} {p:Addr} (h:oE A H j l f g J bk) (s:OC H H') (U:H p=none) (Z:cG A.Aa H' (k,p,[])) (hk:inl k∉TD (bE J)):
  oE A (JC H' j.td (.dK (bE (J++[(k,p,[])])))) j l f g (J++[(k,p,[])]) bk:=by
 let F:=h.same s;let(V,e):=F.me;let(Y,es):=id F.sh;let a0:∀t∈J,t.p≠p:=λt D j=>by
  let(a,(V,vs,L,_),_):=h.st t D;rw[j,U] at L;cases L
 show(⟨V,?_⟩,⟨Y,?_⟩,nD,?_,λt D=>?_,?_,?_,h.vb,h.ne,λt D=>?_)
 .rw[WC (uD e F.t nofun)];show e
 .rw[WC (uD es F.t nofun)];show es
 .rw[WC h.ne.symm];show F.b
 .let q||q:=jA.mp D
  .show (F.st t q).kd F.t JE
  .rw[bA.mp q];show Z.kd F.t JE
 .rw[nA,rA,EB,EA];show(h.nd,by simp,λa N b O=>?_);let(t,D,rfl):=aA.mp N;rw[bA.mp O];show a0 t D
 .rw[nA,rA,EB,EA];show(h.nk,by simp,λa N b O j=>?_);let(t,D,rfl):=aA.mp N;rw[bA.mp O] at j;show hk ?_;change _∈(bE J).map (·.1);unfold bE;rw[wA];show aA.mpr (t,D,by change (inl t.n:Key)=_;rw[j])
 .let q||q:=jA.mp D
  .show h.np t q
  .rw[bA.mp q];let(a1,W):=h.me;let(a2,L):=id h.sh;show⟨(λj=>by rw[<-j,U] at W;cases W),(λj=>by rw[<-j,U] at L;cases L)⟩
theorem oE.bank {A:sD} {H:Hp} {j:Hz} {l f g:Int} {F:!Tk} {bk D:Kvs} (h:oE A H j l f g F bk) (O:∀kv∈D,∃i:Int,kv.2=.int i):oE A (JC H j.bd (.dK D)) j l f g F D:=by
 let(J,e):=h.me;let(L,es):=id h.sh;show(⟨J,by rw[WC (uD e h.b nofun)];show e⟩,⟨L,by rw[WC (uD es h.b nofun)];show es⟩,by rw[WC h.ne];show h.t,nD,λt N=>(h.st t N).kd h.b JE,h.nd,h.nk,O,h.ne,h.np)
def sL (A:sD):Sp:=λvs H Q ο=>∃(z:Hz) (l f g:Int) (tks:!Tk) (bk:Kvs),vs=[.ref z.p]/\oE A H z l f g tks bk/\tks.length < 1000/\
 ∀(k:Nat) (p:Addr) (H':Hp),CI (TD (bE tks)) k->oE A H' z l f g (tks++[(k,p,[])]) bk->H p=none->Kd z.td H H'->Q (.int k) H'
theorem FW (T:JD K mg A):YC P w K mg base A.Ad "new_task" 3 ["self"] [] (sL A):=by
 let W:=@BW P w K mg base A T;let Y:=@df P w K mg base A T;show T.Fd.have Yc (λvs H Q Z D=>?_) ?_
 .let(D,l,f,g,L,bk,rfl,_):=D;rfl
 .intro f a6 a5 ah s H vs Q Z J D;let(D,l,a9,g,L,bk,rfl,N,ab,q):=D;let(a0,h1):=N.me;let ac:(bE L).length=L.length:=by unfold bE;rw[dA]
  show(_,(fD (ZD (i:=1) Yc.nd rfl (Or.inl rfl) (kE W (-J) qD (IC (MD (GC 0) rfl) MC)))
   (fD (CG (KD J) (MD (GC 0) rfl) (GC 1) (Ua Y (-J) qD) rfl)
   (gD (RD (GC 1))))),?_)
  unfold sp_least_free vW lE;rfl';simp only[h1];rfl';show(T.Ai,T.Am,_,DI,D.td,rfl,_,N.t,λk hk x ex O a2 ad j F=>?_);let V:j≠x:=λD=>by rw[D,nD] at F;cases F
  rw[WC V] at F;let a4:j≠ex:=λD=>by rw[D,nD] at F;cases F
  rw[WC a4] at F;let U:OC H (JC (JC (JC (JC H ex (.own x)) x (.ins A.Aa ex [])) j (.lst [])) x (.ins A.Aa ex (AH j))):=λc o h=>by
   rw[WC (FD h O),WC (FD h F),WC (FD h O),WC (FD h a2)];show h
  let a3:JC (JC (JC (JC H ex (.own x)) x (.ins A.Aa ex [])) j (.lst [])) x (.ins A.Aa ex (AH j)) x>(.ins A.Aa ex (AH j)):=nD;let a1:JC (JC (JC (JC H ex (.own x)) x (.ins A.Aa ex [])) j (.lst [])) x (.ins A.Aa ex (AH j)) j>(.lst []):=by rw[WC V,nD]
  generalize JC (JC (JC (JC H ex (.own x)) x (.ins A.Aa ex [])) j (.lst [])) x (.ins A.Aa ex (AH j))=H3 at *;let hz:=PySem.sizeLine_eq;show(_,a0,_,U _ _ h1,T.Ai,T.Am,_,DI,D.td,rfl,_,.inl (_,inl (k:Int),U _ _ N.t,rfl,⋯,rfl),?_);let e:iD (bE L) (inl (k:Int)) (.ref x)=bE (L++[(k,x,[])]):=by
   rw[qL hk.1];unfold bE;rw[nA];rfl
  rw[e];show q k x _ hk (N.more U O (j,(ex,[],a3,a1,.nil),⟨.nil,(λr J=>by simp at J)⟩,by change (0:Nat)<=10000;decide) hk.1) O ((Kd.of U).trans JE)
inductive tL (A:sD) (vs:!V) (H:Hp) (Q:VK) (E:XK):Prop where
 |mk (z:Hz) (l f g:Int) (tks:!Tk) (bk:Kvs) (n:Int) (_:vs=[.ref z.p,.int n]) (_:oE A H z l f g tks bk) (_:bk.length < 1000) (_:(((1<=n/\n<=64)/\∀(k:Nat) (H':Hp),CI (TD bk) k->oE A H' z l f g tks (bk++[(inl (k:Int),.int n)])->Kd z.bd H H'->Q (.int k) H')\/(¬(1<=n/\n<=64)/\E (.ref A.A4) none H))):tL A vs H Q E
def AQ (A:sD):Sp:=tL A
theorem GW (T:JD K mg A):YC P w K mg base A.Ad "new_bank" 4 ["self","many"] [] (AQ A):=by
 let L:=@BW P w K mg base A T;let J:=@YM P w K mg base A T;show T.Fe.have Zc (λvs H Q N j=>?_) ?_
 .let(j,l,f,g,V,bk,n,rfl,_):=j;rfl
 .intro f Y W a2 s H vs Q N F j;let(j,l,a0,g,V,bk,n,rfl,D,a1,q):=j;let(Z,h1):=D.me;show(_,(fD (yE (UH (iH (kE J (-F) qD (IC (GC 1) (IC ZC (IC (ZJ rfl T.Gv) MC)))))) (gD (NH LH rfl T.E3 (IC kG MC))) FE)
   (fD (ZD (i:=2) Zc.nd rfl (Or.inl rfl) (kE L (-F) qD (IC (MD (GC 0) rfl) MC)))
   (fD (CG (KD F) (MD (GC 0) rfl) (GC 2) (GC 1) rfl)
   (gD (RD (GC 2)))))),?_)
  unfold sp_least_free sp_is_within lE;rfl';simp only[h1];rfl';let hz:=PySem.sizeLine_eq;rw[YI];let((h2,O),q)||(h,q):=q
  .rw[qA h2,qA O];show ND (T.Ai,T.A8,_,JS,j.bd,rfl,bk,D.b,λk hk=>(T.Ai,T.A8,_,JS,j.bd,rfl,_,.inl (bk,inl (k:Int),D.b,rfl,⋯,rfl),?_));rw[qL hk.1];show q k _ hk (D.bank λkv U=>?_) JE;let q||q:=jA.mp U
   .show D.vb kv q
   .rw[bA.mp q];show⟨n,rfl⟩
  .let e:(decide (1<=n)&&decide (n<=64))=false:=by
    rw[Bool.eq_false_iff];intro j;simp only[OA,UA] at j;show h j
   rw[e];show WD q
def vI (rs:!Rn) (x m r:Int) (t:Option (Int×Int)):!Rn:=uE rs x m [(x,m,r,t)]
def bV:Option Int->V
 |none=>.non
 |some b=>.int b
def dG (b:Option Int) (st:Int):Option (Int×Int):=b.map λb=>(b,st)
inductive vf (A:sD) (vs:!V) (H:Hp) (Q:VK) (E:XK):Prop where
 |mk (z:Hz) (l f g:Int) (tks:!Tk) (bk:Kvs) (n x m r st:Int) (b:Option Int) (_:vs=[.ref z.p,.int n,.int x,.int m,.int r,bV b,.int st]) (_:oE A H z l f g tks bk) (_:((inl n∉TD (bE tks)/\E (.ref A.Aw) none H)\/(inl n∈TD (bE tks)/\HE x m (pw (l * f))=false/\E (.ref A.Al) none H)\/(inl n∈TD (bE tks)/\HE x m (pw (l * f))=true/\((¬(0<=r/\r<=3)/\E (.ref A.Ay) none H)\/((0<=r/\r<=3)/\((∃b',b>b'/\((inl b'∉TD bk/\E (.ref A.Bd) none H)\/∃i:Int,KC bk (inl b')>(.int i)/\¬(0<=st/\st<=i - m)/\E (.ref A.A4) none H))\/((∀b',b>b'->∃i:Int,KC bk (inl b')>(.int i)/\0<=st/\st<=i - m)/\∃t∈tks,t.n=n/\((gF t.rs x m≠[]/\∀H',OC H H'->E (.ref A.Bi) none H')\/(gF t.rs x m=[]/\jD (vI t.rs x m r (dG b st))/\(vI t.rs x m r (dG b st)).length<=10000/\∀H',oE A H' z l f g (ME n (vI t.rs x m r (dG b st)) tks) bk->Bu t.p H H'->Q .non H'))))))))):vf A vs H Q E
def HW (A:sD):Sp:=vf A
theorem pN (T:JD K mg A):bG P w K mg base "House.lay" hJ ["self","task","first","many","rights","bank","start","tie"] 8 (HW A):=by
 let a6:=@yQ P w K mg base A T;let a9:=@wQ P w K mg base A T;let ab:=@zQ P w K mg base A T;let ac:=@fq P w K mg base A T;intro f bn bl c1 s H vs Q bm N j;let(j,l,U,g,Z,bk,n,x,m,r,st,b,rfl,D,q):=j;let(ad,h1):=D.me;show(_,(fD (vE (VD (GC 0) T.Ai a6 (-N) qD (IC (GC 1) (IC (GC 2) (IC (GC 3) MC)))))
   (fD (vE (kE a9 (-N) qD (IC (GC 4) MC)))
   (fD (ZD (i:=7) ZU.nd rfl (Or.inl rfl) IG)
   (oI (yE (dF P9 (GC 5) IG (UC _)) (fD (vE (VD (GC 0) T.Ai ab (-N) qD (IC (GC 5) (IC (GC 6) (IC (GC 3) MC)))))
   (gD (ZD (i:=7) ZU.nd rfl (Or.inl rfl) (lG (IC (GC 5) (IC (GC 6) MC)))))) FE)
   (gD (vE (VD (BE (KD N) (MD (GC 0) rfl) (GC 1) (λο ο=>rfl)) T.Ag ac (-N) qD (IC (GC 2) (IC (GC 3) (IC (GC 4) (IC (GC 7) MC))))))))))),?_)
 unfold EW wW uf IS DD;rfl';simp only[h1];rfl';show(gG ∅,j,rfl,l,U,g,Z,bk,D,?_);let(h,q)||(h,W,q)||(h,W,q):=q
 .show .inl ⟨h,q⟩
 .show .inr (.inl (h,W,q))
 show .inr (.inr (h,W,?_));let(J,q)||(J,q):=q
 .rw[gA (by rw[YI];simpa using J)];show q
 rw[iA (by rw[YI,qA J.1,qA J.2];rfl)];let(a2,rfl,q)||(b2,t,Y,a5,q):=q
 .show(λο ο=>False,?_,λο ο j=>j.elim);unfold bV;rfl';simp only[h1];rfl';rw[HA nofun];show WD (gG ∅,j,rfl,l,U,g,Z,bk,D,?_);let(F,q)||(i,hi,F,q):=q
  .show .inl ⟨F,q⟩
  .show .inr (i,hi,.inl ⟨F,q⟩)
 show(λbh H'=>∃a0,bh=[↑j.p,some (.int n),some (.int x),some (.int m),some (.int r),some (bV b),some (.int st),some a0]/\OC H H'/\YD H' a0 (dG b st),?_,λc3 H'=>?_)
 .cases b with
  |none=>
   unfold bV;rfl';show ND ⟨mE,rfl⟩
  |some a2=>
   unfold bV;rfl';simp only[h1];rfl';rw[HA nofun];let(i,hi,F,am):=b2 a2 rfl;show WD (gG ∅,j,rfl,l,U,g,Z,bk,D,.inr (i,hi,.inr (F,am,λp L=>(wE mE L,p,rfl,nD))))
 rintro⟨a0,rfl,O,b1⟩;let V:=D.same O;rfl';let(t',bc,b5,bd):=EO h D.nk;obtain rfl:t'=t:=iK D.nk bc Y (b5.trans a5.symm);let(a,a3,ho,c0):=V.st t' Y;let(ah,c2,al,bo,bt):=id a3;show(_,ad,_,O _ _ h1,T.Ai,T.Am,_,DI,j.td,rfl,_,.inl (_,inl n,.inl V.t,rfl,bd.symm),t'.p,rfl,ah,_,al,tG ∅,?_);show(t'.p,rfl,a,t'.rs,a3,ho,⋯,dG b st,b1,?_);rw[iA J];let(L,q)||(L,bb,b4,q):=q
 .rw[gA L];show λa1 be=>q _ (O.trans be)
 .rw[iA L];show λa' a1 b0 a4=>q a1 (by rw[<-a5];show V.set Y b0 bb b4 a4) (λc o b3 b9=>a4 c o (O c o b3) b9)
theorem qN {A:sD}:∀vs H Q j,HW A vs H Q j->vs.length=7:=λvs H Q j D=>by
 let(D,l,f,g,F,bk,n,x,m,r,st,b,rfl,_):=D;rfl
theorem rN (T:JD K mg A):YC P w K mg base A.Ad "lay" 9 ["self","task","first","many","rights","bank","start"] [] (HW A):=T.Kk.have ZU qN (pN T)
inductive wf (A:sD) (vs:!V) (H:Hp) (Q:VK) (E:XK):Prop where
 |mk (z:Hz) (l f g:Int) (tks:!Tk) (bk:Kvs) (n x m:Int) (_:vs=[.ref z.p,.int n,.int x,.int m]) (_:oE A H z l f g tks bk) (_:((inl n∉TD (bE tks)/\E (.ref A.Aw) none H)\/(inl n∈TD (bE tks)/\HE x m (pw (l * f))=false/\E (.ref A.Al) none H)\/(inl n∈TD (bE tks)/\HE x m (pw (l * f))=true/\∃t∈tks,t.n=n/\((((gF t.rs x m).map (·.m)).sum≠m/\∀H',OC H H'->E (.ref A.An) none H')\/(((gF t.rs x m).map (·.m)).sum=m/\jD (uE t.rs x m [])/\(uE t.rs x m []).length<=10000/\∀H',oE A H' z l f g (ME n (uE t.rs x m []) tks) bk->Bu t.p H H'->Q .non H'))))):wf A vs H Q E
def lq (A:sD):Sp:=wf A
theorem sN (T:JD K mg A):YC P w K mg base A.Ad "lift" 9 ["self","task","first","many"] [] (lq A):=by
 let Y:=@yQ P w K mg base A T;let a0:=@xQ P w K mg base A T;show T.Iy.have wo (λvs H Q Z D=>?_) ?_
 .let(D,l,f,g,W,bk,n,x,m,rfl,_):=D;rfl
 .intro f al ah b3 s H vs Q Z L D;let(D,l,a4,g,W,bk,n,x,m,rfl,j,q):=D;let(am,h1):=j.me;show(_,(fD (vE (VD (GC 0) T.Ai Y (-L) qD (IC (GC 1) (IC (GC 2) (IC (GC 3) MC)))))
   (gD (vE (VD (BE (KD L) (MD (GC 0) rfl) (GC 1) (λο ο=>rfl)) T.Ag a0 (-L) qD (IC (GC 2) (IC (GC 3) MC)))))),?_)
  unfold EW gf DD;rfl';simp only[h1];rfl';show(gG ∅,D,rfl,l,a4,g,W,bk,j,?_);let(h,q)||(h,F,q)||(h,F,t,N,V,q):=q
  .show .inl ⟨h,q⟩
  .show .inr (.inl (h,F,q))
  let(t',ac,a9,ad):=EO h j.nk;obtain rfl:t'=t:=iK j.nk ac N (a9.trans V.symm);let(a,O,ho,b2):=j.st t' N;let(a2,b4,a3,b0,b1):=id O;show .inr (.inr (h,F,T.Ai,T.Am,_,DI,D.td,rfl,_,.inl (_,inl n,.inl j.t,rfl,ad.symm),t'.p,rfl,a2,_,a3,tG ∅,t'.p,rfl,a,t'.rs,O,ho,⋯,?_));let(J,q)||(J,ab,a6,q):=q
  .rw[gA J];show q
  .rw[iA J];show λa' a1 a5 U=>q a1 (by rw[<-V];show j.set N a5 ab a6 U) U
theorem oJ {j:!Tk} {t:Tk} (D:t∈j):(inl t.n:Key)∈TD (bE j):=by
 unfold TD bE;rw[wA];show aA.mpr (t,D,rfl)
def xf (A:sD):Sp:=λvs H Q E=>∃(z:Hz) (l f g:Int) (tks:!Tk) (bk:Kvs) (n x:Int),vs=[.ref z.p,.int n,.int x]/\oE A H z l f g tks bk/\
 ((inl n∉TD (bE tks)/\E (.ref A.Aw) none H)\/∃t∈tks,t.n=n/\∀v H',OC H H'->YD H' v ((pm t.rs x).bind (·.2))->Q v H')
theorem BQ (T:JD K mg A):YC P w K mg base A.Ad "tie_at" 7 ["self","task","page"] [] (xf A):=by
 let O:=@uI P w K mg base A T;let V:=@vQ P w K mg base A T;show T.Gy.have yo (λvs H Q U j=>?_) ?_
 .let(j,l,f,g,N,bk,n,x,rfl,_):=j;rfl
 .intro f a5 a4 ad s H vs Q U J j;let(j,l,Z,g,N,bk,n,x,rfl,D,q):=j;let(a6,h1):=D.me;show(_,(fD (vE (VD (GC 0) T.Ai O (-J) qD (IC (GC 1) MC)))
   (gD (RD (VD (BE (KD J) (MD (GC 0) rfl) (GC 1) (λο ο=>rfl)) T.Ag V (-J) qD (IC (GC 2) MC))))),?_)
  unfold nN cf DD;rfl';simp only[h1];rfl';show(gG ∅,j,rfl,l,Z,g,N,bk,D,?_);let(h,q)||(t,F,a0,q):=q
  .show .inr ⟨h,q⟩
  subst a0;let(t',a2,a1,a3):=EO (oJ F) D.nk;obtain rfl:t'=t:=iK D.nk a2 F a1;let(a,L,ho,ac):=D.st t' F;let(W,ah,Y,a9,ab):=id L;show .inl (oJ F,T.Ai,T.Am,_,DI,j.td,rfl,_,.inl (_,inl t'.n,.inl D.t,rfl,a3.symm),t'.p,rfl,W,_,Y,tG ∅,t'.p,rfl,a,t'.rs,L,ho,⋯,q)
def uL (A:sD):Sp:=λvs H Q E=>∃(z:Hz) (l f g:Int) (tks:!Tk) (bk:Kvs) (n:Int),vs=[.ref z.p,.int n]/\oE A H z l f g tks bk/\
 ((inl n∉TD (bE tks)/\E (.ref A.Aw) none H)\/∃t∈tks,t.n=n/\∀b us,H b=none->TC (JC H b (.lst us)) us t.rs->Q (.ref b) (JC H b (.lst us)))
theorem IW (T:JD K mg A):YC P w K mg base A.Ad "stretches_of" 2 ["self","task"] [] (uL A):=by
 let O:=@uI P w K mg base A T;let V:=@aq P w K mg base A T;show T.Da.have zo (λvs H Q U j=>?_) ?_
 .let(j,l,f,g,N,bk,n,rfl,_):=j;rfl
 .intro f a5 a4 ad s H vs Q U J j;let(j,l,Z,g,N,bk,n,rfl,D,q):=j;let(a6,h1):=D.me;show(_,(fD (vE (VD (GC 0) T.Ai O (-J) qD (IC (GC 1) MC)))
   (gD (RD (IK (BE (KD J) (MD (GC 0) rfl) (GC 1) (λο ο=>rfl)) T.Ag V (-J) qD)))),?_)
  unfold nN DD af;rfl';simp only[h1];rfl';show(gG ∅,j,rfl,l,Z,g,N,bk,D,?_);let(h,q)||(t,F,a0,q):=q
  .show .inr ⟨h,q⟩
  subst a0;let(t',a2,a1,a3):=EO (oJ F) D.nk;obtain rfl:t'=t:=iK D.nk a2 F a1;let(a,L,ho,ac):=D.st t' F;let(W,ah,Y,a9,ab):=id L;show .inl (oJ F,T.Ai,T.Am,_,DI,j.td,rfl,_,.inl (_,inl t'.n,.inl D.t,rfl,a3.symm),t'.p,rfl,W,_,Y,tG ∅,t'.p,rfl,a,t'.rs,L,q)
def JW (A : sD) : Sp := λvs H Q E => ∃ (z : Hz) (l f g : Int) (tks : !Tk) (bk : Kvs) (n a wn : Int), vs = [.ref z.p, .int n, .int a, .int wn] /\ oE A H z l f g tks bk /\ gd l f g /\
  ((inl n ∉ TD (bE tks) /\ E (.ref A.Aw) none H) \/ ∃ t ∈ tks, t.n = n /\ ((¬ (0 <= a /\ a < pw (l * f) * pw g) /\ E (.ref A.Al) none H) \/ ((0 <= a /\ a < pw (l * f) * pw g) /\ ((pm t.rs (a / pw g) = none /\ ∀ H', OC H H' -> E (.ref A.An) none H') \/
    ∃ r ti, pm t.rs (a / pw g) = some (r, ti) /\ ((Builtin.bitAnd r wn ≠ wn /\ ∀ H', OC H H' -> E (.ref A.Ax) none H') \/ (Builtin.bitAnd r wn = wn /\ ∀ p H', OC H H' -> H' p = some (.tup [.int (a / pw g), .int (a % pw g)]) -> Q (.ref p) H'))))))
theorem yf (T:JD K mg A):YC P w K mg base A.Ad "asked" 7 ["self","task","address","want"] [] (JW A):=by
 let a0:=@uI P w K mg base A T;let a3:=@cW P w K mg base A T;let a1:=@uQ P w K mg base A T;show T.Ia.have fV (λvs H Q a2 j=>?_) ?_
 .let(j,l,f,g,Z,bk,n,a,b1,rfl,_):=j;rfl
 .intro f b4 b2 bc s H vs Q a2 J j;let(j,l,O,g,Z,bk,n,a,b1,rfl,D,ab,q):=j;let(a4,h1):=D.me;let(a6,h2):=id D.sh;show(_,(fD (vE (VD (GC 0) T.Ai a0 (-J) qD (IC (GC 1) MC)))
   (fD (ZD (i:=4) fV.nd rfl (Or.inl rfl) (VD (MD (GC 0) rfl) T.A0 a3 (-J) qD (IC (GC 2) MC)))
   (fD (ZD (i:=5) fV.nd rfl (Or.inl rfl) (VD (BE (KD J) (MD (GC 0) rfl) (GC 1) (λο ο=>rfl)) T.Ag a1 (-J) qD (IC (pE QE (GC 4) ZC (λο ο=>rfl)) MC)))
   (fD (yE (dF KI (GC 5) IG (UC _)) (gD (NH LH rfl T.E4 (IC kG MC))) FE)
   (fD (yE (dF uP (jE eM (GC 5) (GC 3)) (GC 3) (UC _)) (gD (NH LH rfl T.Ll (IC kG MC))) FE)
   (gD (RD (GC 4)))))))),?_)
  unfold nN iL bf DD;rfl';simp only[h1];rfl';show(gG ∅,j,rfl,l,O,g,Z,bk,D,?_);let(h,q)||(t,L,ac,q):=q
  .show .inr ⟨h,q⟩
  subst ac;let(t',al,ad,am):=EO (oJ L) D.nk;obtain rfl:t'=t:=iK D.nk al L ad;show .inl (oJ L,T.Ai,T.Bl,_,CW,j.sh,rfl,a6,_,h2,CJ ∅,j.sh,rfl,l,O,g,D.sh,ab,?_);let(c,q)||(c,q):=q
  .rw[gA c];show q
  rw[iA c];intro p ah;let F:=wE (o:=.tup [V.int (a / pw g),V.int (a % pw g)]) (mE (H:=H)) ah;let Y:JC H p (.tup [V.int (a / pw g),V.int (a % pw g)]) p>(.tup [V.int (a / pw g),V.int (a % pw g)]):=nD;let W:=D.same F;generalize JC H p (.tup [V.int (a / pw g),V.int (a % pw g)])=H1 at *;let(b,U,ho,bb):=W.st t' L;let(a5,bd,a9,b5,b9):=id U;show(_,a4,_,F _ _ h1,T.Ai,T.Am,_,DI,j.td,rfl,_,.inl (_,inl t'.n,.inl W.t,rfl,am.symm),t'.p,rfl,a5,_,a9,tG ∅,_,HD.of Y,.int (a / pw g),rfl,t'.p,rfl,b,t'.rs,a / pw g,rfl,U,ho,⋯,λb3 N=>?_);let(e,q)||(r,b0,e,q):=q
  .rw[e,iA (show oR none=V.non from rfl)];show q _ (F.trans N)
  .rw[e,gA (show ¬oR (some (r,b0))=V.non from λj=>nomatch j)];change ∃i,V.int r=V.int i/\_;show(r,rfl,?_);let(e,q)||(e,q):=q
   .rw[iA (by simpa using e)];show q _ (F.trans N)
   .rw[gA (by simpa using e)];show q _ _ (F.trans N) (N _ _ Y)
def DG (n:Int) (tks:!Tk):!Tk:=tks.filter λt=>decide (t.n≠n)
theorem tN {n:Int} {D:!Tk}:dD (bE D) (inl n)=bE (DG n D):=by
 unfold dD bE DG;rw[gC];congr 1;show nC λt ο=>?_;change decide ((inl t.n:Key)≠inl n)=decide (t.n≠n);rw[rB];simp only[UA];show⟨λj e=>j (by rw[e]),λj e=>j (kB e)⟩
theorem oE.less {A:sD} {H:Hp} {j:Hz} {l f g:Int} {F:!Tk} {bk:Kvs} {n:Int} (h:oE A H j l f g F bk):oE A (JC H j.td (.dK (bE (DG n F)))) j l f g (DG n F) bk:=by
 let(J,e):=h.me;let(L,es):=id h.sh;let sub:∀t∈DG n F,t∈F:=λt D=>(DA.mp D).1;show(⟨J,by rw[WC (uD e h.t nofun)];show e⟩,⟨L,by rw[WC (uD es h.t nofun)];show es⟩,nD,by rw[WC h.ne.symm];show h.b,λt D=>(h.st t (sub t D)).kd h.t JE,h.nd.sublist (List.Sublist.map _ dC),h.nk.sublist (List.Sublist.map _ dC),h.vb,h.ne,λt D=>h.np t (sub t D))
theorem oE.kd {A:sD} {H H':Hp} {j:Hz} {l f g:Int} {D:!Tk} {bk kvs:Kvs} {d:Addr} (h:oE A H j l f g D bk) (hd:H d>(.dK kvs)) (n1:d≠j.td) (N:d≠j.bd) (k:Kd d H H'):oE A H' j l f g D bk:=by
 let(F,e):=h.me;let(J,es):=id h.sh;show(⟨F,k _ _ e (uD e hd nofun)⟩,⟨J,k _ _ es (uD es hd nofun)⟩,k _ _ h.t n1.symm,k _ _ h.b N.symm,λt L=>(h.st t L).kd hd k,h.nd,h.nk,h.vb,h.ne,h.np)
def zf (A:sD):Sp:=λvs H Q E=>∃(z:Hz) (l f g:Int) (tks:!Tk) (bk:Kvs) (n:Int),vs=[.ref z.p,.int n]/\oE A H z l f g tks bk/\
 ((inl n∈TD (bE tks)/\∀H',oE A H' z l f g (DG n tks) bk->Kd z.td H H'->Q .non H')\/(inl n∉TD (bE tks)/\E (.ref A.Aw) none H))
theorem CQ (T:JD K mg A):YC P w K mg base A.Ad "end_task" 2 ["self","task"] [] (zf A):=by
 let J:=@uI P w K mg base A T;show T.Ff.have xo (λvs H Q L j=>?_) ?_
 .let(j,l,f,g,F,bk,n,rfl,_):=j;rfl
 .intro f W V Z s H vs Q L O j;let(j,l,N,g,F,bk,n,rfl,D,q):=j;let(Y,h1):=D.me;show(_,(fD (vE (VD (GC 0) T.Ai J (-O) qD (IC (GC 1) MC)))
   (gD (vE (sM (MD (GC 0) rfl) (GC 1) (rfl,rfl,rfl,rfl))))),?_)
  unfold nN NF;rfl';simp only[h1];rfl';show(gG ∅,j,rfl,l,N,g,F,bk,D,?_);let(h,q)||(h,q):=q
  .let(v,U):=pf h;show .inl (h,T.Ai,T.Am,_,DI,j.td,rfl,.inl ⟨_,.inl D.t⟩,_,D.t,inl n,rfl,v,U,?_);rw[tN];show q _ D.less JE
  .show .inr ⟨h,q⟩
theorem oE.moreR {A:sD} {H H':Hp} {j:Hz} {l f g:Int} {J:!Tk} {bk:Kvs} {k:Int} {p:Addr} {rs:!Rn} (h:oE A H j l f g J bk) (s:OC H H') (U:H p=none) (Z:cG A.Aa H' (k,p,rs)) (hk:inl k∉TD (bE J)):
  oE A (JC H' j.td (.dK (bE (J++[(k,p,rs)])))) j l f g (J++[(k,p,rs)]) bk:=by
 let F:=h.same s;let(V,e):=F.me;let(Y,es):=id F.sh;let a0:∀t∈J,t.p≠p:=λt D j=>by
  let(a,(V,vs,L,_),_):=h.st t D;rw[j,U] at L;cases L
 show(⟨V,?_⟩,⟨Y,?_⟩,nD,?_,λt D=>?_,?_,?_,h.vb,h.ne,λt D=>?_)
 .rw[WC (uD e F.t nofun)];show e
 .rw[WC (uD es F.t nofun)];show es
 .rw[WC h.ne.symm];show F.b
 .let q||q:=jA.mp D
  .show (F.st t q).kd F.t JE
  .rw[bA.mp q];show Z.kd F.t JE
 .rw[nA,rA,EB,EA];show(h.nd,by simp,λa N b O=>?_);let(t,D,rfl):=aA.mp N;rw[bA.mp O];show a0 t D
 .rw[nA,rA,EB,EA];show(h.nk,by simp,λa N b O j=>?_);let(t,D,rfl):=aA.mp N;rw[bA.mp O] at j;show hk ?_;change _∈(bE J).map (·.1);unfold bE;rw[wA];show aA.mpr (t,D,by change (inl t.n:Key)=_;rw[j])
 .let q||q:=jA.mp D
  .show h.np t q
  .rw[bA.mp q];let(a1,W):=h.me;let(a2,L):=id h.sh;show⟨(λj=>by rw[<-j,U] at W;cases W),(λj=>by rw[<-j,U] at L;cases L)⟩
def Rf (A:sD):Sp:=λvs H Q E=>∃(z:Hz) (l f g:Int) (tks:!Tk) (bk:Kvs) (n:Int),vs=[.ref z.p,.int n]/\oE A H z l f g tks bk/\tks.length < 1000/\
 ((inl n∉TD (bE tks)/\E (.ref A.Aw) none H)\/∃t∈tks,t.n=n/\∀(k:Nat) (p:Addr) (H':Hp),CI (TD (bE tks)) k->oE A H' z l f g (tks++[(k,p,t.rs)]) bk->H p=none->Kd z.td H H'->Q (.int k) H')
theorem uN (T:JD K mg A):YC P w K mg base A.Ad "fork" 4 ["self","task"] [] (Rf A):=by
 let W:=@uI P w K mg base A T;let Y:=@BW P w K mg base A T;let a0:=@gq P w K mg base A T;show T.Iz.have Td (λvs H Q Z D=>?_) ?_
 .let(D,l,f,g,F,bk,n,rfl,_):=D;rfl
 .intro f am ah b4 s H vs Q Z J D;let(D,l,a4,g,F,bk,n,rfl,j,b2,q):=D;let(a1,h1):=j.me;let b3:(bE F).length=F.length:=by unfold bE;rw[dA]
  show(_,(fD (vE (VD (GC 0) T.Ai W (-J) qD (IC (GC 1) MC)))
   (fD (ZD (i:=2) Td.nd rfl (Or.inl rfl) (kE Y (-J) qD (IC (MD (GC 0) rfl) MC)))
   (fD (CG (KD J) (MD (GC 0) rfl) (GC 2) (IK (BE (KD J) (MD (GC 0) rfl) (GC 1) (λο ο=>rfl)) T.Ag a0 (-J) qD) rfl)
   (gD (RD (GC 2)))))),?_)
  unfold sp_least_free jf nN lE DD;rfl';simp only[h1];rfl';show(gG ∅,D,rfl,l,a4,g,F,bk,j,?_);let(h,q)||(t,L,a9,q):=q
  .show .inr ⟨h,q⟩
  subst a9;let(t',ac,ab,ad):=EO (oJ L) j.nk;obtain rfl:t'=t:=iK j.nk ac L ab;let(a,U,ho,a6):=j.st t' L;let(a2,b5,a3,b0,b1):=id U;show .inl (oJ L,T.Ai,T.Am,_,DI,D.td,rfl,_,j.t,λk hk=>(T.Ai,T.Am,_,DI,D.td,rfl,_,.inl (_,inl t'.n,.inl j.t,rfl,ad.symm),t'.p,rfl,a2,_,a3,tG ∅,t'.p,rfl,a,t'.rs,U,λO a' al N V a5=>?_));let hz:=PySem.sizeLine_eq;show(_,a1,_,N _ _ h1,T.Ai,T.Am,_,DI,D.td,rfl,_,.inl (_,inl (k:Int),N _ _ j.t,rfl,⋯,rfl),?_);let e:iD (bE F) (inl (k:Int)) (.ref O)=bE (F++[(k,O,t'.rs)]):=by
   rw[qL hk.1];unfold bE;rw[nA];rfl
  rw[e];show q k O _ hk (j.moreR N V (a',a5,ho,a6) hk.1) V ((Kd.of N).trans JE)
def wG (sh:Addr) (most:Int) (ho sd hd:Addr) (made:Int) (pd bd:Addr):!(Str×V):=QC "banked" (.ref bd) (QC "private" (.ref pd) (QC "made" (.int made) (QC "havers" (.ref hd) (QC "sheets" (.ref sd) (QC "house" (.ref ho) (QC "most" (.int most) (QC "shape" (.ref sh) [])))))))
theorem mq {sh ho sd hd pd bd:Addr} {most made:Int}:(wG sh most ho sd hd made pd bd).lookup ("shape":Str)=↑sh:=by rfl
theorem oq {sh ho sd hd pd bd:Addr} {most made:Int}:(wG sh most ho sd hd made pd bd).lookup ("most":Str)>(.int most):=by rfl
theorem FJ {sh ho sd hd pd bd:Addr} {most made:Int}:(wG sh most ho sd hd made pd bd).lookup ("house":Str)=↑ho:=by rfl
theorem vL {sh ho sd hd pd bd:Addr} {most made:Int}:(wG sh most ho sd hd made pd bd).lookup ("sheets":Str)=↑sd:=by rfl
theorem jK {sh ho sd hd pd bd:Addr} {most made:Int}:(wG sh most ho sd hd made pd bd).lookup ("havers":Str)=↑hd:=by rfl
theorem LS {sh ho sd hd pd bd:Addr} {most made:Int}:(wG sh most ho sd hd made pd bd).lookup ("made":Str)>(.int made):=by rfl
theorem kK {sh ho sd hd pd bd:Addr} {most made:Int}:(wG sh most ho sd hd made pd bd).lookup ("private":Str)=↑pd:=by rfl
theorem KW {sh ho sd hd pd bd:Addr} {most made:Int}:(wG sh most ho sd hd made pd bd).lookup ("banked":Str)=↑bd:=by rfl
theorem rq {sh ho sd hd pd bd:Addr} {most made:Int}:(wG sh most ho sd hd made pd bd).length < 1000:=by change 8 < 1000;decide
set_option genInjectivity false in
structure Ro where
 p:Addr
 sh:Addr
 ho:Addr
 sd:Addr
 hd:Addr
 pd:Addr
 bd:Addr
 most:Int
set_option genInjectivity false in
structure Sh where
 n:Int
 a:Addr
 xs:!Int
 h:Int
def FF (S:!Sh):Kvs:=S.map λs=>((inl s.n:Key),V.ref s.a)
def RE (S:!Sh):Kvs:=S.map λs=>((inl s.n:Key),V.int s.h)
structure fE (A:sD) (H:Hp) (r:Ro) (made:Int) (S:!Sh):Prop where
 me:∃dx,H r.p>(.ins A.Ab dx (wG r.sh r.most r.ho r.sd r.hd made r.pd r.bd))
 s:H r.sd>(.dK (FF S))
 h:H r.hd>(.dK (RE S))
 x:∀s∈S,H s.a>(.lst (s.xs.map V.int))
 nd:(S.map Sh.a).Nodup
 nn:(S.map Sh.n).Nodup
 b:∀s∈S,s.n < made
 ne:r.sd≠r.hd
theorem fE.same {H H':Hp} {r:Ro} {made:Int} {S:!Sh} (h:fE A H r made S) (s:OC H H'):fE A H' r made S:=(let ⟨dx,e⟩:=h.me;⟨dx,s _ _ e⟩,s _ _ h.s,s _ _ h.h,λt j=>s _ _ (h.x t j),h.nd,h.nn,h.b,h.ne)
theorem sF {sh ho sd hd pd bd:Addr} {most made:Int} {m:Str} (h:¬m∈(["shape","most","house","sheets","havers","made","private","banked"]:!Str)):(wG sh most ho sd hd made pd bd).lookup m=none:=by
 simp only[pA,WA,BC,not_or] at h;let(h1,h2,j,D,F,J,L,N):=h;unfold wG;simp only[sO,h1,h2,j,D,F,J,L,N,HB]
 rfl
def Rk (r:Ro) (H H':Hp):Prop:=∀c o,H c>o->c≠r.p->c≠r.sd->c≠r.hd->H' c>o
theorem sq {A:sD} {H:Hp} {r:Ro} {made:Int} {S:!Sh} (h:fE A H r made S):(inl made:Key)∉TD (FF S)/\(inl made:Key)∉TD (RE S):=by
 let J:∀s∈S,s.n≠made:=λs j e=>by have:=h.b s j;omega
 constructor
 .intro F;let(p,D,e):=aA.mp F;let(s,j,rfl):=aA.mp D;show J s j (kB e)
 .intro F;let(p,D,e):=aA.mp F;let(s,j,rfl):=aA.mp D;show J s j (kB e)
def Sf (A:sD):Sp:=λvs H Q E=>∃(r:Ro) (made:Int) (S:!Sh) (b:Addr) (ys:!Int),vs=[.ref r.p,.ref b]/\fE A H r made S/\S.length<=100000/\H b>(.lst (ys.map V.int))/\
 (((S.length:Int)>=r.most/\E (.ref A.Ae) none H)\/((S.length:Int) < r.most/\∀l H',fE A H' r (made+1) (S++[(made,l,ys,1)])->H l=none->Rk r H H'->Q (.int made) H'))
theorem wL (T:JD K mg A):YC P w K mg base A.Ab "new_sheet" 1 ["self","boxes"] [] (Sf A):=by
 show T.Ey.have Pd (λvs H Q a4 j=>?_) ?_
 .let(r,made,S,b,ys,rfl,_):=j;rfl
 .intro f b9 b5 bc s H vs Q a4 a3 j;let(r,made,S,b,ys,rfl,D,F,a0,q):=j;let(L,h1):=D.me;show(_,(fD (yE (dF uT (fG RP rfl T.Bj PySem.boot_len (IC (MD (GC 0) rfl) MC)) (MD (GC 0) rfl) (UC _)) (gD (NH LH rfl T.Mo (IC kG MC))) FE)
   (fD (ZD (i:=2) Pd.nd rfl (Or.inl rfl) (MD (GC 0) rfl))
   (fD (BG (GC 0) (jE KG (GC 2) ZC) rfl)
   (fD (CG (KD a3) (MD (GC 0) rfl) (GC 2) (lI SR rfl T.Cv aC (IC (GC 1) MC)) rfl)
   (fD (CG (KD a3) (MD (GC 0) rfl) (GC 2) ZC rfl)
   (gD (RD (GC 2)))))))),?_)
  unfold lE;rfl';simp only[h1];rfl';let b0:(FF S).length=S.length:=by unfold FF;rw[dA]
  let bb:(RE S).length=S.length:=by unfold RE;rw[dA]
  let hz:=PySem.sizeLine_eq;show(T.Ac,T.As,_,vL,r.sd,rfl,_,D.s,T.Ac,T.Dj,_,oq,r.most,rfl,?_);rw[b0];let(h,q)||(h,q):=q
  .rw[iA h];show q
  rw[gA ⋯];let ep:QC "made" (.int (made+1)) (wG r.sh r.most r.ho r.sd r.hd made r.pd r.bd)=wG r.sh r.most r.ho r.sd r.hd (made+1) r.pd r.bd:=rfl;show(T.Ac,T.B8,_,LS,made,rfl,T.Ac,T.B8,rq,?_);rw[ep];let U:JC H r.p (.ins A.Ab L (wG r.sh r.most r.ho r.sd r.hd (made+1) r.pd r.bd)) r.p>(.ins A.Ab L (wG r.sh r.most r.ho r.sd r.hd (made+1) r.pd r.bd)):=nD;let k1:Kd r.p H (JC H r.p (.ins A.Ab L (wG r.sh r.most r.ho r.sd r.hd (made+1) r.pd r.bd))):=JE;let a9:∀l,JC H r.p (.ins A.Ab L (wG r.sh r.most r.ho r.sd r.hd (made+1) r.pd r.bd)) l=none->H l=none:=λl F=>by
   by_cases e:l=r.p
   .rw[e,nD] at F;cases F
   .rw[WC e] at F;show F
  generalize JC H r.p (.ins A.Ab L (wG r.sh r.most r.ho r.sd r.hd (made+1) r.pd r.bd))=H1 at *;let ad:=k1 _ _ a0 (uD a0 h1 nofun);let N:=k1 _ _ D.s (uD D.s h1 nofun);let O:=k1 _ _ D.h (uD D.h h1 nofun);show(_,.inl (BD.of ad),λl F=>?_);let u:=wE (o:=.lst (ys.map V.int)) (mE (H:=H1)) F;let ah:JC H1 l (.lst (ys.map V.int)) l>(.lst (ys.map V.int)):=nD;generalize JC H1 l (.lst (ys.map V.int))=H2 at *;let(ab,ac):=sq D;show(_,L,_,u _ _ U,T.Ac,T.As,_,vL,r.sd,rfl,_,.inl (FF S,inl made,u _ _ N,rfl,⋯,rfl),?_);rw[qL ab];let W:JC H2 r.sd (.dK (FF S++[(inl made,V.ref l)])) r.p>(.ins A.Ab L (wG r.sh r.most r.ho r.sd r.hd (made+1) r.pd r.bd)):=by
   rw[WC (uD (u _ _ U) (u _ _ N) nofun)];show u _ _ U
  let a1:JC H2 r.sd (.dK (FF S++[(inl made,V.ref l)])) r.hd>(.dK (RE S)):=by rw[WC D.ne.symm];show u _ _ O
  show(_,L,_,W,T.Ac,T.Ar,_,jK,r.hd,rfl,_,.inl (RE S,inl made,a1,rfl,⋯,rfl),?_);rw[qL ac];let b3:l≠r.sd:=λe=>by rw[e,N] at F;cases F
  let b4:l≠r.hd:=λe=>by rw[e,O] at F;cases F
  let a6:FF S++[(inl made,V.ref l)]=FF (S++[(made,l,ys,1)]):=by unfold FF;rw[nA];rfl
  let a5:RE S++[(inl made,V.int 1)]=RE (S++[(made,l,ys,1)]):=by unfold RE;rw[nA];rfl
  let al:r.p≠r.hd:=uD W a1 nofun;let am:∀s∈S,H2 s.a>(.lst (s.xs.map V.int)):=λs J=>u _ _ (k1 _ _ (D.x s J) (uD (D.x s J) h1 nofun));let a2:=a9 l F;show q l _ (⟨L,by rw[WC al];show W⟩,by rw[WC D.ne,nD,a6],by rw[nD,a5],λs J=>?_,?_,?_,λs J=>?_,D.ne) a2 (λc o h n1 b1 b2=>by rw[WC b2,WC b1];show u _ _ (k1 _ _ h n1))
  .let h||h:=jA.mp J
   .have:=am s h;rw[WC (uD this (u _ _ O) nofun),WC (uD this (u _ _ N) nofun)];show this
   .rw[bA.mp h];change JC _ _ _ l=_;rw[WC b4,WC b3];show ah
  .rw[nA,EA];show(D.nd,by simp,λx Y y Z=>?_);let(s,J,rfl):=aA.mp Y;rw[bA.mp Z];show FD (D.x s J) a2
  .rw[nA,EA];show(D.nn,by simp,λx Y y Z=>?_);let(s,J,rfl):=aA.mp Y;rw[bA.mp Z];change s.n≠made;have:=D.b s J;omega
  .let h||h:=jA.mp J
   .have:=D.b s h;omega
   .rw[bA.mp h];change made < made+1;omega
def tF (n:Int) (S:!Sh):!Sh:=S.filter λs=>decide (s.n≠n)
def CD (n:Int) (S:!Sh):!Sh:=S.map λs=>if s.n=n then {s with h:=s.h - 1} else s
def dI (n:Int) (h:Int) (S:!Sh):!Sh:=if h=1 then tF n S else CD n S
theorem NE {α β:Type} {f:α->β}:∀{xs:!α} {a b:α},(xs.map f).Nodup->a∈xs->b∈xs->f a=f b->a=b
 |[],_,_,_,h,_,_=>by simp at h
 |x::xs,a,b,nd,ha,hb,e=>by
  rw[rA,NA] at nd;let e1||h1:=pA.mp ha<;>let e2||h2:=pA.mp hb
  .rw[e1,e2]
  .show absurd (aA.mpr (b,h2,by rw[<-e,e1])) nd.1
  .show absurd (aA.mpr (a,h1,by rw[e,e2])) nd.1
  .show NE nd.2 h1 h2 e
theorem vN {S:!Sh} {s:Sh} (j:(S.map Sh.n).Nodup) (D:s∈S):KC (RE S) (inl s.n)>(.int s.h):=by
 induction S with
 |nil=>simp at D
 |cons u r F=>
  rw[rA,NA] at j;change KC ((inl u.n,V.int u.h)::RE r) (inl s.n)=_;let rfl||h:=pA.mp D
  .show jH rfl
  .rw[kH (λJ=>j.1 (by rw[show u.n=s.n from kB J];show aA.mpr (s,h,rfl)))];show F j.2 h
theorem DQ {S:!Sh} {s:Sh} (j:(S.map Sh.n).Nodup) (D:s∈S):KC (FF S) (inl s.n)=↑s.a:=by
 induction S with
 |nil=>simp at D
 |cons u r F=>
  rw[rA,NA] at j;change KC ((inl u.n,V.ref u.a)::FF r) (inl s.n)=_;let rfl||h:=pA.mp D
  .show jH rfl
  .rw[kH (λJ=>j.1 (by rw[show u.n=s.n from kB J];show aA.mpr (s,h,rfl)))];show F j.2 h
theorem tq {S:!Sh} {s:Sh} (D:(S.map Sh.n).Nodup) (j:s∈S):iD (RE S) (inl s.n) (.int (s.h - 1))=RE (CD s.n S):=by
 unfold iD;rw[BJ,vN D j,iA (show (some (V.int s.h)).isSome=true from rfl)];unfold RE CD;rw[wA,wA];show IA λu F=>?_;change (if (inl u.n:Key)=inl s.n then ((inl u.n:Key),V.int (s.h - 1)) else (inl u.n,V.int u.h))=(inl (if u.n=s.n then {u with h:=u.h - 1} else u).n,V.int (if u.n=s.n then {u with h:=u.h - 1} else u).h);by_cases c:u.n=s.n
 .let e:u=s:=NE D F j c;rw[iA (by rw[c]),iA c,e]
 .rw[gA (λJ=>c (kB J)),gA c]
theorem uq {S:!Sh} {n:Int}:tF n (CD n S)=tF n S:=by
 unfold tF CD
 induction S with
 |nil=>rfl
 |cons u r j=>
  by_cases c:u.n=n
  .rw[rA,iA c,wB (by simp[c]),wB (by simp[c]),j]
  .rw[rA,gA c,JB (by simp[c]),JB (by simp[c]),j]
theorem vq {S:!Sh} {n:Int}:dD (RE S) (inl n)=RE (tF n S):=by
 unfold dD RE tF;rw[gC];congr 1;show nC λt ο=>?_;change decide ((inl t.n:Key)≠inl n)=decide (t.n≠n);rw[rB];simp only[UA];show⟨λz e=>z (by rw[e]),λz e=>z (kB e)⟩
theorem wq {S:!Sh} {n:Int}:dD (FF S) (inl n)=FF (tF n S):=by
 unfold dD FF tF;rw[gC];congr 1;show nC λt ο=>?_;change decide ((inl t.n:Key)≠inl n)=decide (t.n≠n);rw[rB];simp only[UA];show⟨λz e=>z (by rw[e]),λz e=>z (kB e)⟩
theorem xq {S:!Sh} {n:Int}:FF (CD n S)=FF S:=by
 unfold FF CD;rw[wA];show IA λu ο=>?_;change ((inl (if u.n=n then {u with h:=u.h - 1} else u).n:Key),V.ref (if u.n=n then {u with h:=u.h - 1} else u).a)=_
 split<;>rfl
inductive Tf (A:sD) (vs:!V) (H:Hp) (Q:VK) (E:XK):Prop where
 |mk (r:Ro) (made:Int) (S:!Sh) (d:Addr) (kv:Kvs) (x:Int) (_:vs=[.ref r.p,.ref d,.int x]) (_:fE A H r made S) (_:H d>(.dK kv)) (_:d≠r.sd) (_:d≠r.hd) (_:S.length<=100000) (_:((KC kv (inl x)=none/\Q .non H)\/∃s∈S,KC kv (inl x)>(.int s.n)/\∀H',fE A H' r made (dI s.n s.h S)->H' d>(.dK (dD kv (inl x)))->(∀c o,H c>o->c≠d->c≠r.sd->c≠r.hd->H' c>o)->Q .non H')):Tf A vs H Q E
def wN (A:sD):Sp:=Tf A
theorem LW (T:JD K mg A):YC P w K mg base A.Ab "let_page_go" 1 ["self","pages","page"] [] (wN A):=by
 show T.Ds.have Qd (λvs H Q b0 D=>?_) ?_
 .let(r,made,S,d,kv,x,rfl,_):=D;rfl
 .intro f bd bc bh s H vs Q b0 Y D;let(r,made,S,d,kv,x,rfl,j,hd,n1,a4,be,q):=D;let(J,h1):=j.me;show(_,(fD (yE (yJ (wO (KD Y) (GC 2) (GC 1))) (gD Yi) FE)
   (fD (ZD (i:=3) Qd.nd rfl (Or.inl rfl) (sM (GC 1) (GC 2) (rfl,rfl,rfl,rfl)))
   (fD (CG (KD Y) (MD (GC 0) rfl) (GC 3) (jE AJ (BE (KD Y) (MD (GC 0) rfl) (GC 3) (λο ο=>rfl)) ZC) rfl)
   (gD (yE (dF jI (BE (KD Y) (MD (GC 0) rfl) (GC 3) (λο ο=>rfl)) ZC (UC _)) (fD (vE (sM (MD (GC 0) rfl) (GC 3) (rfl,rfl,rfl,rfl)))
   (gD (vE (sM (MD (GC 0) rfl) (GC 3) (rfl,rfl,rfl,rfl))))) FE))))),?_)
  unfold UE NF DD lE;rfl';let(a1,q)||(s,Z,a1,q):=q
  .show(_,.inl (kv,inl x,.inl hd,rfl,a1.symm),WD q)
  show(_,.inl (kv,inl x,.inl hd,rfl,a1.symm),ND (.inl ⟨_,.inl hd⟩,kv,hd,inl x,rfl,_,a1,?_));let k1:Kd d H (JC H d (.dK (dD kv (inl x)))):=JE;let b1:JC H d (.dK (dD kv (inl x))) d>(.dK (dD kv (inl x))):=nD;generalize JC H d (.dK (dD kv (inl x)))=H1 at *;let U:=k1 _ _ h1 (uD h1 hd nofun);let b5:=k1 _ _ j.s n1.symm;let O:=k1 _ _ j.h a4.symm;let hz:=PySem.sizeLine_eq;let b4:(RE S).length < PySem.sizeLine:=by unfold RE;rw[dA];omega
  show(_,J,_,U,T.Ac,T.Ar,_,jK,r.hd,rfl,_,.inl (RE S,inl s.n,.inl O,rfl,(vN j.nn Z).symm),s.h,rfl,_,J,_,U,T.Ac,T.Ar,_,jK,r.hd,rfl,_,.inl (RE S,inl s.n,O,rfl,b4,rfl),?_);rw[tq j.nn Z];let ac:r.p≠r.hd:=uD U O nofun;let k2:Kd r.hd H1 (JC H1 r.hd (.dK (RE (CD s.n S)))):=JE;let L:JC H1 r.hd (.dK (RE (CD s.n S))) r.hd>(.dK (RE (CD s.n S))):=nD;generalize JC H1 r.hd (.dK (RE (CD s.n S)))=H2 at *;let W:=k2 _ _ U ac;let ad:=k2 _ _ b5 j.ne;let ab:=k2 _ _ b1 a4;let al:∀t∈S,H2 t.a>(.lst (t.xs.map V.int)):=λt F=>by
   let a5:=k1 _ _ (j.x t F) (uD (j.x t F) hd nofun);show k2 _ _ a5 (uD a5 O nofun)
  let am:((CD s.n S).map Sh.n)=S.map Sh.n:=by
   unfold CD;rw[wA];show IA λu ο=>?_;change (if u.n=s.n then {u with h:=u.h - 1} else u).n=u.n
   split<;>rfl
  let bb:((CD s.n S).map Sh.a)=S.map Sh.a:=by
   unfold CD;rw[wA];show IA λu ο=>?_;change (if u.n=s.n then {u with h:=u.h - 1} else u).a=u.a
   split<;>rfl
  let b9:((s.n,s.a,s.xs,s.h - 1):Sh)∈CD s.n S:=aA.mpr (s,Z,iA rfl);let ah:KC (RE (CD s.n S)) (inl s.n)>(.int (s.h - 1)):=vN (s:=(s.n,s.a,s.xs,s.h - 1)) (by rw[am];show j.nn) b9;show(_,J,_,W,T.Ac,T.Ar,_,jK,r.hd,rfl,_,.inl (_,inl s.n,.inl L,rfl,ah.symm),rfl,?_);by_cases c:s.h=1;rotate_left
  .rw[gA (λD=>c (by have:=V.int.inj D;omega))];show q _ ?_ ab (λe o h h1 h2 N=>k2 _ _ (k1 _ _ h h1) N);unfold dI;rw[gA c];show(⟨J,W⟩,by rw[xq];show ad,L,λt F=>?_,by rw[bb];show j.nd,by rw[am];show j.nn,λt F=>?_,j.ne)
   .let(u,a3,rfl):=aA.mp F;have:=al u a3
    split<;>show this
   .let(u,a3,rfl):=aA.mp F;have:=j.b u a3
    split<;>show this
  rw[iA (by rw[c];rfl)];show(_,J,_,W,T.Ac,T.Ar,_,jK,r.hd,rfl,.inl ⟨_,.inl L⟩,_,L,inl s.n,rfl,_,ah,?_);rw[vq,uq];let k3:Kd r.hd H2 (JC H2 r.hd (.dK (RE (tF s.n S)))):=JE;let b3:JC H2 r.hd (.dK (RE (tF s.n S))) r.hd>(.dK (RE (tF s.n S))):=nD;generalize JC H2 r.hd (.dK (RE (tF s.n S)))=H3 at *;let a2:=k3 _ _ W ac;let a0:=k3 _ _ ad j.ne;let b2:=k3 _ _ ab a4;show(_,J,_,a2,T.Ac,T.As,_,vL,r.sd,rfl,.inl ⟨_,.inl a0⟩,_,a0,inl s.n,rfl,_,DQ j.nn Z,?_);rw[wq];let sub:∀t∈tF s.n S,t∈S:=λt F=>(DA.mp F).1;show q _ ?_ (by rw[WC n1];show b2) (λe o h h1 h2 N=>by rw[WC h2];show k3 _ _ (k2 _ _ (k1 _ _ h h1) N) N);unfold dI;rw[iA c];show(⟨J,by rw[WC (uD a2 a0 nofun)];show a2⟩,nD,by rw[WC j.ne.symm];show b3,λt F=>?_,j.nd.sublist (List.Sublist.map _ dC),j.nn.sublist (List.Sublist.map _ dC),λt F=>j.b t (sub t F),j.ne);let a6:=al t (sub t F);let a9:=k3 _ _ a6 (uD a6 L nofun);rw[WC (uD a9 a0 nofun)];show a9
inductive Uf (A:sD) (vs:!V) (H:Hp) (Q:VK) (E:XK):Prop where
 |mk (r:Ro) (made:Int) (S:!Sh) (_:vs=[.ref r.p]) (_:fE A H r made S) (_:Q (.int S.length) H):Uf A vs H Q E
def yq (A:sD):Sp:=Uf A
theorem xN (T:JD K mg A):YC P w K mg base A.Ab "live_sheets" 1 ["self"] [] (yq A):=by
 show T.Dq.have Xo (λvs H Q F j=>?_) ?_
 .let(r,made,S,rfl,_):=j;rfl
 .intro f L J U s H vs Q F O j;let(r,made,S,rfl,D,q):=j;let(N,h1):=D.me;show(_,(gD (RD (fG RP rfl T.Bj PySem.boot_len (IC (MD (GC 0) rfl) MC)))),?_);rfl';simp only[h1];rfl';show(T.Ac,T.As,_,vL,r.sd,rfl,_,D.s,?_);rw[show (FF S).length=S.length by unfold FF;rw[dA]];show q
def Vf (C:Addr):Sp:=λvs H Q ο=>∃(p:Addr) (l f g:Int),vs=[.ref p]/\aE C H p l f g/\Q (.int (pw g)) H
theorem yN (T:JD K mg A):YC P w K mg base A.Ah "sheet_size" 1 ["self"] [] (Vf A.Ah):=by
 show T.Eh.have Qn (λvs H Q D j=>?_) ?_
 .let(p,l,f,g,rfl,_):=j;rfl
 .intro f N L W s H vs Q D V j;let(p,l,U,g,rfl,F,q):=j;let(O,J):=id F;show(_,(gD (RD (MD (GC 0) rfl))),?_);rfl';simp only[J];rfl';show(T.A0,T.A9,_,xS,q)
def MW (A:sD):Sp:=λvs H Q ο=>∃(r:Ro) (made:Int) (S:!Sh) (l f g:Int),vs=[.ref r.p]/\fE A H r made S/\aE A.Ah H r.sh l f g/\gd l f g/\∀a H',OC H H'->H a=none->H' a>(.lst ((List.replicate (pw g).toNat (0:Int)).map V.int))->Q (.ref a) H'
theorem xL (T:JD K mg A):YC P w K mg base A.Ab "noughts" 2 ["self"] [] (MW A):=by
 let L:=@yN P w K mg base A T;show T.Gh.have Yo (λvs H Q J j=>?_) ?_
 .let(r,made,S,l,f,g,rfl,_):=j;rfl
 .intro f a4 a3 a5 s H vs Q J a1 j;let(r,made,S,l,U,g,rfl,W,F,Y,q):=j;let(N,h1):=W.me;let(O,h2):=id F;let b:=mJ Y;show(_,(gD (RD (jE nM (UJ (IC ZC MC)) (IK (MD (GC 0) rfl) T.A0 L (-a1) qD)))),?_);unfold Vf;rfl';intro p Z;let u:=wE (o:=.lst [V.int 0]) (mE (H:=H)) Z;let a0:JC H p (.lst [V.int 0]) p>(.lst [V.int 0]):=nD;let hz:=PySem.sizeLine_eq;generalize JC H p (.lst [V.int 0])=H1 at *;show(_,N,_,u _ _ h1,T.Ac,T.Cz,_,mq,r.sh,rfl,O,_,u _ _ h2,CJ ∅,r.sh,rfl,l,U,g,F.same u,p,pw g,[V.int 0],rfl,rfl,a0,⋯,⋯,by change 1 * (pw g).toNat<=PySem.sizeLine;omega,λa D=>?_);let e:(List.replicate (pw g).toNat [V.int 0]).flatten=(List.replicate (pw g).toNat (0:Int)).map V.int:=by
   generalize (pw g).toNat=k
   induction k with
   |zero=>rfl
   |succ k a2=>rw[eC,oC,a2,eC];rfl
  rw[e];show q a _ (u.trans (wE mE D)) (rG u D) nD
theorem fE.kd {H H':Hp} {r:Ro} {made:Int} {S:!Sh} {d:Addr} {kvs:Kvs} (h:fE A H r made S) (hd:H d>(.dK kvs)) (n1:d≠r.sd) (F:d≠r.hd) (k:Kd d H H'):fE A H' r made S:=
 (let ⟨dx,e⟩:=h.me;⟨dx,k _ _ e (uD e hd nofun)⟩,k _ _ h.s n1.symm,k _ _ h.h F.symm,λt D=>k _ _ (h.x t D) (uD (h.x t D) hd nofun),h.nd,h.nn,h.b,h.ne)
def Wf (A:sD):Sp:=λvs H Q E=>∃(r:Ro) (made:Int) (S:!Sh) (l f g:Int) (d:Addr) (kv:Kvs) (x:Int),vs=[.ref r.p,.ref d,.int x]/\fE A H r made S/\S.length<=100000/\aE A.Ah H r.sh l f g/\gd l f g/\r.sh≠r.p/\H d>(.dK kv)/\kv.length<=100000/\d≠r.sd/\d≠r.hd/\
 ((∃n:Int,KC kv (inl x)>(.int n)/\Q (.int n) H)\/(KC kv (inl x)=none/\(S.length:Int)>=r.most/\∀H',OC H H'->E (.ref A.Ae) none H')\/
 (KC kv (inl x)=none/\(S.length:Int) < r.most/\∀a H',fE A H' r (made+1) (S++[(made,a,List.replicate (pw g).toNat 0,1)])->H a=none->H' d>(.dK (kv++[(inl x,.int made)]))->(∀c o,H c>o->c≠d->c≠r.p->c≠r.sd->c≠r.hd->H' c>o)->Q (.int made) H'))
theorem EQ (T:JD K mg A):YC P w K mg base A.Ab "sheet_there" 3 ["self","pages","page"] [] (Wf A):=by
 let a4:=@xL P w K mg base A T;let a3:=@wL P w K mg base A T;show T.Dr.have Zo (λvs H Q a5 L=>?_) ?_
 .let(r,made,S,l,f,g,d,kv,x,rfl,_):=L;rfl
 .intro f b2 b0 b5 s H vs Q a5 J L;let(r,made,S,l,V,g,d,kv,x,rfl,F,a0,a1,Y,b4,hd,b3,n1,a2,q):=L;let(N,h1):=F.me;show(_,(fD (yE (yJ (wO (KD J) (GC 2) (GC 1))) (gD (CG (KD J) (GC 1) (GC 2) (VD (GC 0) T.Ac a3 (-J) qD (IC (IK (GC 0) T.Ac a4 (-J) qD) MC)) rfl)) FE)
   (gD (RD (BE (KD J) (GC 1) (GC 2) (λο ο=>rfl))))),?_)
  unfold MW Sf UE DD lE;rfl';let hz:=PySem.sizeLine_eq;let(n,j,q)||(j,U,q)||(j,U,q):=q
  .show(_,.inl (kv,inl x,.inl hd,rfl,j.symm),ND (_,.inl (kv,inl x,.inl hd,rfl,j.symm),q))
  .show(_,.inl (kv,inl x,.inl hd,rfl,j.symm),WD (N,_,h1,sF ∅,N,_,h1,sF ∅,r,rfl,made,S,F,l,V,g,a1,Y,λa a6 D ah O=>(r,rfl,made,S,F.same D,a0,_,O,.inl ⟨U,q _ D⟩)))
  .show(_,.inl (kv,inl x,.inl hd,rfl,j.symm),WD (N,_,h1,sF ∅,N,_,h1,sF ∅,r,rfl,made,S,F,l,V,g,a1,Y,λa a6 D ah O=>(r,rfl,made,S,F.same D,a0,_,O,.inr ⟨U,λa9 b1 ad al Z=>?_⟩)));let am:=D _ _ hd;let W:=Z _ _ am (uD hd h1 nofun) n1 a2;show(_,.inl (kv,inl x,W,rfl,⋯,rfl),?_);rw[FK _ j];show(.int made,.inl (_,inl x,.inl nD,rfl,by rw[WR _ _ _ _ j,iA rfl]),q a9 _ (ad.kd W n1 a2 JE) (rG D al) nD (λc o h h1 h2 ab ac=>by rw[WC h1];show Z _ _ (D _ _ h) h2 ab ac))
abbrev Pg:=Int×Int×Option (Int×Int)
def EG (H:Hp) (v:V) (p:Pg):Prop:=∃a tv,v=.ref a/\H a>(.tup [.int p.1,.int p.2.1,tv])/\YD H tv p.2.2
theorem EG.same {H H':Hp} {v:V} {p:Pg} (h:EG H v p) (s:OC H H'):EG H' v p:=let ⟨a,tv,e,h1,h2⟩:=h;(a,tv,e,s _ _ h1,h2.same s)
theorem EG.kd {H H':Hp} {v:V} {p:Pg} {d:Addr} {vs:!V} (h:EG H v p) (hd:H d>(.lst vs)) (k:Kd d H H'):EG H' v p:=
 let ⟨a,tv,e,h1,h2⟩:=h;(a,tv,e,k _ _ h1 (uD h1 hd nofun),YD.kd hd (λο z=>nomatch z) k h2)
def FO (r:Rn):!Pg:=(List.range r.m.toNat).map λ(i:Nat)=>(r.f+(i:Int),r.r,tf r (r.f+(i:Int)))
def xG (rs:!Rn):!Pg:=(rs.map FO).flatten
theorem lK {D:Type} {j S:V->D->Prop} {us:!V} {ps:!D} (h:Paired j us ps) (f:∀v p,j v p->S v p):Paired S us ps:=by
 induction h with
 |nil=>show .nil
 |cons a _ F=>show .cons (f _ _ a) F
theorem GO {α β:Type} {F:α->β->Prop}:∀{xs:!α} {ys:!β} {zs:!α} {ws:!β},Paired F xs ys->Paired F zs ws->Paired F (xs++zs) (ys++ws)
 |_,_,_,_,.nil,h=>h
 |_,_,_,_,.cons r t,h=>.cons r (GO t h)
inductive yL (A:sD) (vs:!V) (H:Hp) (Q:VK) (E:XK):Prop where
 |mk (z:Hz) (l f g:Int) (tks:!Tk) (bk:Kvs) (n:Int) (t:Tk) (_:vs=[.ref z.p,.int n]) (_:oE A H z l f g tks bk) (_:t∈tks) (_:t.n=n) (_:(∀r∈t.rs,0<=r.f/\0<=r.m/\bD r<=100000000)) (_:(xG t.rs).length<=100000) (_:∀b us H',OC H H'->H b=none->H' b>(.lst us)->Paired (EG H') us (xG t.rs)->Q (.ref b) H'):yL A vs H Q E
def FQ (A:sD):Sp:=yL A
theorem NW (T:JD K mg A):YC P w K mg base A.Ad "pages_of" 3 ["self","task"] [] (FQ A):=by
 let bm:=@IW P w K mg base A T;let bh:=@tQ P w K mg base A T;let bl:=@oW P w K mg base A T;show T.Fg.have lV (λvs H Q bn F=>?_) ?_
 .let(F,l,f,g,dp,bk,n,t,rfl,_):=F;rfl
 .intro f co cm dm s H vs Q bn ad F;let(F,l,c2,g,cl,bk,n,t,rfl,b5,ca,Z,c7,c6,q):=F;let(bo,h1):=b5.me;show(_,(fD (ZD (i:=2) lV.nd rfl (Or.inl rfl) (UJ MC))
   (fD (AI jB rfl (yI (VD (GC 0) T.Ai bm (-ad) qD (IC (GC 1) MC))) (SF (i:=3) lV.nd rfl (Or.inr rfl)) (gD (vE (TR PySem.F.plainAttrs_list PySem.F.slot_list_extend PySem.F.type_list_extend Uj (GC 2) (IC (PK rfl (i9 rfl T.Ce (IC (pE QE (GC 3) ZC (λο ο=>rfl)) (IC (kE bh (-ad) qD (IC (GC 3) MC)) MC))) (x:="page") (fs:=["run"]) (ix:=[3]) rfl rfl (λο ο ο ο ο ο=>(SF (i:=0) (show (["page","run"]:!Str).Nodup by decide+kernel) rfl (Or.inl rfl))) (λο ο ο ο ο ο=>MK) (λο ο ο ο ο ο=>(lG (IC (GC 0) (IC (pE (cQ (K:=K) rfl) (GC 1) ZC (λο ο=>rfl)) (IC (kE bl (-ad) DM (IC (GC 1) (IC (GC 0) MC))) MC)))))) MC)))))
   (gD (RD (GC 2))))),?_)
  unfold uL DO GS;rfl';intro p ab;let am:=wE (o:=.lst []) (mE (H:=H)) ab;let bc:JC H p (.lst []) p>(.lst []):=nD;generalize JC H p (.lst [])=H1 at *;show(bo,_,am _ _ h1,gG ∅,F,rfl,l,c2,g,cl,bk,b5.same am,.inr (t,ca,Z,λb us a9 a6=>?_));let be:=wE (o:=.lst us) (mE (H:=H1)) a9;let b9:JC H1 b (.lst us) b>(.lst us):=nD;generalize JC H1 b (.lst us)=H2 at *;let ck:us.length=t.rs.length:=Paired.length a6;let bd:=be _ _ bc;let c5:b≠p:=λe=>by rw[e,bc] at a9;cases a9
  show⟨⟨_,BD.of b9⟩,yM (K:=K) (xs:=us) (λi J H'=>∃vs b2,J=[↑F.p,some (.int n),↑p,b2]/\Kd p H2 H'/\H' p>(.lst vs)/\Paired (EG H') vs (xG (t.rs.take i))) (_,_,rfl,λο ο h ο=>h,bd,.nil) (λi J H' _ b3=>by let(_,_,b3):=b3;show BD.of (b3.2.1 _ _ b9 c5)) (λi x J H' hi=>?_) (λJ H'=>?_)⟩
  .rintro⟨vs,b2,rfl,k,W,O⟩;let(r,a0,d3):=EJ a6 hi;let cd:t.rs.take (i+1)=t.rs.take i++[r]:=by rw[bB,a0];rfl
   let(cw,cx,c4):=c7 r (QA a0);let ah:ED H' x r:=by
    have:=TC.kd bd (λο F=>nomatch F) k a6;let(dn,b4,c0):=EJ this hi;rw[a0] at b4;cases b4;show c0
   let(c,cs,rfl,bb,d1):=id ah;let dd:(xG (t.rs.take i)).length+r.m.toNat<=100000:=by
    let e:xG t.rs=xG (t.rs.take i)++(FO r++xG (t.rs.drop (i+1))):=by
     let bt:t.rs=t.rs.take i++r::t.rs.drop (i+1):=by
      have:=(JA.mp a0)
      let(h,e):=this;rw[<-e,List.getElem_cons_drop,List.take_append_drop]
     unfold xG
     conv=>lhs;rw[bt,nA,List.flatten_append,rA,oC]
    rw[e,xA,xA] at c6;have:(FO r).length=r.m.toNat:=by unfold FO;rw[dA,BB]
    omega
   let hz:=PySem.sizeLine_eq;let dl:=Paired.length O;rfl';let c3:=c4;unfold bD at c3;show(.inl (rfl,_,BD.of W),_,HD.of bb,.int r.f,rfl,r,ah,r.f,rfl,⋯,⋯,by unfold bD;omega,⋯,λD Y=>?_);let c1:(bD r - r.f).toNat=r.m.toNat:=by unfold bD;omega
   rw[c1];let cv:D≠p:=λe=>by rw[e,W] at Y;cases Y
   show bU (λj zs J N=>∃b1,J=[b1,↑c]/\OC H' N/\N D>(.lst zs)/\Paired (EG N) zs ((List.range j).map λ(i:Nat)=>(r.f+(i:Int),(r.r,tf r (r.f+(i:Int)))))) (_,rfl,wE mE Y,nD,.nil) (λj zs J N d2=>?_) (λzs J N=>?_)
   .rintro⟨b1,rfl,L,a4,U⟩;let al:=Paired.length U;rw[dA,BB] at al;rfl';show(_,HD.of (L _ _ bb),.int r.r,rfl,r,ah.same L,λu a3 b0 ch a1 c8=>?_);let a2:=wE (o:=.tup [V.int (r.f+(j:Int)),V.int r.r,u]) (mE (H:=a3)) c8;let c9:JC a3 a1 (.tup [V.int (r.f+(j:Int)),V.int r.r,u]) a1>(.tup [V.int (r.f+(j:Int)),V.int r.r,u]):=nD;generalize JC a3 a1 (.tup [V.int (r.f+(j:Int)),V.int r.r,u])=H5 at *;let a5:=a2 _ _ (b0 _ _ a4);show(a5,⋯,BI ((L.trans b0).trans a2) Y,?_);rw[List.range_succ,nA];show GO (lK U λv p h=>((h.same b0).same a2).kd a5 JE) (.cons (EG.kd (a1,u,rfl,c9,ch.same a2) a5 JE) .nil)
   .rintro⟨b1,rfl,L,a4,U⟩;let al:=Paired.length U;rw[dA,BB] at al;let ac:=L _ _ W;show(p,D,vs,zs,rfl,rfl,ac,a4,⋯,λe o h Z=>by rw[WC Z];show L _ _ (k _ _ h Z),_,nD,?_);rw[cd];unfold xG;rw[nA,List.flatten_append];show GO (lK O λv p h=>(h.same L).kd ac JE) (by rw[rA,EB,oC,List.flatten_nil,MB];show lK U λv p h=>h.kd ac JE)
  .rintro⟨vs,b2,rfl,k,W,O⟩;rfl';rw[ck,iB] at O;show q p vs H' (λe o h=>k _ _ (be _ _ (am _ _ h)) (λF=>by rw[F,ab] at h;cases h)) ab W O
set_option genInjectivity false in
structure Pv where
 n:Int
 d:Addr
 m:!(Int×Int)
def BH (pv:!Pv):Kvs:=pv.map λe=>((inl e.n:Key),V.ref e.d)
def mD (m:!(Int×Int)):Kvs:=m.map λx=>((inl x.1:Key),V.int x.2)
def OG (r:Ro) (z:Hz) (pv:!Pv):!Addr:=r.sd::r.hd::r.pd::z.td::z.bd::pv.map Pv.d
structure RB (A:sD) (H:Hp) (r:Ro) (z:Hz) (l f g:Int) (tks:!Tk) (pv:!Pv):Prop where
 s:fE A H r 0 []
 h:oE A H z l f g tks []
 gd:gd l f g
 ho:r.ho=z.p
 sh:r.sh=z.sh
 pd:H r.pd>(.dK (BH pv))
 pe:∀e∈pv,e.m=[]/\H e.d>(.dK [])
 nm:pv.map Pv.n=tks.map Tk.n
 nd:(OG r z pv).Nodup
def QG (z:Hz) (c:Addr) (o:HO):Prop:=(∃kvs,o=.dK kvs/\c≠z.td/\c≠z.bd)\/∃C dx fs,o=.ins C dx fs/\fs.lookup ("made":Str)≠none
def Hk (z:Hz) (B H:Hp):Prop:=∀c o,B c>o->H c>o\/QG z c o
theorem Hk.refl {z:Hz} {B:Hp}:Hk z B B:=λο ο h=>.inl h
theorem Hk.same {z:Hz} {B H H':Hp} (k:Hk z B H) (s:OC H H'):Hk z B H':=λc o h=>(k c o h).imp (s c o) id
theorem zN {J:Hz} {B H:Hp} (k:Hk J B H) {v:V} {r:Rn} (h:ED B v r):ED H v r:=by
 let(a,F,e,h1,h2):=h;let D:∀a xs,B a>(.tup xs)->H a>(.tup xs):=λa xs h=>by
  let e||(_,e,_)||(_,_,_,e,_):=k _ _ h
  .show e
  .cases e
  .cases e
 show(a,F,e,D _ _ h1,?_);cases j:r.t with
 |none=>rw[j] at h2;show h2
 |some t=>rw[j] at h2;let(a,e,h):=h2;show(a,e,D _ _ h)
theorem oE.hk {A:sD} {B H:Hp} {F:Hz} {l f g:Int} {J:!Tk} {bk:Kvs} (h:oE A B F l f g J bk) (k:Hk F B H):oE A H F l f g J bk:=by
 let(j,e):=h.me;let(N,es):=id h.sh;let D:∀{c C j fs},B c>(.ins C j fs)->fs.lookup ("made":Str)=none->H c>(.ins C j fs):=λh n=>by
  let e||(_,e,_)||(_,_,_,e,m):=k _ _ h
  .show e
  .cases e
  .cases e;show absurd n m
 show(⟨j,D e (gG ∅)⟩,⟨N,D es (CJ ∅)⟩,?_,?_,λt Z=>?_,h.nd,h.nk,h.vb,h.ne,h.np)
 .let e||(_,e,n,_)||(_,_,_,e,_):=k _ _ h.t
  .show e
  .show absurd rfl n
  .cases e
 .let e||(_,e,_,n)||(_,_,_,e,_):=k _ _ h.b
  .show e
  .show absurd rfl n
  .cases e
 .let(a,(L,vs,O,U,V),W):=h.st t Z;show(a,(L,vs,D O (tG ∅),?_,lK V λv p Y=>zN k Y),W);let e||(_,e,_)||(_,_,_,e,_):=k _ _ U
  .show e
  .cases e
  .cases e
structure zq (A:sD) (B H:Hp) (r:Ro) (z:Hz) (l f g:Int) (tks:!Tk) (made:Int) (S:!Sh) (pv:!Pv) (own:Int->Int×Int) (con:Int->Int->Option (!Int)):Prop where
 hB:oE A B z l f g tks []
 k:Hk z B H
 gd:gd l f g
 ho:r.ho=z.p
 sh:r.sh=z.sh
 s:fE A H r made S
 pd:H r.pd>(.dK (BH pv))
 pe:∀e∈pv,H e.d>(.dK (mD e.m))
 nm:pv.map Pv.n=tks.map Tk.n
 nd:(OG r z pv).Nodup
 sb:∀s∈S,B s.a=none
 dm:∀c,H c=none->B c=none
 x:∀e∈pv,∀y∈e.m,∃s∈S,s.n=y.2/\s.h=1/\con e.n y.1>s.xs/\own y.2=(e.n,y.1)
 c:∀e∈pv,∀x,(∀y∈e.m,y.1≠x)->con e.n x=none
 sz:∀s∈S,s.xs.length=(pw g).toNat
 ml:∀e∈pv,e.m.length<=S.length
 ux:∀e∈pv,∀y∈e.m,∀y'∈e.m,y.1=y'.1->y.2=y'.2
def RA (A:sD) (B H:Hp) (r:Ro) (z:Hz) (l f g:Int) (tks:!Tk) (ds:!Addr) (con:Int->Int->Option (!Int)) (cnt:Nat):Prop:=
 ∃made S pv own,zq A B H r z l f g tks made S pv own con/\pv.map Pv.d=ds/\S.length=cnt/\cnt<=10000
theorem RB.same {A:sD} {H H':Hp} {r:Ro} {F:Hz} {l f g:Int} {D:!Tk} {pv:!Pv} (h:RB A H r F l f g D pv) (s:OC H H'):RB A H' r F l f g D pv:=
 (h.s.same s,h.h.same s,h.gd,h.ho,h.sh,s _ _ h.pd,λe j=>⟨(h.pe e j).1,s _ _ (h.pe e j).2⟩,h.nm,h.nd)
theorem RA.same {A:sD} {B H H':Hp} {r:Ro} {L:Hz} {l f g:Int} {J:!Tk} {F:!Addr} {D:Int->Int->Option (!Int)} {j:Nat} (h:RA A B H r L l f g J F D j) (s:OC H H'):RA A B H' r L l f g J F D j:=
 let ⟨m,S,pv,own,h,e1,e2,e3⟩:=h
 (m,S,pv,own,(h.hB,h.k.same s,h.gd,h.ho,h.sh,h.s.same s,s _ _ h.pd,λe O=>s _ _ (h.pe e O),h.nm,h.nd,h.sb,λc N=>h.dm c (rG s N),h.x,h.c,h.sz,h.ml,h.ux),e1,e2,e3)
def Kp (U:Addr->Prop) (H H':Hp):Prop:=(∀c o,H c>o->¬U c->H' c>o)/\∀c,H' c=none->H c=none
theorem fE.kp {A:sD} {H H':Hp} {r:Ro} {made:Int} {S:!Sh} {U:Addr->Prop} {j:Hz} (h:fE A H r made S) (k:Kp U H H') (u:∀c,U c->c≠r.p/\c≠r.sd/\c≠r.hd) (lo:∀c o,U c->H c>o->QG j c o):fE A H' r made S:=by
 let(F,e):=h.me;show(⟨F,k.1 _ _ e λj=>(u _ j).1 rfl⟩,k.1 _ _ h.s λj=>(u _ j).2.1 rfl,k.1 _ _ h.h λj=>(u _ j).2.2 rfl,λs D=>k.1 _ _ (h.x s D) λj=>?_,h.nd,h.nn,h.b,h.ne);let(_,e,_)||(_,_,_,e,_):=lo _ _ j (h.x s D)<;>cases e
theorem Hk.kp {j:Hz} {B H H':Hp} {U:Addr->Prop} (k:Hk j B H) (kp:Kp U H H') (lo:∀c o,U c->H c>o->QG j c o):Hk j B H':=λc o h=>by
 let e||e:=k c o h
 .by_cases D:U c
  .show .inr (lo c o D e)
  .show .inl (kp.1 _ _ e D)
 .show .inr e
theorem RA.kp {A:sD} {B H H':Hp} {r:Ro} {j:Hz} {l f g:Int} {O:!Tk} {D:!Addr} {J:Int->Int->Option (!Int)} {F:Nat} {U:Addr->Prop} (h:RA A B H r j l f g O D J F) (k:Kp U H H')
  (u:∀c,U c->c≠r.p/\c≠r.sd/\c≠r.hd/\c≠r.pd/\c∉D) (lo:∀c o,U c->H c>o->QG j c o):RA A B H' r j l f g O D J F:=by
 let(m,S,pv,Z,h,L,V,W):=h;show(m,S,pv,Z,(h.hB,h.k.kp k lo,h.gd,h.ho,h.sh,h.s.kp k (λc j=>((u c j).1,(u c j).2.1,(u c j).2.2.1)) lo,k.1 _ _ h.pd λj=>(u _ j).2.2.2.1 rfl,λe N=>k.1 _ _ (h.pe e N) λj=>(u _ j).2.2.2.2 (by rw[<-L];show aA.mpr (e,N,rfl)),h.nm,h.nd,h.sb,λc Y=>h.dm c (k.2 c Y),h.x,h.c,h.sz,h.ml,h.ux),L,V,W)
theorem RB.kp {A:sD} {H H':Hp} {r:Ro} {j:Hz} {l f g:Int} {F:!Tk} {pv:!Pv} {U:Addr->Prop} (h:RB A H r j l f g F pv) (k:Kp U H H')
  (u:∀c,U c->c≠r.p/\c≠r.sd/\c≠r.hd/\c≠r.pd/\c∉pv.map Pv.d) (lo:∀c o,U c->H c>o->QG j c o):RB A H' r j l f g F pv:=
 (h.s.kp k (λc j=>((u c j).1,(u c j).2.1,(u c j).2.2.1)) lo,h.h.hk (Hk.refl.kp k lo),h.gd,h.ho,h.sh,k.1 _ _ h.pd λj=>(u _ j).2.2.2.1 rfl,λe D=>⟨(h.pe e D).1,k.1 _ _ (h.pe e D).2 λj=>(u _ j).2.2.2.2 (aA.mpr (e,D,rfl))⟩,h.nm,h.nd)
structure Dn (r:Ro) (z:Hz) (pv:!Pv):Prop where
 sp:r.sd≠r.pd
 hp:r.hd≠r.pd
 st:r.sd≠z.td
 sb:r.sd≠z.bd
 ht:r.hd≠z.td
 hb:r.hd≠z.bd
 pt:r.pd≠z.td
 pb:r.pd≠z.bd
 e:∀e∈pv,e.d≠r.sd/\e.d≠r.hd/\e.d≠r.pd/\e.d≠z.td/\e.d≠z.bd
 nd:(pv.map Pv.d).Nodup
theorem GQ {r:Ro} {j:Hz} {pv:!Pv} (h:(OG r j pv).Nodup):Dn r j pv:=by
 unfold OG at h;simp only[NA,pA,not_or] at h;let((a3,F,J,L,N),(O,U,V,W),(Y,Z,a0),(a4,a1),a2,f):=h;show(F,O,J,L,U,V,Y,Z,λe D=>(λj=>N (by rw[<-j];show aA.mpr (e,D,rfl)),λj=>W (by rw[<-j];show aA.mpr (e,D,rfl)),λj=>a0 (by rw[<-j];show aA.mpr (e,D,rfl)),λj=>a1 (by rw[<-j];show aA.mpr (e,D,rfl)),λj=>a2 (by rw[<-j];show aA.mpr (e,D,rfl))),f)
theorem HQ {pv:!Pv} {j:!Tk} (h:pv.map Pv.n=j.map Tk.n):TD (BH pv)=TD (bE j):=by
 unfold TD BH bE;rw[wA,wA];let D:pv.map ((λx:Key×V=>x.1) ∘ λe:Pv=>((inl e.n:Key),V.ref e.d))=(pv.map Pv.n).map inl:=by rw[wA];rfl
 let F:j.map ((λx:Key×V=>x.1) ∘ λe:Tk=>((inl e.n:Key),V.ref e.p))=(j.map Tk.n).map inl:=by rw[wA];rfl
 show D.trans ((congrArg _ h).trans F.symm)
theorem mK {p:Addr} {H H':Hp} {o:HO} (k:Kd p H H') (D:H' p>o):∀c,H' c=none->H c=none:=λc h=>by
 cases e:H c with
 |none=>rfl
 |some F=>show absurd (k c F e (λj=>by rw[j,D] at h;cases h)) (by rw[h];show λj=>nomatch j)
theorem AN {p:Addr} {H H':Hp} {o j:HO} (_:H' p>j) (k:Kd p H H'):JC H' p o p>o/\Kd p H (JC H' p o)/\Kd p H' (JC H' p o):=(nD,k.trans JE,JE)
theorem MS {p c:Addr} {H j:Hp} {o L:HO} (F:j p>L) (k:Kd p H j) (D:j c=none):JC (JC j c (.dK [])) p o p>o/\Kd p H (JC (JC j c (.dK [])) p o)/\Kd p j (JC (JC j c (.dK [])) p o)/\JC (JC j c (.dK [])) p o c>(.dK [])/\H c=none/\JC j c (.dK []) p>L:=by
 let n:c≠p:=λJ=>by rw[J,F] at D;cases D
 let k2:Kd p j (JC (JC j c (.dK [])) p o):=λe u h N=>by rw[WC N,WC (λJ=>by rw[J,D] at h;cases h)];show h
 show(nD,k.trans k2,k2,by rw[WC n,nD],mK k F c D,by rw[WC n.symm];show F)
inductive Xf (A:sD) (vs:!V) (H:Hp) (Q:VK) (E:XK):Prop where
 |mk (p dx sh:Addr) (most l f g:Int) (_:vs=[.ref p,.ref sh,.int most]) (_:H p>(.ins A.Ab dx [])) (_:aE A.Ah H sh l f g) (_:gd l f g) (_:∀r z H',r.p=p->r.most=most->RB A H' r z l f g [] []->(∀c∈OG r z [],H c=none)->H z.p=none->Kd p H H'->(H' r.bd>(.dK [])/\r.bd∉OG r z []/\H r.bd=none)->Q .non H'):Xf A vs H Q E
def Zf (A:sD):Sp:=Xf A
theorem Pq (T:JD K mg A):TF P w K mg base "Rooms" A.Ab 3 ["self","shape","most"] [] (Zf A):=by
 let c9:=@jq P w K mg base A T;show T.I0.have Uo (λvs H Q c8 j=>?_) ?_
 .let(p,D,sh,most,l,f,g,rfl,_):=j;rfl
 .intro f e3 e2 e8 s H vs Q c8 d2 j;let(p,D,sh,most,l,cm,g,rfl,c3,c4,cx,q):=j;show(_,(fD (BG (GC 0) (GC 1) rfl)
   (fD (BG (GC 0) (GC 2) rfl)
   (fD (BG (GC 0) (GT c9 (-d2) qD (IC (GC 1) MC)) rfl)
   (fD (BG (GC 0) NI rfl)
   (fD (BG (GC 0) NI rfl)
   (fD (BG (GC 0) ZC rfl)
   (fD (BG (GC 0) NI rfl)
   (gD (BG (GC 0) NI rfl))))))))),?_)
  unfold rf;rfl';show(_,D,_,c3,T.Ac,T.Cz,by change 0 < 1000;decide,T.Ac,T.Dj,by change 1 < 1000;decide,?_);let b2:JC H p (.ins A.Ab D (QC "most" (.int most) (QC "shape" (.ref sh) []))) p>(.ins A.Ab D (QC "most" (.int most) (QC "shape" (.ref sh) []))):=nD;let k0:Kd p H (JC H p (.ins A.Ab D (QC "most" (.int most) (QC "shape" (.ref sh) [])))):=JE;let bb:=mK k0 b2;generalize JC H p (.ins A.Ab D (QC "most" (.int most) (QC "shape" (.ref sh) [])))=G0 at *;intro L a3 b9 cv e7 a0 bd bo d3 co c2 k1 ca bt c0;let ad:OC G0 (JC (JC G0 a3 (.own L)) L (.ins A.Ad a3 [])):=λc o h=>by rw[WC (FD h b9),WC (FD h cv)];show h
  let bc:p≠L:=FD b2 b9;let c5:=bb _ b9;let dd:=bb _ (rG ad d3);let cs:=bb _ (rG ad co);generalize JC (JC G0 a3 (.own L)) L (.ins A.Ad a3 [])=G1 at *;let a4:=k1 _ _ (ad _ _ b2) bc;let c6:Kd p H bo:=λc o h a2=>k1 _ _ (ad _ _ (k0 _ _ h a2)) (FD h c5);let n1:=mK c6 a4;show(_,D,_,a4,T.Ac,T.Aq,by change 2 < 1000;decide,?_);let a1:=AN a4 c6 (o:=.ins A.Ab D (QC "house" (.ref L) (QC "most" (.int most) (QC "shape" (.ref sh) []))));generalize JC bo p (.ins A.Ab D (QC "house" (.ref L) (QC "most" (.int most) (QC "shape" (.ref sh) []))))=G2 at *;let cl:=a1.2.2 _ _ ca bc.symm;let b1:=a1.2.2 _ _ bt (uD bt a4 nofun);let b0:=a1.2.2 _ _ c0 (uD c0 a4 nofun);intro F b3;let O:=MS a1.1 a1.2.1 b3 (o:=.ins A.Ab D (QC "sheets" (.ref F) (QC "house" (.ref L) (QC "most" (.int most) (QC "shape" (.ref sh) [])))));show(_,D,_,O.2.2.2.2.2,T.Ac,T.As,by change 3 < 1000;decide,?_);generalize JC (JC G2 F (.dK [])) p (.ins A.Ab D (QC "sheets" (.ref F) (QC "house" (.ref L) (QC "most" (.int most) (QC "shape" (.ref sh) [])))))=G3 at *;intro J a5;let U:=MS O.1 O.2.1 a5 (o:=.ins A.Ab D (QC "made" (.int 0) (QC "havers" (.ref J) (QC "sheets" (.ref F) (QC "house" (.ref L) (QC "most" (.int most) (QC "shape" (.ref sh) [])))))));show(_,D,_,U.2.2.2.2.2,T.Ac,T.Ar,by change 4 < 1000;decide,T.Ac,T.B8,by change 5 < 1000;decide,?_);generalize JC (JC G3 J (.dK [])) p (.ins A.Ab D (QC "made" (.int 0) (QC "havers" (.ref J) (QC "sheets" (.ref F) (QC "house" (.ref L) (QC "most" (.int most) (QC "shape" (.ref sh) [])))))))=G4 at *;intro N a6;let V:=MS U.1 U.2.1 a6 (o:=.ins A.Ab D (QC "private" (.ref N) (QC "made" (.int 0) (QC "havers" (.ref J) (QC "sheets" (.ref F) (QC "house" (.ref L) (QC "most" (.int most) (QC "shape" (.ref sh) []))))))));show(_,D,_,V.2.2.2.2.2,T.Ac,T.Ao,by change 6 < 1000;decide,?_);generalize JC (JC G4 N (.dK [])) p (.ins A.Ab D (QC "private" (.ref N) (QC "made" (.int 0) (QC "havers" (.ref J) (QC "sheets" (.ref F) (QC "house" (.ref L) (QC "most" (.int most) (QC "shape" (.ref sh) []))))))))=G5 at *;intro Z Y;let W:=MS V.1 V.2.1 Y (o:=.ins A.Ab D (QC "banked" (.ref Z) (QC "private" (.ref N) (QC "made" (.int 0) (QC "havers" (.ref J) (QC "sheets" (.ref F) (QC "house" (.ref L) (QC "most" (.int most) (QC "shape" (.ref sh) [])))))))));show(_,D,_,W.2.2.2.2.2,T.Ac,T.Bg,by change 7 < 1000;decide,?_);generalize JC (JC G5 Z (.dK [])) p (.ins A.Ab D (QC "banked" (.ref Z) (QC "private" (.ref N) (QC "made" (.int 0) (QC "havers" (.ref J) (QC "sheets" (.ref F) (QC "house" (.ref L) (QC "most" (.int most) (QC "shape" (.ref sh) [])))))))))=G6 at *;let dn:sh≠p:=by
   let(c1,es):=id c4;intro e;rw[e,c3] at es;let j:=(HO.ins.inj (yA es)).2.2;let w:=xS (l:=l) (f:=cm) (g:=g);rw[<-j] at w;cases w
  let(c1,es):=id c4;let dl:∀{c:Addr},c≠p->∀{o},G2 c>o->G6 c>o:=λa2 ο h=>W.2.2.1 _ _ (V.2.2.1 _ _ (U.2.2.1 _ _ (O.2.2.1 _ _ h a2) a2) a2) a2;let ac:F≠p:=uD O.2.2.2.1 O.1 nofun;let c7:J≠p:=uD U.2.2.2.1 U.1 nofun;let dm:N≠p:=uD V.2.2.2.1 V.1 nofun;let be:=V.2.2.1 _ _ (U.2.2.1 _ _ O.2.2.2.1 ac) ac;let bh:=V.2.2.1 _ _ U.2.2.2.1 c7;let bl:=V.2.2.2.1;let bm:=O.2.2.1 _ _ b1 (uD b1 a1.1 nofun);let al:=O.2.2.1 _ _ b0 (uD b0 a1.1 nofun);let bn:=U.2.2.1 _ _ bm (uD bm O.1 nofun);let am:=U.2.2.1 _ _ al (uD al O.1 nofun);let ah:=V.2.2.1 _ _ bn (uD bn U.1 nofun);let a9:=V.2.2.1 _ _ am (uD am U.1 nofun);let dp:=U.2.2.1 _ _ O.2.2.2.1 ac;show q (p,sh,L,F,J,N,Z,most) (L,sh,a0,bd) G6 rfl rfl ((⟨D,W.1⟩,W.2.2.1 _ _ be ac,W.2.2.1 _ _ bh c7,λs b4=>by simp at b4,.nil,.nil,λs b4=>by simp at b4,?_),(⟨a3,dl bc.symm cl⟩,⟨c1,W.2.1 _ _ es dn⟩,W.2.2.1 _ _ ah (uD ah V.1 nofun),W.2.2.1 _ _ a9 (uD a9 V.1 nofun),λt b5=>by simp at b5,.nil,.nil,λkv d1=>by simp at d1,c2,λt b5=>by simp at b5),cx,rfl,rfl,W.2.2.1 _ _ bl dm,λe cw=>by simp at cw,rfl,?_) ?_ c5 W.2.1 (W.2.2.2.1,?_,W.2.2.2.2.1)
  .show FD O.2.2.2.1 a5
  .let cd:F≠J:=FD O.2.2.2.1 a5;let ch:F≠N:=FD dp a6;let e4:F≠Z:=FD be Y;let ck:J≠N:=FD U.2.2.2.1 a6;let e5:J≠Z:=FD bh Y;let e6:N≠Z:=FD bl Y;let dr:a0≠F:=FD b1 b3;let t2:a0≠J:=FD bm a5;let dv:a0≠N:=FD bn a6;let e9:a0≠Z:=FD ah Y;let dy:bd≠F:=FD b0 b3;let e0:bd≠J:=FD al a5;let e1:bd≠N:=FD am a6;let ea:bd≠Z:=FD a9 Y;change [F,J,N,a0,bd].Nodup;simp only[NA,pA,WA,BC,not_or,List.nodup_nil,and_true,not_false_eq_true];show((cd,ch,dr.symm,dy.symm),(ck,t2.symm,e0.symm),⟨dv.symm,e1.symm⟩,c2)
  .intro c ab;let ab:c∈[F,J,N,a0,bd]:=ab;simp only[pA,WA,BC] at ab;let rfl||rfl||rfl||rfl||rfl:=ab
   .show O.2.2.2.2.1
   .show U.2.2.2.2.1
   .show V.2.2.2.2.1
   .show dd
   .show cs
  .change Z∉[F,J,N,a0,bd];simp only[pA,WA,BC,not_or];show((FD be Y).symm,(FD bh Y).symm,(FD bl Y).symm,(FD ah Y).symm,(FD a9 Y).symm)
inductive ag (A:sD) (vs:!V) (H:Hp) (Q:VK) (E:XK):Prop where
 |mk (r:Ro) (z:Hz) (l f g:Int) (tks:!Tk) (pv:!Pv) (_:vs=[.ref r.p]) (_:RB A H r z l f g tks pv) (_:tks.length < 1000) (_:∀(k:Nat) (p d:Addr) (H':Hp),CI (TD (bE tks)) k->RB A H' r z l f g (tks++[(k,p,[])]) (pv++[(k,d,[])])->H p=none->H d=none->(∀c o,H c>o->c≠r.pd->c≠z.td->H' c>o)->Q (.int k) H'):ag A vs H Q E
def BN (A:sD):Sp:=ag A
theorem IQ (T:JD K mg A):YC P w K mg base A.Ab "new_task" 4 ["self"] [] (BN A):=by
 let a6:=@FW P w K mg base A T;show T.Fh.have jd (λvs H Q a5 J=>?_) ?_
 .let(r,J,l,f,g,a0,pv,rfl,_):=J;rfl
 .intro f bd bc bl s H vs Q a5 a4 J;let(r,J,l,ah,g,a0,pv,rfl,j,b3,q):=J;let(be,h1):=j.s.me;let(ab,h2):=j.h.me;show(_,(fD (ZD (i:=1) jd.nd rfl (Or.inl rfl) (IK (MD (GC 0) rfl) T.Ai a6 (-a4) qD))
   (fD (CG (KD a4) (MD (GC 0) rfl) (GC 1) NI rfl)
   (gD (RD (GC 1))))),?_)
  unfold sL lE;rfl';simp only[h1];rfl';show(T.Ac,T.Aq,_,FJ,r.ho,rfl,ab,_,by rw[j.ho];show h2,gG ∅,J,by rw[j.ho],l,ah,g,a0,[],j.h,b3,λk p N a1 a2 b4 O d hd=>?_);let D:=GQ j.nd;let hz:=PySem.sizeLine_eq;let F:H d=none:=mK O a2.t d hd;let W:=wE (o:=.dK []) (mE (H:=N)) hd;let b1:JC N d (.dK []) d>(.dK []):=nD;let al:=a2.same W;let am:fE A N r 0 []:=j.s.kd j.h.t D.st.symm D.ht.symm O;let a3:=am.same W;let Z:=W _ _ (O _ _ j.pd D.pt);let b5:∀e∈pv,JC N d (.dK []) e.d>(.dK []):=λe L=>W _ _ (O _ _ (j.pe e L).2 (D.e e L).2.2.2.1);generalize JC N d (.dK [])=H2 at *;let(a9,ac):=a3.me;let bh:(BH pv).length=a0.length:=by unfold BH;rw[dA,<-dA (f:=Pv.n),j.nm,dA]
  let b2:(inl (k:Int):Key)∉TD (BH pv):=by rw[HQ j.nm];show a1.1
  let bb:d≠r.pd:=λe=>by rw[e,j.pd] at F;cases F
  show(_,a9,_,ac,T.Ac,T.Ao,_,kK,r.pd,rfl,_,.inl (BH pv,inl k,Z,rfl,⋯,rfl),?_);rw[qL b2];let ad:BH pv++[(inl (k:Int),V.ref d)]=BH (pv++[(k,d,[])]):=by unfold BH;rw[nA];rfl
  rw[ad];let k3:Kd r.pd H2 (JC H2 r.pd (.dK (BH (pv++[(k,d,[])])))):=JE;show q k p d _ a1 (a3.kd Z D.sp.symm D.hp.symm k3,al.hk (Hk.refl.kp (U:=(·=r.pd)) ⟨λc o h n=>k3 _ _ h n,mK k3 nD⟩ (λc o e h=>.inl (_,by rw[e,Z] at h;show (yA h).symm,by rw[e];show D.pt,by rw[e];show D.pb))),j.gd,j.ho,j.sh,nD,?_,?_,?_) b4 F (λc o h n1 b9=>k3 _ _ (W _ _ (O _ _ h b9)) n1)
  .intro e L;let h||h:=jA.mp L
   .show⟨(j.pe e h).1,k3 _ _ (b5 e h) (D.e e h).2.2.1⟩
   .obtain rfl:=bA.mp h;show⟨rfl,k3 _ _ b1 bb⟩
  .rw[nA,nA,j.nm];rfl
  .let e:OG r J (pv++[(k,d,[])])=OG r J pv++[d]:=by unfold OG;rw[nA];rfl
   rw[e,EA];show(j.nd,NA.mpr ⟨WA,.nil⟩,λa Y b b0=>?_);obtain rfl:=bA.mp b0;intro e;subst e;let Y:a∈r.sd::r.hd::r.pd::J.td::J.bd::pv.map Pv.d:=Y;simp only[pA] at Y;let e||e||e||e||e||h:=Y
   .rw[e,j.s.s] at F;cases F
   .rw[e,j.s.h] at F;cases F
   .rw[e,j.pd] at F;cases F
   .rw[e,j.h.t] at F;cases F
   .rw[e,j.h.b] at F;cases F
   .let(e,L,h):=aA.mp h;rw[<-h,(j.pe e L).2] at F;cases F
set_option genInjectivity false in
structure Ho where
 k:Bool
 n:Int
 d:Addr
 m:!(Int×Int)
def jF (es:!Ho):Kvs:=es.map λe=>((inl e.n:Key),V.ref e.d)
def iF (es:!Ho):!Ho:=es.filter λe=> not e.k
def eG (es:!Ho):!Ho:=es.filter λe=>e.k
def HF (r:Ro) (z:Hz) (es:!Ho):!Addr:=r.sd::r.hd::r.pd::r.bd::z.td::z.bd::es.map Ho.d
def Lo (z:Hz) (c:Addr) (o:HO):Prop:=QG z c o\/(∃i vs,o=.lst (V.int i::vs))\/∃kvs,o=.dT kvs
theorem oE.lo {A:sD} {B H:Hp} {j:Hz} {l f g:Int} {N:!Tk} {bk:Kvs} (h:oE A B j l f g N bk) (k:∀c o,B c>o->H c>o\/Lo j c o):oE A H j l f g N bk:=by
 let(D,e):=h.me;let(Y,es):=id h.sh;let J:∀{c C D fs},B c>(.ins C D fs)->fs.lookup ("made":Str)=none->H c>(.ins C D fs):=λh n=>by
  rcases k _ _ h with e|(⟨_,e,_⟩|⟨_,_,_,e,m⟩)|⟨_,_,e⟩|⟨_,e⟩
  .show e
  .cases e
  .cases e;show absurd n m
  .cases e
  .cases e
 let O:∀a xs,B a>(.tup xs)->H a>(.tup xs):=λa xs h=>by
  rcases k _ _ h with e|(⟨_,e,_⟩|⟨_,_,_,e,_⟩)|⟨_,_,e⟩|⟨_,e⟩
  .show e
  .cases e
  .cases e
  .cases e
  .cases e
 let a5:∀{v:V} {r:Rn},ED B v r->ED H v r:=λ{v r} h=>by
  let(a,a6,e,h1,h2):=h;show(a,a6,e,O _ _ h1,?_);cases L:r.t with
  |none=>rw[L] at h2;show h2
  |some t=>rw[L] at h2;let(a,e,h):=h2;show(a,e,O _ _ h)
 show(⟨D,J e (gG ∅)⟩,⟨Y,J es (CJ ∅)⟩,?_,?_,λt a3=>?_,h.nd,h.nk,h.vb,h.ne,h.np)
 .rcases k _ _ h.t with e|(⟨_,e,n,_⟩|⟨_,_,_,e,_⟩)|⟨_,_,e⟩|⟨_,e⟩
  .show e
  .show absurd rfl n
  .cases e
  .cases e
  .cases e
 .rcases k _ _ h.b with e|(⟨_,e,_,n⟩|⟨_,_,_,e,_⟩)|⟨_,_,e⟩|⟨_,e⟩
  .show e
  .show absurd rfl n
  .cases e
  .cases e
  .cases e
 .let(a,(W,vs,Z,a0,F),a1):=h.st t a3;show(a,(W,vs,J Z (tG ∅),?_,lK F λv p a2=>a5 a2),a1);rcases k _ _ a0 with e|(⟨_,e,_⟩|⟨_,_,_,e,_⟩)|⟨i,U,e⟩|⟨_,e⟩
  .show e
  .cases e
  .cases e
  .let e:vs=V.int i::U:=by injection e
   rw[e] at F;let a4:∀rs:!Rn,¬TC B (V.int i::U) rs:=λrs h=>by
    cases h with
    |cons q _=>let(_,_,j,_):=q;cases j
   show absurd F (a4 _)
  .cases e
def yG (r:Ro) (z:Hz) (S:!Sh) (es:!Ho) (c:Addr):Prop:=c=r.p\/c∈HF r z es\/∃s∈S,c=s.a
structure RH (A:sD) (B H:Hp) (r:Ro) (z:Hz) (l f g:Int) (tks:!Tk) (bk:Kvs) (made:Int) (S:!Sh) (es:!Ho):Prop where
 h:oE A H z l f g tks bk
 gd:gd l f g
 ho:r.ho=z.p
 sh:r.sh=z.sh
 s:fE A H r made S
 pd:H r.pd>(.dK (jF (iF es)))
 bd:H r.bd>(.dK (jF (eG es)))
 pe:∀e∈es,H e.d>(.dK (mD e.m))
 nm:(iF es).map Ho.n=tks.map Tk.n
 bm:(eG es).map (λe=>(inl e.n:Key))=TD bk
 bn:((eG es).map Ho.n).Nodup
 nd:(HF r z es).Nodup
 ob:∀c,yG r z S es c->B c=none
 dm:∀c,H c=none->B c=none
 sz:∀s∈S,s.xs.length=(pw g).toNat
 ux:∀e∈es,(e.m.map (·.1)).Nodup
structure Dm (r:Ro) (z:Hz) (es:!Ho):Prop where
 sp:r.sd≠r.pd
 sx:r.sd≠r.bd
 hp:r.hd≠r.pd
 hx:r.hd≠r.bd
 st:r.sd≠z.td
 sb:r.sd≠z.bd
 ht:r.hd≠z.td
 hb:r.hd≠z.bd
 pt:r.pd≠z.td
 pb:r.pd≠z.bd
 px:r.pd≠r.bd
 bt:r.bd≠z.td
 bb:r.bd≠z.bd
 e:∀e∈es,e.d≠r.sd/\e.d≠r.hd/\e.d≠r.pd/\e.d≠r.bd/\e.d≠z.td/\e.d≠z.bd
 nd:(es.map Ho.d).Nodup
theorem GJ {r:Ro} {j:Hz} {es:!Ho} (h:(HF r j es).Nodup):Dm r j es:=by
 unfold HF at h;simp only[NA,pA,not_or] at h;let((ad,J,L,N,O,U),(V,W,Y,Z,a0),(a1,a2,a3,a4),(a5,a6,a9),(ah,ab),ac,g):=h;let F:∀{e:Ho},e∈es->e.d∈es.map Ho.d:=λD=>aA.mpr (_,D,rfl);show(J,L,V,W,N,O,Y,Z,a2,a3,a1,a5,a6,λe D=>(λj=>U (by rw[<-j];show F D),λj=>a0 (by rw[<-j];show F D),λj=>a4 (by rw[<-j];show F D),λj=>a9 (by rw[<-j];show F D),λj=>ab (by rw[<-j];show F D),λj=>ac (by rw[<-j];show F D)),g)
theorem RH.same {A:sD} {B H H':Hp} {r:Ro} {D:Hz} {l f g:Int} {j:!Tk} {bk:Kvs} {made:Int} {S:!Sh} {es:!Ho} (h:RH A B H r D l f g j bk made S es) (s:OC H H'):RH A B H' r D l f g j bk made S es:=
 (h.h.same s,h.gd,h.ho,h.sh,h.s.same s,s _ _ h.pd,s _ _ h.bd,λe J=>s _ _ (h.pe e J),h.nm,h.bm,h.bn,h.nd,h.ob,λc F=>h.dm c (rG s F),h.sz,h.ux)
def LD (k:Bool) (n:Int) (m:!(Int×Int)) (es:!Ho):!Ho:=es.map λe=>if e.k=k/\e.n=n then {e with m:=m} else e
theorem bg {k:Bool} {n:Int} {m:!(Int×Int)} {es:!Ho}:(LD k n m es).map Ho.d=es.map Ho.d:=by
 unfold LD;rw[wA];show IA λe ο=>?_;change (if e.k=k/\e.n=n then _ else e:Ho).d=e.d
 split<;>rfl
theorem JO {k:Bool} {n:Int} {m:!(Int×Int)} {α:Type} {p:Bool->Bool} {f:Ho->α} (hf:∀(e:Ho) m,f {e with m:=m}=f e):∀{es:!Ho},((LD k n m es).filter λe=>p e.k).map f=(es.filter λe=>p e.k).map f
 |[]=>rfl
 |e::es=>by
  let ih:=JO (k:=k) (n:=n) (m:=m) (p:=p) hf (es:=es);let e1:LD k n m (e::es)=(if e.k=k/\e.n=n then {e with m:=m} else e)::LD k n m es:=rfl;rw[e1];let hk:(if e.k=k/\e.n=n then {e with m:=m} else e:Ho).k=e.k:=by split<;>rfl
  let hv:f (if e.k=k/\e.n=n then {e with m:=m} else e:Ho)=f e:=by
   split
   .show hf e m
   .rfl
  cases c:p e.k with
  |true=>rw[JB (by rw[hk];show c),JB (p:=λe:Ho=>p e.k) (a:=e) c,rA,rA,hv,ih]
  |false=>rw[wB (by rw[hk,c];show zA),wB (p:=λe:Ho=>p e.k) (a:=e) (by rw[c];show zA),ih]
theorem RH.sb {A:sD} {B H:Hp} {r:Ro} {F:Hz} {l f g:Int} {D:!Tk} {bk:Kvs} {made:Int} {S:!Sh} {es:!Ho} (h:RH A B H r F l f g D bk made S es):∀s∈S,B s.a=none:=λs j=>h.ob _ (.inr (.inr (s,j,rfl)))
theorem RH.one {A:sD} {B H:Hp} {r:Ro} {O:Hz} {l f g:Int} {N:!Tk} {bk:Kvs} {made:Int} {S:!Sh} {es:!Ho} (h:RH A B H r O l f g N bk made S es) {e j:Ho} (D:e∈es) (F:j∈es) (hk:e.k=j.k) (J:e.n=j.n):e=j:=by
 cases c:e.k with
 |true=>show NE h.bn (DA.mpr ⟨D,c⟩) (DA.mpr ⟨F,by rw[<-hk];show c⟩) J
 |false=>
  let L:((iF es).map Ho.n).Nodup:=by rw[h.nm];show h.h.nk
  show NE L (DA.mpr ⟨D,by rw[c];rfl⟩) (DA.mpr ⟨F,by rw[<-hk,c];rfl⟩) J
theorem RH.loS {A:sD} {B H:Hp} {r:Ro} {L:Hz} {l f g:Int} {J:!Tk} {bk:Kvs} {made:Int} {S:!Sh} {es:!Ho} (h:RH A B H r L l f g J bk made S es) {s:Sh} {o:HO} (D:s∈S) (e:H s.a>o):∃i vs,o=.lst (V.int i::vs):=by
 rw[h.s.x s D] at e;let N:=mJ h.gd;let j:=h.sz s D;cases F:s.xs with
 |nil=>rw[F] at j;simp at j;omega
 |cons i ys=>rw[F] at e;show(i,_,(yA e).symm)
def Fb (S:!Sh) (r:Ro) (es:!Ho) (H H':Hp):Prop:=∀c o,H c>o->c≠r.p->c≠r.sd->c≠r.hd->c∉es.map Ho.d->(∀s∈S,c≠s.a)->H' c>o
theorem RH.put {A:sD} {B H H':Hp} {r:Ro} {j:Hz} {l f g:Int} {a5:!Tk} {bk:Kvs} {made ab:Int} {S a2:!Sh} {es:!Ho} {e:Ho} {m:!(Int×Int)}
  (h:RH A B H r j l f g a5 bk made S es) (O:e∈es) (a9:fE A H' r ab a2) (L:∀s∈a2,B s.a=none/\s.xs.length=(pw g).toNat) (hd:H' e.d>(.dK (mD m))) (al:(m.map (·.1)).Nodup)
  (k:∀c o,H c>o->c≠e.d->c≠r.p->c≠r.sd->c≠r.hd->(∀s∈S,c≠s.a)->H' c>o):
  RH A B H' r j l f g a5 bk ab a2 (LD e.k e.n m es)/\Fb S r es H H':=by
 let D:=GJ h.nd;let a0:=D.e e O;let(b2,h1):=h.s.me;let(b3,b4):=a9.me;let ns:∀{c:Addr} {kv:Kvs},H c>(.dK kv)->∀s∈S,c≠s.a:=λF s L j=>by rw[j,h.s.x s L] at F;cases F
 let ah:oE A H' j l f g a5 bk:=h.h.lo λc o J=>by
  by_cases n1:c=e.d
  .subst n1;rw[h.pe e O] at J;show .inr (.inl (.inl (_,(yA J).symm,a0.2.2.2.2.1,a0.2.2.2.2.2)))
  .by_cases U:c=r.p
   .subst U;rw[h1] at J;show .inr (.inl (.inr (_,_,_,(yA J).symm,by rw[LS];show λj=>nomatch j)))
   .by_cases W:c=r.sd
    .subst W;rw[h.s.s] at J;show .inr (.inl (.inl (_,(yA J).symm,D.st,D.sb)))
    .by_cases Y:c=r.hd
     .subst Y;rw[h.s.h] at J;show .inr (.inl (.inl (_,(yA J).symm,D.ht,D.hb)))
     .by_cases a1:∃s∈S,c=s.a
      .let(s,L,rfl):=a1;show .inr (.inr (.inl (h.loS L J)))
      .show .inl (k c o J n1 U W Y λs L j=>a1 (s,L,j))
 let b0:=k _ _ h.pd a0.2.2.1.symm (uD h.pd h1 nofun) D.sp.symm D.hp.symm (ns h.pd);let ad:=k _ _ h.bd a0.2.2.2.1.symm (uD h.bd h1 nofun) D.sx.symm D.hx.symm (ns h.bd);show⟨(ah,h.gd,h.ho,h.sh,a9,?_,?_,λac a3=>?_,?_,?_,?_,by unfold HF;rw[bg];show h.nd,λc F=>?_,λc F=>?_,λs a4=>(L s a4).2,λac a3=>?_),λc o h0 n1 U W Y a1=>k c o h0 (λj=>Y (by rw[j];show aA.mpr (e,O,rfl))) n1 U W a1⟩
 .rw[b0];show congrArg (λj=>some (HO.dK j)) (JO (p:=λb=> not b) (f:=λe:Ho=>((inl e.n:Key),V.ref e.d)) (λο ο=>rfl)).symm
 .rw[ad];show congrArg (λj=>some (HO.dK j)) (JO (p:=λb=>b) (f:=λe:Ho=>((inl e.n:Key),V.ref e.d)) (λο ο=>rfl)).symm
 .let(u,N,rfl):=aA.mp a3;by_cases c:u.k=e.k/\u.n=e.n
  .rw[iA c];obtain rfl:=h.one N O c.1 c.2;show hd
  .rw[gA c];let am:u.d≠e.d:=λj=>c (by rw[NE D.nd N O j];show⟨rfl,rfl⟩);show k _ _ (h.pe u N) am (uD (h.pe u N) h1 nofun) (D.e u N).1 (D.e u N).2.1 (ns (h.pe u N))
 .rw[<-h.nm];show JO (p:=λb=> not b) (f:=Ho.n) (λο ο=>rfl)
 .rw[<-h.bm];show JO (p:=λb=>b) (f:=λe:Ho=>(inl e.n:Key)) (λο ο=>rfl)
 .rw[show (eG (LD e.k e.n m es)).map Ho.n=(eG es).map Ho.n from JO (p:=λb=>b) (f:=Ho.n) (λο ο=>rfl)];show h.bn
 .let rfl||F||(s,a4,rfl):=F
  .show h.ob _ (.inl rfl)
  .unfold HF at F;rw[bg] at F;show h.ob _ (.inr (.inl F))
  .show (L s a4).1
 .by_cases Z:yG r j S es c
  .show h.ob c Z
  .cases a6:H c with
   |none=>show h.dm c a6
   |some b1=>
    let n1:c≠e.d:=λq=>Z (.inr (.inl (by unfold HF;simp only[pA];show .inr (.inr (.inr (.inr (.inr (.inr (aA.mpr (e,O,q.symm))))))))));let U:c≠r.p:=λq=>Z (.inl q);let W:c≠r.sd:=λq=>Z (.inr (.inl (by unfold HF;rw[q];show cA ..)));let Y:c≠r.hd:=λq=>Z (.inr (.inl (by unfold HF;rw[q];show kA _ (cA ..))));rw[k c b1 a6 n1 U W Y λs L q=>Z (.inr (.inr (s,L,q)))] at F;cases F
 .let(u,N,rfl):=aA.mp a3;by_cases c:u.k=e.k/\u.n=e.n
  .rw[iA c];show al
  .rw[gA c];show h.ux u N
theorem cg (m:!(Int×Int)) (x:Int):(∃k,(x,k)∈m/\KC (mD m) (inl x)>(.int k))\/((∀y∈m,y.1≠x)/\KC (mD m) (inl x)=none):=by
 induction m with
 |nil=>show .inr ⟨λy h=>by simp at h,rfl⟩
 |cons u r F=>
  by_cases c:u.1=x
  .show .inl (u.2,by rw[<-c];show cA .., ?_);change KC ((inl u.1,V.int u.2)::mD r) (inl x)=_;show jH (by rw[c])
  .let e:KC (mD (u::r)) (inl x)=KC (mD r) (inl x):=by
    change KC ((inl u.1,V.int u.2)::mD r) (inl x)=_;show kH (λj=>c (kB j))
   rw[e];let(k,h1,h2)||(h1,h2):=F
   .show .inl (k,kA _ h1,h2)
   .show .inr ⟨λy D=>(pA.mp D).elim (λj=>by rw[j];show c) (h1 y),h2⟩
theorem CN {pv:!Pv} {e:Pv} (j:(pv.map Pv.n).Nodup) (D:e∈pv):KC (BH pv) (inl e.n)=↑e.d:=by
 induction pv with
 |nil=>simp at D
 |cons u r F=>
  rw[rA,NA] at j;change KC ((inl u.n,V.ref u.d)::BH r) (inl e.n)=_;let rfl||h:=pA.mp D
  .show jH rfl
  .rw[kH (λJ=>j.1 (by rw[show u.n=e.n from kB J];show aA.mpr (e,h,rfl)))];show F j.2 h
theorem dg {es:!Ho} {e:Ho} (D:(es.map Ho.n).Nodup) (j:e∈es):KC (jF es) (inl e.n)=↑e.d:=by
 have:=CN (pv:=es.map λe=>((e.n,e.d,e.m):Pv)) (e:=(e.n,e.d,e.m)) (by rw[wA];show D) (aA.mpr (e,j,rfl));unfold BH at this;rw[wA] at this;show this
theorem RH.pv {A:sD} {B H:Hp} {r:Ro} {U:Hz} {l f g:Int} {F:!Tk} {bk:Kvs} {made:Int} {S:!Sh} {es:!Ho} (h:RH A B H r U l f g F bk made S es) {t:Tk} (N:t∈F):∃e∈es,e.k=false/\e.n=t.n/\KC (jF (iF es)) (inl t.n)=↑e.d:=by
 have:t.n∈(iF es).map Ho.n:=by rw[h.nm];show aA.mpr (t,N,rfl)
 let(e,D,j):=aA.mp this;let(J,L):=DA.mp D;let O:((iF es).map Ho.n).Nodup:=by rw[h.nm];show h.h.nk
 show(e,J,by simpa using L,j,by rw[<-j];show dg O D)
theorem RH.bv {A:sD} {B H:Hp} {r:Ro} {F:Hz} {l f g:Int} {D:!Tk} {bk:Kvs} {made:Int} {S:!Sh} {es:!Ho} (h:RH A B H r F l f g D bk made S es) {e:Ho} (j:e∈es) (hk:e.k=true):KC (jF (eG es)) (inl e.n)=↑e.d:=dg h.bn (DA.mpr ⟨j,hk⟩)
def pD (t:Tk) (x:Int):Bool×Int×Int:=match (pm t.rs x).bind (·.2) with|none=>(false,(t.n,x))|some (b,y)=>(true,(b,y))
def kD (e:Ho) (x:Int):Option Int:=(e.m.find? λy=>decide (y.1=x)).map (·.2)
theorem QF {e:Ho} {x k:Int} (F:(e.m.map (·.1)).Nodup):kD e x>k↔(x,k)∈e.m:=by
 unfold kD;constructor
 .intro h;let(y,D,rfl):=GB.mp h;let h1:=NB D;let h2:=YA D;rw[<-VA h1];show h2
 .intro h;cases j:e.m.find? λy=>decide (y.1=x) with
  |none=>show absurd (qA (rfl:x=x)) (uB.mp j _ h)
  |some y=>
   let h1:=NB j;let h2:=YA j;rw[NE F h2 h (VA h1)]
   rfl
theorem DN {e:Ho} (F:(e.m.map (·.1)).Nodup) (x:Int):KC (mD e.m) (inl x)=(kD e x).map V.int:=by
 let(k,hk,j)||(hk,j):=cg e.m x
 .rw[j,(QF F).mpr hk]
  rfl
 .unfold kD;rw[j,show (e.m.find? λy=>decide (y.1=x))=none from uB.mpr λy D=>by simpa using hk y D]
  rfl
def eg (A : sD) : Sp := λvs H Q E => ∃ (B : Hp) (r : Ro) (z : Hz) (l f g : Int) (tks : !Tk) (bk : Kvs) (made : Int) (S : !Sh) (es : !Ho) (n x : Int) (t : Tk) (e : Ho), vs = [.ref r.p, .int n, .int x] /\ RH A B H r z l f g tks bk made S es /\ t ∈ tks /\ t.n = n /\ e ∈ es /\ e.k = (pD t x).1 /\ e.n = (pD t x).2.1 /\ S.length <= 10000 /\ e.m.length <= 10000 /\
  ((∃ k, kD e (pD t x).2.2 = some k /\ ∀ H', OC H H' -> Q (.int k) H') \/ (kD e (pD t x).2.2 = none /\ (S.length : Int) >= r.most /\ ∀ H', OC H H' -> E (.ref A.Ae) none H') \/
   (kD e (pD t x).2.2 = none /\ (S.length : Int) < r.most /\ ∀ a H', H a = none -> RH A B H' r z l f g tks bk (made + 1) (S ++ [(made, a, List.replicate (pw g).toNat 0, 1)]) (LD e.k e.n (e.m ++ [((pD t x).2.2, made)]) es) -> Fb S r es H H' -> Q (.int made) H'))
theorem zL (T:JD K mg A):YC P w K mg base A.Ab "sheet_to_read" 8 ["self","task","page"] [] (eg A):=by
 let bb:=@BQ P w K mg base A T;let ad:=@EQ P w K mg base A T;show T.C1.have zd (λvs H Q ah L=>?_) ?_
 .let(B,r,L,l,f,g,b9,bk,made,S,es,n,x,t,e,rfl,_):=L;rfl
 .intro f c7 c5 cd s H vs Q ah Y L;let(B,r,L,l,a5,g,b9,bk,made,S,es,n,x,t,e,rfl,F,b2,b1,J,am,b0,c9,ca,q):=L;let(a0,h1):=F.s.me;let(be,h2):=F.h.me;show(_,(fD (ZD (i:=3) zd.nd rfl (Or.inl rfl) (VD (MD (GC 0) rfl) T.Ai bb (-Y) qD (IC (GC 1) (IC (GC 2) MC))))
   (fD (yE (dF KI (GC 3) IG (UC _)) (gD (RD (VD (GC 0) T.Ac ad (-Y) qD (IC (BE (KD Y) (MD (GC 0) rfl) (GC 1) (λο ο=>rfl)) (IC (GC 2) MC))))) FE)
   (gD (RD (VD (GC 0) T.Ac ad (-Y) qD (IC (BE (KD Y) (MD (GC 0) rfl) (pE QE (GC 3) ZC (λο ο=>rfl)) (λο ο=>rfl)) (IC (pE QE (GC 3) ZC (λο ο=>rfl)) MC))))))),?_)
  unfold xf Wf DD;rfl';simp only[h1];rfl';show(T.Ac,T.Aq,_,FJ,r.ho,rfl,be,_,by rw[F.ho];show h2,gG ∅,L,by rw[F.ho],l,a5,g,b9,bk,F.h,.inr (t,b2,b1,λv Z N a4=>?_));let O:=F.same N;let D:=GJ F.nd;let a3:=O.h.sh;rw[<-F.sh] at a3;let b4:r.sh≠r.p:=λL=>by
   let(c8,es):=id a3;rw[L,N _ _ h1] at es;let w:=LS (sh:=r.sh) (most:=r.most) (ho:=r.ho) (sd:=r.sd) (hd:=r.hd) (made:=made) (pd:=r.pd) (bd:=r.bd);rw[(HO.ins.inj (yA es)).2.2,CJ ∅] at w;cases w
  let al:∀y,(pD t x).2.2=y->(∃n:Int,KC (mD e.m) (inl y)>(.int n)/\Q (.int n) Z)\/(KC (mD e.m) (inl y)=none/\(S.length:Int)>=r.most/\∀H',OC Z H'->ah (.ref A.Ae) none H')\/
    (KC (mD e.m) (inl y)=none/\(S.length:Int) < r.most/\∀a H',fE A H' r (made+1) (S++[(made,a,List.replicate (pw g).toNat 0,1)])->Z a=none->H' e.d>(.dK (mD e.m++[(inl y,.int made)]))->(∀c o,Z c>o->c≠e.d->c≠r.p->c≠r.sd->c≠r.hd->H' c>o)->Q (.int made) H'):=λy c2=>by
   rw[c2] at q;let(k,hk,q)||(hk,a6,q)||(hk,a6,q):=q
   .show .inl (k,by rw[DN (F.ux e J),hk];rfl,q _ N)
   .show .inr (.inl (by rw[DN (F.ux e J),hk];rfl,a6,λH' c4=>q _ (N.trans c4)))
   .show .inr (.inr (by rw[DN (F.ux e J),hk];rfl,a6,λa c6 bh W bm k2=>?_));let bo:y∉e.m.map (·.1):=λL=>by
     let(u,c1,rfl):=aA.mp L;have:=(QF (F.ux e J)).mpr c1;rw[hk] at this;cases this
    let c0:∀s∈S++[(made,a,List.replicate (pw g).toNat 0,1)],B s.a=none/\s.xs.length=(pw g).toNat:=λs bt=>by
     let a1||a1:=jA.mp bt
     .show⟨F.sb s a1,F.sz s a1⟩
     .rw[bA.mp a1];show⟨O.dm a W,VB⟩
    let(z1,z2):=O.put J bh c0 (m:=e.m++[(y,made)]) (by rw[bm];unfold mD;rw[nA];rfl) (by rw[nA];show EA.mpr (F.ux e J,by simp,λa W b bl L=>bo (by rw[L,bA.mp bl] at W;show W))) (λc o h n1 a9 ab ac ο=>k2 c o h n1 a9 ab ac);show q a _ (rG N W) z1 λc o h n1 a9 ab ac c3=>z2 c o (N _ _ h) n1 a9 ab ac c3
  cases a2:(pm t.rs x).bind (·.2) with
  |none=>
   let U:pD t x=(false,(t.n,x)):=by unfold pD;rw[a2]
   rw[a2] at a4;obtain rfl:v=.non:=a4;rw[iA rfl];let(V,bn,k1,k2,k3):=F.pv b2;obtain rfl:V=e:=F.one bn J (by rw[k1,am,U]) (by rw[k2,b0,U]);rw[b1] at k3;show(a0,_,N _ _ h1,sF ∅,_,a0,_,N _ _ h1,T.Ac,T.Ao,_,kK,r.pd,rfl,_,.inl (_,inl n,.inl O.pd,rfl,k3.symm),r,rfl,made,S,l,a5,g,V.d,rfl,O.s,⋯,a3,F.gd,b4,mD V.m,O.pe V J,by unfold mD;rw[dA];omega,(D.e V J).1,(D.e V J).2.1,al x (by rw[U]))
  |some bc=>
   let(b,y):=bc;let U:pD t x=(true,(b,y)):=by unfold pD;rw[a2]
   rw[a2] at a4;let(b5,rfl,b3):=a4;rw[gA nofun];let k3:=F.bv J (by rw[am,U]);rw[b0,U] at k3;show(a0,_,N _ _ h1,sF ∅,_,a0,_,N _ _ h1,T.Ac,T.Bg,_,KW,b5,rfl,_,HD.of b3,_,iM (j:=0) rfl,r.bd,rfl,_,.inl (_,inl b,.inl O.bd,rfl,k3.symm),b5,rfl,_,HD.of b3,_,iM (j:=1) rfl,r,rfl,made,S,l,a5,g,e.d,rfl,mD e.m,y,rfl,O.s,⋯,a3,F.gd,b4,O.pe e J,by unfold mD;rw[dA];omega,(D.e e J).1,(D.e e J).2.1,al y (by rw[U]))
theorem OW {m:!(Int×Int)} {x:Int}:dD (mD m) (inl x)=mD (m.filter λy=>decide (y.1≠x)):=by
 unfold dD mD;rw[gC];show congrArg _ (nC λy ο=>?_);change decide ((inl y.1:Key)≠inl x)=decide (y.1≠x);rw[rB];simp only[UA];show⟨λz e=>z (by rw[e]),λz e=>z (kB e)⟩
theorem Qq {m:!(Int×Int)} {x:Int}:KC (mD (m.filter λy=>decide (y.1≠x))) (inl x)=none:=by
 let(k,hk,_)||(_,j):=cg (m.filter λy=>decide (y.1≠x)) x
 .show absurd rfl (VA (DA.mp hk).2)
 .show j
def AL (A : sD) (H : Hp) (Q : VK) (E : XK) (B : Hp) (r : Ro) (z : Hz) (l f g : Int) (tks : !Tk) (bk : Kvs) (made : Int) (S : !Sh) (es : !Ho) (x : Int) (t : Tk) (e : Ho) : Prop :=
  e ∈ es /\ e.k = (pD t x).1 /\ e.n = (pD t x).2.1 /\ S.length <= 10000 /\ e.m.length <= 10000 /\
  ((∃ k, kD e (pD t x).2.2 = some k /\ ∀ H', OC H H' -> Q (.int k) H') \/ (kD e (pD t x).2.2 = none /\ (S.length : Int) >= r.most /\ ∀ H', OC H H' -> E (.ref A.Ae) none H') \/
   (kD e (pD t x).2.2 = none /\ (S.length : Int) < r.most /\ ∀ a H', H a = none -> RH A B H' r z l f g tks bk (made + 1) (S ++ [(made, a, List.replicate (pw g).toNat 0, 1)]) (LD e.k e.n (e.m ++ [((pD t x).2.2, made)]) es) -> Fb S r es H H' -> Q (.int made) H'))
inductive fg (A:sD) (vs:!V) (H:Hp) (Q:VK) (E:XK):Prop where
 |mk (B:Hp) (r:Ro) (z:Hz) (l f g:Int) (tks:!Tk) (bk:Kvs) (made:Int) (S:!Sh) (es:!Ho) (n x:Int) (t:Tk) (p:Ho) (_:vs=[.ref r.p,.int n,.int x]) (_:RH A B H r z l f g tks bk made S es) (_:t∈tks) (_:t.n=n) (_:p∈es) (_:p.k=false) (_:p.n=n) (_:p.m.length<=10000) (_:(((∀k,kD p x>k->∃s∈S,s.n=k/\s.h<=1)/\∃e,AL A H Q E B r z l f g tks bk made S es x t e)\/∃s∈S,kD p x>s.n/\1 < s.h/\S.length < 10000/\(((S.length:Int)>=r.most/\E (.ref A.Ae) none H)\/((S.length:Int) < r.most/\(pm t.rs x).bind (·.2)=none/\∀a H',H a=none->RH A B H' r z l f g tks bk (made+1) (CD s.n (S++[(made,a,s.xs,1)])) (LD false n ((p.m.filter λy=>decide (y.1≠x))++[(x,made)]) es)->Fb S r es H H'->Q (.int made) H')))):fg A vs H Q E
def EN (A:sD):Sp:=fg A
theorem JQ (T:JD K mg A):YC P w K mg base A.Ab "sheet_to_write" 9 ["self","task","page"] [] (EN A):=by
 show T.Cn.have EV (λvs H Q ab J=>?_) ?_
 .let(B,r,J,l,f,g,a9,bk,made,S,es,n,x,t,p,rfl,_):=J;rfl
 .intro f cs cl d2 s H vs Q ab L J;let(B,r,J,l,ad,g,a9,bk,made,S,es,n,x,t,p,rfl,F,b1,a0,N,a3,a4,cx,q):=J;let(cv,h1):=F.s.me;let(j,c7,k1,k2,bc):=F.pv b1;obtain rfl:j=p:=F.one c7 N (by rw[k1,a3]) (by rw[k2,a4,a0]);rw[a0] at bc;let D:=GJ F.nd;let a1:=λx=>DN (F.ux j N) x;let hz:=PySem.sizeLine_eq;show(_,(fD (ZD (i:=3) EV.nd rfl (Or.inl rfl) (BE (KD L) (MD (GC 0) rfl) (GC 1) (λο ο=>rfl)))
   (fD (yE (PW.pt (oO (yJ (OP (KD L) (GC 2) (GC 3))) (nO (dF gM (BE (KD L) (MD (GC 0) rfl) (BE (KD L) (GC 3) (GC 2) (λο ο=>rfl)) (λο ο=>rfl)) ZC (UC _))))) (fD (ZD (i:=4) EV.nd rfl (Or.inl rfl) (VD (GC 0) T.Ac (wL T) (-L) qD (IC (BE (KD L) (MD (GC 0) rfl) (BE (KD L) (GC 3) (GC 2) (λο ο=>rfl)) (λο ο=>rfl)) MC)))
   (fD (vE (VD (GC 0) T.Ac (LW T) (-L) qD (IC (GC 3) (IC (GC 2) MC))))
   (gD (CG (KD L) (GC 3) (GC 2) (GC 4) rfl)))) FE)
   (gD (RD (VD (GC 0) T.Ac (zL T) (-L) qD (IC (GC 1) (IC (GC 2) MC))))))),?_)
  unfold DD nI lE;rfl';simp only[h1];rfl';show(T.Ac,T.Ao,_,kK,r.pd,rfl,_,.inl (_,inl n,.inl F.pd,rfl,bc.symm),j.d,rfl,?_);let W:=F.pe j N;let b5:(∃e,AL A H Q ab B r J l ad g a9 bk made S es x t e)->eg A [.ref r.p,.int n,.int x] H Q ab:=λ⟨e,h⟩=>(B,r,J,l,ad,g,a9,bk,made,S,es,n,x,t,e,rfl,F,b1,a0,h)
  show(_,.inl (mD j.m,inl x,.inl W,rfl,rfl),?_);let(ck,q)||(s,O,hk,c4,c6,q):=q
  .cases a2:kD j x with
   |none=>
    rw[a1,a2];show ND ⟨sF ∅,b5 q⟩
   |some k=>
    let(s,O,c9,d1):=ck k a2;rw[a1,a2];show WD (T.Ac,T.Ar,_,jK,j.d,rfl,_,.inl (mD j.m,inl x,.inl W,rfl,by rw[a1,a2];rfl),r.hd,rfl,_,.inl (_,inl k,.inl F.s.h,rfl,by rw[<-c9];show (vN F.s.nn O).symm),s.h,rfl,?_);rw[gA ⋯];show⟨sF ∅,b5 q⟩
  .rw[a1,hk];let b3:some (V.int s.n)=KC (mD j.m) (inl x):=by rw[a1,hk];rfl
   show WD (T.Ac,T.Ar,_,jK,j.d,rfl,_,.inl (mD j.m,inl x,.inl W,rfl,b3),r.hd,rfl,_,.inl (_,inl s.n,.inl F.s.h,rfl,(vN F.s.nn O).symm),s.h,rfl,?_);rw[iA c4];show(sF ∅,T.Ac,T.As,_,vL,j.d,rfl,_,.inl (mD j.m,inl x,.inl W,rfl,b3),r.sd,rfl,_,.inl (_,inl s.n,.inl F.s.s,rfl,(DQ F.s.nn O).symm),r,made,S,s.a,s.xs,rfl,F.s,⋯,F.s.x s O,?_);let(am,q)||(am,ca,q):=q
   .show .inl ⟨am,q⟩
   .show .inr ⟨am,λa cm b9 Z bb=>?_⟩;let(bo,c0):=b9.me;let bh:j.d≠r.p:=uD W h1 nofun;let U:=D.e j N;let c3:=bb _ _ W bh U.1 U.2.1;let c8:s∈S++[((made,a,s.xs,1):Sh)]:=CA _ O;show(bo,_,c0,sF ∅,r,made+1,S++[(made,a,s.xs,1)],j.d,mD j.m,x,rfl,b9,c3,U.1,U.2.1,by rw[xA];change S.length+1<=100000;omega,.inr (s,c8,b3.symm,λco ah al c5=>?_));rw[show dI s.n s.h (S++[((made,a,s.xs,1):Sh)])=CD s.n (S++[(made,a,s.xs,1)]) by unfold dI;rw[gA ⋯]] at ah;rw[OW] at al;let(bt,c1):=ah.me;let cw:(j.m.filter λy=>decide (y.1≠x)).length<=j.m.length:=qB _ _;let ch:x∉(j.m.filter λy=>decide (y.1≠x)).map (·.1):=λJ=>by
     let(u,b2,rfl):=aA.mp J;show absurd rfl (VA (DA.mp b2).2)
    let be:(((j.m.filter λy=>decide (y.1≠x))++[(x,made)]).map (·.1)).Nodup:=by
     rw[nA];show EA.mpr ((List.filter_sublist.map _).nodup (F.ux j N),by simp,λa Z b c2 J=>ch (by rw[J,bA.mp c2] at Z;show Z))
    show(j.d,rfl,_,.inl (mD (j.m.filter λy=>decide (y.1≠x)),inl x,al,rfl,by unfold mD;rw[dA];omega,rfl),bt,_,by rw[WC bh.symm];show c1,sF ∅,?_);rw[FK _ Qq,show mD (j.m.filter λy=>decide (y.1≠x))++[((inl x:Key),V.int made)]=mD ((j.m.filter λy=>decide (y.1≠x))++[(x,made)]) by unfold mD;rw[nA];rfl];let b0:∀s'∈CD s.n (S++[((made,a,s.xs,1):Sh)]),B s'.a=none/\s'.xs.length=(pw g).toNat:=λs' b0=>by
     let(u,b2,rfl):=aA.mp b0;let bd:B u.a=none/\u.xs.length=(pw g).toNat:=by
      let Y||Y:=jA.mp b2
      .show⟨F.sb u Y,F.sz u Y⟩
      .rw[bA.mp Y];show⟨F.dm a Z,F.sz s O⟩
     split
     .show bd
     .show bd
    let(z1,z2):=F.put N (ah.kd al U.1 U.2.1 JE) b0 (m:=(j.m.filter λy=>decide (y.1≠x))++[(x,made)]) nD be (λc o h n1 b4 a5 a6 ο=>by rw[WC n1];show c5 _ _ (bb _ _ h b4 a5 a6) n1 a5 a6);let ac:pD t x=(false,(t.n,x)):=by unfold pD;rw[ca]
    rw[a3,a4] at z1;show(B,r,J,l,ad,g,a9,bk,made+1,_,_,n,x,t,{j with m:=(j.m.filter λy=>decide (y.1≠x))++[(x,made)]},rfl,z1,b1,a0,aA.mpr (j,N,iA ⟨a3,a4⟩),by rw[ac];show a3,by rw[ac];show a4.trans a0.symm,?_,?_,.inl (made,?_,λH' s'=>q a _ Z (z1.same s') λc o h n1 b4 a5 a6 cd=>s' _ _ (z2 c o h n1 b4 a5 a6 cd)))
    .change (List.map _ (S++[_])).length<=10000;rw[dA,xA];show c6
    .change (_++[_]).length<=10000;rw[xA];let Y:(j.m.filter λy=>decide (y.1≠x)).length < j.m.length:=by
      show List.length_filter_lt_length_iff_exists.mpr ((x,s.n),(QF (F.ux j N)).mp hk,?_);simp
     change _+1<=10000;omega
    .rw[ac];show (QF be).mpr (uA _ (cA ..))
def UD (es:!Ho):!Int:=(es.map λe=>e.m.map (·.2)).flatten
theorem BL {e:Ho} {es:!Ho}:UD (e::es)=e.m.map (·.2)++UD es:=rfl
structure PC (S:!Sh) (es:!Ho):Prop where
 liv:∀e∈es,∀y∈e.m,∃s∈S,s.n=y.2
 cnt:∀s∈S,s.h=((UD es).count s.n:Int)
 pos:∀s∈S,1<=s.h
theorem gg {k:Bool} {n:Int} {m:!(Int×Int)}:∀{es:!Ho},(∀e∈es,¬(e.k=k/\e.n=n))->LD k n m es=es
 |[],_=>rfl
 |e::es,h=>by
  change (if e.k=k/\e.n=n then {e with m:=m} else e)::LD k n m es=e::es;rw[gA (h e (cA ..)),gg λe' he'=>h e' (kA _ he')]
theorem KO {e:Ho} {m:!(Int×Int)} {k:Int}:∀{es:!Ho},(es.map Ho.d).Nodup->(∀e'∈es,e'.k=e.k->e'.n=e.n->e'=e)->e∈es->(UD (LD e.k e.n m es)).count k+(e.m.map (·.2)).count k=(UD es).count k+(m.map (·.2)).count k
 |[],_,_,h=>by cases h
 |e0::es,nd,un,he=>by
  let e1:LD e.k e.n m (e0::es)=(if e0.k=e.k/\e0.n=e.n then {e0 with m:=m} else e0)::LD e.k e.n m es:=rfl;rw[rA,NA] at nd;by_cases c:e0.k=e.k/\e0.n=e.n
  .obtain rfl:=un e0 (cA ..) c.1 c.2;let hout:∀e'∈es,¬(e'.k=e0.k/\e'.n=e0.n):=λe' he' z=>nd.1 (by rw[<-un e' (kA _ he') z.1 z.2];show aA.mpr (e',he',rfl));rw[e1,iA c,gg hout,BL,BL,aB,aB];change (m.map (·.2)).count k+_+_=_;omega
  .let he':e∈es:=(pA.mp he).elim (λz=>absurd (by rw[z];show⟨rfl,rfl⟩) c) id;let ih:=KO (m:=m) (k:=k) nd.2 (λe' h=>un e' (kA _ h)) he';rw[e1,gA c,BL,BL,aB,aB];omega
theorem KQ {es:!Ho} {k:Int}:k∈UD es↔∃e∈es,∃y∈e.m,y.2=k:=by
 unfold UD;simp only[yC,aA];constructor
 .rintro⟨l,⟨e,j,rfl⟩,hk⟩;let(y,D,rfl):=aA.mp hk;show(e,j,y,D,rfl)
 .rintro⟨e,j,y,D,rfl⟩;show(_,(e,j,rfl),aA.mpr (y,D,rfl))
theorem QW {k:Bool} {n:Int} {m:!(Int×Int)} {es:!Ho} {j:Ho} (h:j∈LD k n m es):(∃u∈es,u.k=k/\u.n=n/\j={u with m:=m})\/(j∈es/\¬(j.k=k/\j.n=n)):=by
 let(u,D,rfl):=aA.mp h;by_cases c:u.k=k/\u.n=n
 .rw[iA c];show .inl (u,D,c.1,c.2,rfl)
 .rw[gA c];show .inr ⟨D,c⟩
theorem PC.more {S:!Sh} {es:!Ho} {e:Ho} {made:Int} {a:Addr} {zs:!Int} {y:Int} (h:PC S es) (a0:(es.map Ho.d).Nodup) (un:∀D∈es,D.k=e.k->D.n=e.n->D=e) (Y:e∈es) (V:∀s∈S,s.n < made):PC (S++[(made,a,zs,1)]) (LD e.k e.n (e.m++[(y,made)]) es):=by
 let Z:made∉UD es:=λU=>by
  let(D,O,N,L,hk):=KQ.mp U;let(s,j,F):=h.liv D O N L;have:=V s j;omega
 let W:∀k,(UD (LD e.k e.n (e.m++[(y,made)]) es)).count k=(UD es).count k+if made=k then 1 else 0:=λk=>by
  let U:=KO (m:=e.m++[(y,made)]) (k:=k) a0 un Y;rw[nA,aB] at U;have:(([(y,made)]:!(Int×Int)).map (·.2)).count k=if made=k then 1 else 0:=by
   simp[YB]
  omega
 show(λD O N L=>?_,λs j=>?_,λs j=>?_)
 .let(u,J,k1,k2,rfl)||(J,_):=QW O
  .obtain rfl:=un u J k1 k2;let h1||h1:=jA.mp L
   .let(s,j,F):=h.liv u J N h1;show(s,CA _ j,F)
   .rw[bA.mp h1];show(_,uA _ (cA ..),rfl)
  .let(s,j,F):=h.liv D J N L;show(s,CA _ j,F)
 .rw[W];let h1||h1:=jA.mp j
  .have:=V s h1;rw[gA ⋯,h.cnt s h1]
   rfl
  .rw[bA.mp h1];change (1:Int)=_;rw[iA rfl,List.count_eq_zero.mpr Z]
   rfl
 .let h1||h1:=jA.mp j
  .show h.pos s h1
  .rw[bA.mp h1];show QB _
theorem PC.copy {S:!Sh} {es:!Ho} {e:Ho} {made:Int} {a:Addr} {zs:!Int} {x:Int} {j:Sh} (h:PC S es) (al:(es.map Ho.d).Nodup) (un:∀L∈es,L.k=e.k->L.n=e.n->L=e) (a4:e∈es) (Y:∀s∈S,s.n < made) (nx:(e.m.map (·.1)).Nodup) (a0:j∈S) (am:(S.map Sh.n).Nodup) (ab:(x,j.n)∈e.m) (h2:1 < j.h):
  PC (CD j.n (S++[(made,a,zs,1)])) (LD e.k e.n ((e.m.filter λy=>decide (y.1≠x))++[(x,made)]) es):=by
 let a6:made∉UD es:=λD=>by
  let(L,Z,O,V,hk):=KQ.mp D;let(s,F,N):=h.liv L Z O V;have:=Y s F;omega
 let a5:∀k,((e.m.filter λy=>decide (y.1≠x)).map (·.2)).count k+(if j.n=k then 1 else 0)=(e.m.map (·.2)).count k:=λk=>by
  let a1:∀m:!(Int×Int),(m.map (·.1)).Nodup->(x,j.n)∈m->((m.filter λy=>decide (y.1≠x)).map (·.2)).count k+(if j.n=k then 1 else 0)=(m.map (·.2)).count k:=λm=>by
   induction m with
   |nil=>intro _ U;cases U
   |cons y m ad=>
    intro W U;rw[rA,NA] at W;by_cases c:y.1=x
    .let ac:y=(x,j.n):=(pA.mp U).elim (λD=>D.symm) λD=>absurd (by rw[c];show aA.mpr (_,D,rfl)) W.1;let a2:(m.filter λy=>decide (y.1≠x))=m:=cC.mpr λu J=>qA λD=>W.1 (by rw[c,<-D];show aA.mpr (u,J,rfl));rw[wB (by simpa using c),a2,rA,List.count_cons,ac];simp
    .let a9:(x,j.n)∈m:=(pA.mp U).elim (λD=>absurd (by rw[<-D]) c) id;have:=ad W.2 a9;rw[JB (by simpa using c),rA,rA,List.count_cons,List.count_cons];omega
  show a1 e.m nx ab
 let a3:∀k,(UD (LD e.k e.n ((e.m.filter λy=>decide (y.1≠x))++[(x,made)]) es)).count k+(if j.n=k then 1 else 0)=(UD es).count k+if made=k then 1 else 0:=λk=>by
  let D:=KO (m:=(e.m.filter λy=>decide (y.1≠x))++[(x,made)]) (k:=k) al un a4;rw[nA,aB] at D;let z1:(([(x,made)]:!(Int×Int)).map (·.2)).count k=if made=k then 1 else 0:=by
   simp[YB]
  let z2:=a5 k;omega
 let b0:=Y j a0;show(λL Z O V=>?_,λs F=>?_,λs F=>?_)
 .let ah:∃s∈S++[((made,a,zs,1):Sh)],s.n=O.2:=by
   let(u,J,k1,k2,rfl)||(J,_):=QW Z
   .obtain rfl:=un u J k1 k2;let h1||h1:=jA.mp V
    .let(s,F,N):=h.liv u J O (DA.mp h1).1;show(s,CA _ F,N)
    .rw[bA.mp h1];show(_,uA _ (cA ..),rfl)
   .let(s,F,N):=h.liv L J O V;show(s,CA _ F,N)
  let(s,F,N):=ah;show(_,aA.mpr (s,F,rfl),?_)
  split<;>show N
 .let(u,J,rfl):=aA.mp F;let b1:u.h=(((UD es).count u.n+if made=u.n then 1 else 0:Nat):Int):=by
   let h1||h1:=jA.mp J
   .have:=Y u h1;rw[gA ⋯,h.cnt u h1];rfl
   .rw[bA.mp h1];change (1:Int)=_;rw[iA rfl,List.count_eq_zero.mpr a6];rfl
  let D:=a3 u.n;by_cases c:u.n=j.n
  .rw[iA c];change u.h - 1=((UD _).count u.n:Int);rw[iA c.symm] at D;omega
  .rw[gA c];rw[gA (λq=>c q.symm)] at D;omega
 .let(u,J,rfl):=aA.mp F;by_cases c:u.n=j.n
  .rw[iA c];change 1<=u.h - 1;let h1||h1:=jA.mp J
   .rw[NE am h1 a0 c];omega
   .rw[bA.mp h1] at c;let c:made=j.n:=c;omega
  .rw[gA c];let h1||h1:=jA.mp J
   .show h.pos u h1
   .rw[bA.mp h1];show QB _
def gE (k:Int) (xs:!Int) (S:!Sh):!Sh:=S.map λs=>if s.n=k then {s with xs:=xs} else s
theorem FN {k:Int} {xs:!Int} {S:!Sh}:(gE k xs S).map Sh.a=S.map Sh.a:=by
 unfold gE;rw[wA];show IA λe ο=>?_;change (if e.n=k then {e with xs:=xs} else e).a=e.a
 split<;>rfl
theorem ig {k:Int} {xs:!Int} {S:!Sh}:(gE k xs S).map Sh.n=S.map Sh.n:=by
 unfold gE;rw[wA];show IA λe ο=>?_;change (if e.n=k then {e with xs:=xs} else e).n=e.n
 split<;>rfl
theorem jg {k:Int} {xs:!Int} {S:!Sh}:FF (gE k xs S)=FF S/\RE (gE k xs S)=RE S:=by
 unfold gE FF RE;rw[wA,wA];constructor
 .show IA λe ο=>?_;change ((inl (if e.n=k then {e with xs:=xs} else e).n:Key),V.ref (if e.n=k then {e with xs:=xs} else e).a)=_
  split<;>rfl
 .show IA λe ο=>?_;change ((inl (if e.n=k then {e with xs:=xs} else e).n:Key),V.int (if e.n=k then {e with xs:=xs} else e).h)=_
  split<;>rfl
theorem kg {n:Nat} {i:Int} (h0:0<=i) (h1:i < n):MI n i>i.toNat:=by
 unfold MI;rw[iA h0,iA h1]
theorem GN {xs:!Int} {i:Int} (h0:0<=i) (h1:i < xs.length):VH (xs.map V.int) i>(.int (xs.getD i.toNat 0)):=by
 unfold VH;rw[dA,kg h0 h1];change (xs.map V.int)[i.toNat]?=_;rw[pB,xB,GA (show i.toNat < xs.length by omega)]
 rfl
theorem RH.box {A:sD} {B H:Hp} {r:Ro} {D:Hz} {l f g:Int} {U:!Tk} {bk:Kvs} {made:Int} {S:!Sh} {es:!Ho} {s:Sh} {xs:!Int} (h:RH A B H r D l f g U bk made S es) (L:s∈S) (a0:xs.length=(pw g).toNat):RH A B (JC H s.a (.lst (xs.map V.int))) r D l f g U bk made (gE s.n xs S) es:=by
 let O:=h.s.x s L;let k:Kd s.a H (JC H s.a (.lst (xs.map V.int))):=JE;let kd:∀{c:Addr} {kvs:Kvs},H c>(.dK kvs)->JC H s.a (.lst (xs.map V.int)) c>(.dK kvs):=λh=>k _ _ h (uD h O nofun);let(W,h1):=h.s.me;show(h.h.lo λc o N=>?_,h.gd,h.ho,h.sh,(⟨W,k _ _ h1 (uD h1 O nofun)⟩,by rw[jg.1];show kd h.s.s,by rw[jg.2];show kd h.s.h,λu F=>?_,by rw[FN];show h.s.nd,by rw[ig];show h.s.nn,λu F=>?_,h.s.ne),kd h.pd,kd h.bd,λY Z=>kd (h.pe Y Z),h.nm,h.bm,h.bn,h.nd,λc J=>?_,λc J=>h.dm c (mK k nD c J),λu F=>?_,h.ux)
 .by_cases n:c=s.a
  .subst n;show .inr (.inr (.inl (h.loS L N)))
  .show .inl (k _ _ N n)
 .let(v,j,rfl):=aA.mp F;by_cases c:v.n=s.n
  .obtain rfl:=NE h.s.nn j L c;rw[iA rfl];show nD
  .rw[gA c];show k _ _ (h.s.x v j) (λD=>c (by rw[NE h.s.nd j L D]))
 .let(v,j,rfl):=aA.mp F;have:=h.s.b v j
  split<;>show this
 .let rfl||J||(u,F,rfl):=J
  .show h.ob _ (.inl rfl)
  .show h.ob _ (.inr (.inl J))
  .let(v,j,rfl):=aA.mp F;have:=h.sb v j
   split<;>show this
 .let(v,j,rfl):=aA.mp F;have:=h.sz v j
  split
  .show a0
  .show this
theorem PC.box {S:!Sh} {es:!Ho} {k:Int} {xs:!Int} (h:PC S es):PC (gE k xs S) es:=by
 show(λe F y L=>?_,λs j=>?_,λs j=>?_)
 .let(s,j,J):=h.liv e F y L;show(_,aA.mpr (s,j,rfl),?_)
  split<;>show J
 .let(u,D,rfl):=aA.mp j;have:=h.cnt u D
  split<;>show this
 .let(u,D,rfl):=aA.mp j;have:=h.pos u D
  split<;>show this
def pJ (A:sD) (w:Int) (B H:Hp) (r:Ro) (z:Hz) (l f g:Int) (tks:!Tk) (bk:Kvs) (made:Int) (S:!Sh) (es:!Ho) (t:Tk) (n a:Int) (e:Ho):Prop:=
 RH A B H r z l f g tks bk made S es/\PC S es/\t∈tks/\t.n=n/\(∃rt ty,pm t.rs (a / pw g)>(rt,ty)/\Builtin.bitAnd rt w=w)/\(0<=a/\a < pw (l * f) * pw g)/\S.length < 9000/\e∈es/\e.k=(pD t (a / pw g)).1/\e.n=(pD t (a / pw g)).2.1/\e.m.length < 9000
inductive lg (A:sD) (vs:!V) (H:Hp) (Q:VK) (E:XK):Prop where
 |mk (B:Hp) (r:Ro) (z:Hz) (l f g:Int) (tks:!Tk) (bk:Kvs) (made:Int) (S:!Sh) (es:!Ho) (t:Tk) (n a:Int) (e:Ho) (_:vs=[.ref r.p,.int n,.int a]) (_:pJ A 1 B H r z l f g tks bk made S es t n a e) (_:((∃s∈S,kD e (pD t (a / pw g)).2.2>s.n/\∀H',OC H H'->Q (.int (s.xs.getD (a % pw g).toNat 0)) H')\/(kD e (pD t (a / pw g)).2.2=none/\(S.length:Int)>=r.most/\∀H',OC H H'->E (.ref A.Ae) none H')\/(kD e (pD t (a / pw g)).2.2=none/\(S.length:Int) < r.most/\∀a' H',RH A B H' r z l f g tks bk (made+1) (S++[(made,a',List.replicate (pw g).toNat 0,1)]) (LD e.k e.n (e.m++[((pD t (a / pw g)).2.2,made)]) es)->Fb S r es H H'->Q (.int 0) H'))):lg A vs H Q E
def NS (A:sD):Sp:=lg A
theorem Rq (T:JD K mg A):YC P w K mg base A.Ab "read" 9 ["self","task","address"] [] (NS A):=by
 let b4:=@yf P w K mg base A T;show T.Jb.have wd (λvs H Q b5 j=>?_) ?_
 .let(B,r,j,l,f,g,Z,bk,made,S,es,t,n,a,e,rfl,_):=j;rfl
 .intro f c2 c0 c8 s H vs Q b5 a4 j;let(B,r,j,l,a0,g,Z,bk,made,S,es,t,n,a,e,rfl,(F,c3,ah,ad,(bt,ty,be,bh),ac,c5,a1,bc,bd,c7),q):=j;let(a6,h1):=F.s.me;let(b9,h2):=F.h.me;show(_,(fD (ZD (i:=3) wd.nd rfl (Or.inl rfl) (VD (MD (GC 0) rfl) T.Ai b4 (-a4) qD (IC (GC 1) (IC (GC 2) (IC (ZJ rfl T.N3) MC)))))
   (gD (RD (pE uO (BE (KD a4) (MD (GC 0) rfl) (VD (GC 0) T.Ac (zL T) (-a4) qD (IC (GC 1) (IC (pE QE (GC 3) ZC (λο ο=>rfl)) MC))) (λο ο=>rfl)) (pE QE (GC 3) ZC (λο ο=>rfl)) (λο ο=>rfl))))),?_)
  unfold JW DD;rfl';simp only[h1];rfl';show(T.Ac,T.Aq,_,FJ,r.ho,rfl,b9,_,by rw[F.ho];show h2,gG ∅,j,by rw[F.ho],l,a0,g,Z,bk,F.h,F.gd,.inr (t,ah,ad,.inr (ac.1,ac.2,.inr (bt,ty,be,.inr ⟨bh,λp c1 O J=>?_⟩))));let U:=F.same O;let c6:=mJ F.gd;let bb:0<=a % pw g:=Int.emod_nonneg _ ⋯;let c4:a % pw g < pw g:=Int.emod_lt_of_pos _ ⋯;let al:∀{am:Int} {Y:!Sh} {a9:!Ho} {D:Hp} {s:Sh},RH A B D r j l a0 g Z bk am Y a9->s∈Y->D p>(.tup [.int (a / pw g),.int (a % pw g)])->Q (.int (s.xs.getD (a % pw g).toNat 0)) D->∃a5,V.ref r.sd=V.ref a5/\∃x,tE D a5 (V.int s.n) (some x)/\∃b0,HD K D p b0/\∃b1,VH b0 1>b1/\∃a,x=V.ref a/\∃x i,b1=V.int i/\BD K D a x/\∃b2,VH x i>b2/\Q b2 D:=λ{am Y a9 D s} L N a3 q=>by
   let hsz:=L.sz s N;show(r.sd,rfl,_,.inl (FF Y,inl s.n,.inl L.s.s,rfl,(DQ L.s.nn N).symm),_,HD.of a3,.int (a % pw g),rfl,s.a,rfl,_,_,rfl,BD.of (L.s.x s N),_,GN bb (by rw[hsz];omega),q)
  show(_,a6,_,O _ _ h1,T.Ac,T.As,_,vL,a6,_,O _ _ h1,sF ∅,_,HD.of J,.int (a / pw g),rfl,B,r,j,l,a0,g,Z,bk,made,S,es,n,a / pw g,t,e,rfl,U,ah,ad,a1,bc,bd,⋯,⋯,?_);let(s,N,hk,q)||(hk,a2,q)||(hk,a2,q):=q
  .show .inl (s.n,hk,λD W=>al (U.same W) N (W _ _ J) (q _ (O.trans W)))
  .show .inr (.inl (hk,a2,λD W=>q _ (O.trans W)))
  .show .inr (.inr (hk,a2,λa' D ο L fr=>?_));let a3:D p>(.tup [.int (a / pw g),.int (a % pw g)]):=fr _ _ J (uD J (O _ _ h1) nofun) (uD J U.s.s nofun) (uD J U.s.h nofun) (λj=>by
    let(e,a1,h):=aA.mp j;let ab:=U.pe e a1;rw[h,J] at ab;cases ab) (λs N=>uD J (U.s.x s N) nofun)
   let z0:(List.replicate (pw g).toNat (0:Int)).getD (a % pw g).toNat 0=0:=by
    rw[xB,List.getElem?_replicate]
    split<;>rfl
   show al (s:=(made,a',List.replicate (pw g).toNat 0,1)) L (uA _ (cA ..)) a3 (by rw[z0];show q a' _ L λc o h n1 bl bm bn bo=>fr c o (O _ _ h) n1 bl bm bn bo)
def RW (S:!Sh) (s:Sh) (i:Nat) (v:Int):!Sh:=gE s.n (s.xs.set i v) S
inductive ng (A:sD) (vs:!V) (H:Hp) (Q:VK) (E:XK):Prop where
 |mk (B:Hp) (r:Ro) (z:Hz) (l f g:Int) (tks:!Tk) (bk:Kvs) (made:Int) (S:!Sh) (es:!Ho) (t:Tk) (n a v:Int) (e p:Ho) (_:vs=[.ref r.p,.int n,.int a,.int v]) (_:pJ A 2 B H r z l f g tks bk made S es t n a e) (_:p∈es) (_:p.k=false) (_:p.n=n) (_:p.m.length < 9000) (_:(p=e\/kD p (a / pw g)=none)) (_:((∃s∈S,kD e (pD t (a / pw g)).2.2>s.n/\(s.h<=1\/e.k=true)/\∀H',RH A B H' r z l f g tks bk made (RW S s (a % pw g).toNat v) es->Fb S r es H H'->Q .non H')\/(∃s∈S,kD e (pD t (a / pw g)).2.2>s.n/\1 < s.h/\e.k=false/\(S.length:Int)>=r.most/\∀H',OC H H'->E (.ref A.Ae) none H')\/(∃s∈S,kD e (pD t (a / pw g)).2.2>s.n/\1 < s.h/\e.k=false/\(S.length:Int) < r.most/\∀a' H',RH A B H' r z l f g tks bk (made+1) (gE made (s.xs.set (a % pw g).toNat v) (CD s.n (S++[(made,a',s.xs,1)]))) (LD false n ((e.m.filter λy=>decide (y.1≠a / pw g))++[(a / pw g,made)]) es)->Fb S r es H H'->Q .non H')\/(kD e (pD t (a / pw g)).2.2=none/\(S.length:Int)>=r.most/\∀H',OC H H'->E (.ref A.Ae) none H')\/(kD e (pD t (a / pw g)).2.2=none/\(S.length:Int) < r.most/\∀a' H',RH A B H' r z l f g tks bk (made+1) (gE made ((List.replicate (pw g).toNat (0:Int)).set (a % pw g).toNat v) (S++[(made,a',List.replicate (pw g).toNat 0,1)])) (LD e.k e.n (e.m++[((pD t (a / pw g)).2.2,made)]) es)->Fb S r es H H'->Q .non H'))):ng A vs H Q E
def OS (A:sD):Sp:=ng A
theorem og {t:Tk} {x:Int} (h:(pD t x).1=false):pD t x=(false,(t.n,x))/\(pm t.rs x).bind (·.2)=none:=by
 unfold pD at h ⊢;cases e:(pm t.rs x).bind (·.2) with
 |none=>show⟨rfl,rfl⟩
 |some y=>rw[e] at h;cases h
theorem Sq (T:JD K mg A):YC P w K mg base A.Ab "write" 10 ["self","task","address","value"] [] (OS A):=by
 let c6:=@yf P w K mg base A T;show T.Ib.have yd (λvs H Q c8 j=>?_) ?_
 .let(B,r,j,l,f,g,a5,bk,made,S,es,t,n,a,v,e,p,rfl,_):=j;rfl
 .intro f cw cv dn s H vs Q c8 b4 j;let(B,r,j,l,a6,g,a5,bk,made,S,es,t,n,a,v,e,p,rfl,(L,cx,bt,b3,(cs,ty,cl,cm),be,d2,Z,ab,ac,dd),bl,ad,bn,dl,bm,q):=j;let(bc,h1):=L.s.me;let(ca,h2):=L.h.me;show(_,(fD (ZD (i:=4) yd.nd rfl (Or.inl rfl) (VD (MD (GC 0) rfl) T.Ai c6 (-b4) qD (IC (GC 1) (IC (GC 2) (IC (ZJ rfl T.Nm) MC)))))
   (gD (VL (GC 3) (UL (BE (KD b4) (MD (GC 0) rfl) (VD (GC 0) T.Ac (JQ T) (-b4) qD (IC (GC 1) (IC (pE QE (GC 4) ZC (λο ο=>rfl)) MC))) (λο ο=>rfl)) (pE QE (GC 4) ZC (λο ο=>rfl)) Qj)))),?_)
  unfold JW DD;rfl';simp only[h1];rfl';show(T.Ac,T.Aq,_,FJ,r.ho,rfl,ca,_,by rw[L.ho];show h2,gG ∅,j,by rw[L.ho],l,a6,g,a5,bk,L.h,L.gd,.inr (t,bt,b3,.inr (be.1,be.2,.inr (cs,ty,cl,.inr ⟨cm,λbb c9 J O=>?_⟩))));let Y:=L.same J;let d3:=mJ L.gd;let ch:0<=a % pw g:=Int.emod_nonneg _ ⋯;let d1:a % pw g < pw g:=Int.emod_lt_of_pos _ ⋯;show(_,bc,_,J _ _ h1,T.Ac,T.As,_,vL,bc,_,J _ _ h1,sF ∅,_,HD.of O,.int (a / pw g),rfl,B,r,j,l,a6,g,a5,bk,made,S,es,n,a / pw g,t,p,rfl,Y,bt,b3,bl,ad,bn,⋯,?_);let bo:∀{D:Hp},Fb S r es c9 D->D bb>(.tup [.int (a / pw g),.int (a % pw g)]):=λfr=>fr _ _ O (uD O (J _ _ h1) nofun) (uD O Y.s.s nofun) (uD O Y.s.h nofun) (λj=>by
   let(e,Z,h):=aA.mp j;let bd:=Y.pe e Z;rw[h,O] at bd;cases bd) (λs F=>uD O (Y.s.x s F) nofun)
  let b5:∀{b9:Int} {a0:!Sh} {b0:!Ho} {D:Hp} {s:Sh},RH A B D r j l a6 g a5 bk b9 a0 b0->s∈a0->D bb>(.tup [.int (a / pw g),.int (a % pw g)])->(RH A B (JC D s.a (.lst ((s.xs.set (a % pw g).toNat v).map V.int))) r j l a6 g a5 bk b9 (gE s.n (s.xs.set (a % pw g).toNat v) a0) b0->Q .non (JC D s.a (.lst ((s.xs.set (a % pw g).toNat v).map V.int))))->
    ∃a,V.ref r.sd=V.ref a/\∃x,tE D a (V.int s.n) (some x)/\∃c2,HD K D bb c2/\∃c3,VH c2 1>c3/\∃p,x=V.ref p/\∃x c4,c3=V.int c4/\D p>(HO.lst x)/\∃c5,MI x.length c4>c5/\Q V.non (JC D p (HO.lst (x.set c5 (V.int v)))):=λ{b9 a0 b0 D s} N F ck q=>by
   let hsz:=N.sz s F;show(r.sd,rfl,_,.inl (FF a0,inl s.n,.inl N.s.s,rfl,(DQ N.s.nn F).symm),_,HD.of ck,.int (a % pw g),rfl,s.a,rfl,_,_,rfl,N.s.x s F,_,by rw[dA];show kg ch (by rw[hsz];omega),?_);rw[<-List.map_set];show q (N.box F (by rw[List.length_set];show hsz))
  let a9:e.k=false->e=p/\(pD t (a / pw g)).2.2=a / pw g/\(pm t.rs (a / pw g)).bind (·.2)=none:=λhk=>by
   let(c0,co):=og (by rw[<-ab];show hk);show(L.one Z bl (by rw[hk,ad]) (by rw[ac,c0,bn];show b3),by rw[c0],co)
  let c1:e.k=true->p≠e:=λhk j=>by rw[j,hk] at ad;cases ad
  let bh:kD e (pD t (a / pw g)).2.2=none->∀k,kD p (a / pw g)>k->∃s∈S,s.n=k/\s.h<=1:=λhk k h=>by
   cases c:e.k with
   |true=>rw[bm.resolve_left (c1 c)] at h;cases h
   |false=>let(rfl,U,_):=a9 c;rw[U] at hk;rw[hk] at h;cases h
  let(s,F,hk,a2,q)||(s,F,hk,a2,b2,W,q)||(s,F,hk,a2,b2,W,q)||(hk,W,q)||(hk,W,q):=q
  .show .inl (λk h=>?_,e,Z,ab,ac,⋯,⋯,.inl (s.n,hk,λD a4=>b5 (Y.same a4) F (a4 _ _ O) λa1=>q _ a1 λc o h n1 ah al am a3=>by rw[WC (a3 s F)];show a4 _ _ (J _ _ h)));cases c:e.k with
   |true=>rw[bm.resolve_left (c1 c)] at h;cases h
   |false=>
    let(rfl,U,_):=a9 c;rw[U] at hk;rw[hk] at h;cases h;show(s,F,rfl,a2.resolve_right (by rw[c];show zA))
  .let(rfl,U,_):=a9 b2;rw[U] at hk;show .inr (s,F,hk,a2,⋯,.inl ⟨W,q _ J⟩)
  .let(rfl,U,cd):=a9 b2;rw[U] at hk;show .inr (s,F,hk,a2,⋯,.inr (W,cd,λa' D b1 N fr=>?_));let dm:=L.s.b s F;show b5 (s:=(made,a',s.xs,1)) N (aA.mpr ((made,a',s.xs,1),uA _ (cA ..),gA (show ¬made=s.n by omega))) (bo fr) λa1=>q a' _ a1 λc o h n1 ah al am a3=>by
    rw[WC (λj=>by rw[show c=a' from j,rG J b1] at h;cases h)];show fr c o (J _ _ h) n1 ah al am a3
  .show .inl (bh hk,e,Z,ab,ac,⋯,⋯,.inr (.inl (hk,W,λD a4=>q _ (J.trans a4))))
  .show .inl (bh hk,e,Z,ab,ac,⋯,⋯,.inr (.inr (hk,W,λa' D b1 N fr=>?_)));show b5 (s:=(made,a',List.replicate (pw g).toNat 0,1)) N (uA _ (cA ..)) (bo fr) λa1=>q a' _ a1 λc o h n1 ah al am a3=>by
    rw[WC (λj=>by rw[show c=a' from j,rG J b1] at h;cases h)];show fr c o (J _ _ h) n1 ah al am a3
theorem LO {CX:CXT} {P:Program} {w:World} {K:W.Frag} {mg:Str->Option Value} {base:Heap} {N:!Str} {J:Str} {scope:Scope} {f:Addr} {D:Value} {A:Around} {F:!Env} {s:Shared} {H:Hp} {j:XK}:(AE CX P w K mg base N J scope f D A F s H j).H₀=H:=rfl
def iE (m:!(Int×Int)) (S:!Sh):!Sh:=S.map λs=>{s with h:=s.h+((m.map (·.2)).count s.n:Int)}
theorem Tq {S:!Sh}:iE [] S=S:=by
 unfold iE;show (IA λs ο=>?_).trans (List.map_id S);change ({s with h:=s.h+0}:Sh)=s;rw[Int.add_zero]
theorem qg {m:!(Int×Int)} {S:!Sh}:(iE m S).map Sh.n=S.map Sh.n:=by
 unfold iE;rw[wA];rfl
theorem HN {m:!(Int×Int)} {S:!Sh}:(iE m S).map Sh.a=S.map Sh.a:=by
 unfold iE;rw[wA];rfl
theorem IN {m:!(Int×Int)} {S:!Sh}:FF (iE m S)=FF S:=by
 unfold FF iE;rw[wA];rfl
theorem Uq {S:!Sh} {s:Sh} (D:(S.map Sh.n).Nodup) (j:s∈S):iD (RE S) (inl s.n) (.int (s.h+1))=RE (S.map λu=>if u.n=s.n then {u with h:=u.h+1} else u):=by
 unfold iD;rw[BJ,vN D j,iA (show (some (V.int s.h)).isSome=true from rfl)];unfold RE;rw[wA,wA];show IA λu F=>?_;change (if (inl u.n:Key)=inl s.n then ((inl u.n:Key),V.int (s.h+1)) else (inl u.n,V.int u.h))=(inl (if u.n=s.n then {u with h:=u.h+1} else u).n,V.int (if u.n=s.n then {u with h:=u.h+1} else u).h);by_cases c:u.n=s.n
 .let e:u=s:=NE D F j c;rw[iA (by rw[c]),iA c,e]
 .rw[gA (λJ=>c (kB J)),gA c]
theorem PC.fork {S:!Sh} {es:!Ho} {e:Ho} {k:Bool} {n:Int} {d:Addr} (h:PC S es) (N:e∈es):PC (iE e.m S) (es++[(k,n,d,e.m)]):=by
 let U:UD (es++[((k,n,d,e.m):Ho)])=UD es++e.m.map (·.2):=by
  unfold UD;rw[nA,List.flatten_append];simp
 show(λJ O y F=>?_,λs j=>?_,λs j=>?_)
 .let V:∃s∈S,s.n=y.2:=by
   let h1||h1:=jA.mp O
   .show h.liv J h1 y F
   .rw[bA.mp h1] at F;show h.liv e N y F
  let(s,j,L):=V;show(_,aA.mpr (s,j,rfl),L)
 .let(u,D,rfl):=aA.mp j;change u.h+_=((UD _).count u.n:Int);rw[U,aB,h.cnt u D];omega
 .let(u,D,rfl):=aA.mp j;have:=h.pos u D;change 1<=u.h+_;omega
inductive rg (A:sD) (vs:!V) (H:Hp) (Q:VK) (E:XK):Prop where
 |mk (B:Hp) (r:Ro) (z:Hz) (l f g:Int) (tks:!Tk) (bk:Kvs) (made:Int) (S:!Sh) (es:!Ho) (n:Int) (t:Tk) (e:Ho) (_:vs=[.ref r.p,.int n]) (_:RH A B H r z l f g tks bk made S es) (_:PC S es) (_:tks.length < 1000) (_:t∈tks) (_:t.n=n) (_:e∈es) (_:e.k=false) (_:e.n=n) (_:e.m.length<=9000) (_:S.length<=9000) (_:∀(k:Nat) (p d:Addr) (H':Hp),CI (TD (bE tks)) k->H d=none->RH A B H' r z l f g (tks++[(k,p,t.rs)]) bk made (iE e.m S) (es++[(false,k,d,e.m)])->(∀c o,H c>o->c≠z.td->c≠r.pd->c≠r.hd->H' c>o)->Q (.int k) H'):rg A vs H Q E
def Vq (A:sD):Sp:=rg A
theorem Wq (T:JD K mg A):YC P w K mg base A.Ab "fork" 6 ["self","task"] [] (Vq A):=by
 let ck:=@uN P w K mg base A T;show T.Jc.have LV (λvs H Q ch j=>?_) ?_
 .let(B,r,j,l,f,g,ah,bk,made,S,es,n,t,e,rfl,_):=j;rfl
 .intro f e4 e3 ea s H vs Q ch a5 j;let(B,r,j,l,cs,g,ah,bk,made,S,es,n,t,e,rfl,J,cv,dv,c8,bl,ac,dd,dl,e6,e5,q):=j;let(Z,h1):=J.s.me;let(cm,h2):=J.h.me;let D:=GJ J.nd;let hz:=PySem.sizeLine_eq;show(_,(fD (ZD (i:=2) LV.nd rfl (Or.inl rfl) (VD (MD (GC 0) rfl) T.Ai ck (-a5) qD (IC (GC 1) MC)))
   (fD (CG (KD a5) (MD (GC 0) rfl) (GC 2) (lI mS rfl T.Gd PyProof.Rows.boot_dict (IC (BE (KD a5) (MD (GC 0) rfl) (GC 1) (λο ο=>rfl)) MC)) rfl)
   (fD (Tb (AI jB rfl (vm (qm (BE (KD a5) (MD (GC 0) rfl) (GC 2) (λο ο=>rfl)))) (SF (i:=3) LV.nd rfl (Or.inl rfl)) (gD (CG (KD a5) (MD (GC 0) rfl) (GC 3) (jE KG (BE (KD a5) (MD (GC 0) rfl) (GC 3) (λο ο=>rfl)) ZC) rfl))))
   (gD (RD (GC 2)))))),?_)
  unfold Rf DD lE UK;rfl';let(L,d3,k1,k2,c6):=J.pv c8;obtain rfl:L=e:=J.one d3 ac (by rw[k1,dd]) (by rw[k2,bl,dl]);show(_,Z,_,h1,T.Ac,T.Aq,_,FJ,r.ho,rfl,cm,_,by rw[J.ho];show h2,gG ∅,j,by rw[J.ho],l,cs,g,ah,bk,J.h,dv,.inr (t,c8,bl,λk p b5 hk be e7 kd=>?_));let cd:=D.e L ac;let am:=kd _ _ h1 (uD h1 J.h.t nofun);let ad:=kd _ _ J.pd D.pt;let dp:=kd _ _ (J.pe L ac) cd.2.2.2.2.1;rw[bl] at c6;show(_,Z,_,am,T.Ac,T.Ao,_,kK,r.pd,rfl,_,.inl (_,inl n,.inl ad,rfl,c6.symm),L.d,rfl,mD L.m,.inl dp,λd hd=>?_);let a6:=wE (o:=.dK (mD L.m)) (mE (H:=b5)) hd;let d1:JC b5 d (.dK (mD L.m)) d>(.dK (mD L.m)):=nD;generalize JC b5 d (.dK (mD L.m))=H2 at *;let dm:TD (jF (iF es))=TD (bE ah):=by
   unfold TD jF bE;rw[wA,wA];let bb:(iF es).map ((λx:Key×V=>x.1) ∘ λe:Ho=>((inl e.n:Key),V.ref e.d))=((iF es).map Ho.n).map inl:=by rw[wA];rfl
   let co:ah.map ((λx:Key×V=>x.1) ∘ λe:Tk=>((inl e.n:Key),V.ref e.p))=(ah.map Tk.n).map inl:=by rw[wA];rfl
   show bb.trans ((congrArg _ J.nm).trans co.symm)
  let c4:KC (jF (iF es)) (inl (k:Int))=none:=qf (by rw[dm];show hk.1);let a4:H d=none:=by
   cases b9:H d with
   |none=>rfl
   |some o=>
    exfalso;by_cases n1:d=j.td
    .rw[n1,be.t] at hd;cases hd
    .rw[kd _ _ b9 n1] at hd;cases hd
  let e8:(jF (iF es)).length<=1000:=by
   have:=congrArg List.length J.nm;rw[dA,dA] at this;unfold jF;rw[dA];omega
  show(_,Z,_,a6 _ _ am,T.Ac,T.Ao,_,kK,r.pd,rfl,_,.inl (_,inl (k:Int),a6 _ _ ad,rfl,⋯,rfl),?_);rw[FK _ c4];let e1:d≠r.pd:=λj=>by rw[j,ad] at hd;cases hd
  let ab:JC H2 r.pd (.dK (jF (iF es)++[(inl (k:Int),V.ref d)])) d>(.dK (mD L.m)):=by rw[WC e1];show d1
  let bm:JC H2 r.pd (.dK (jF (iF es)++[(inl (k:Int),V.ref d)])) r.pd>(.dK (jF (iF es)++[(inl (k:Int),V.ref d)])):=nD;let k2:Kd r.pd H2 (JC H2 r.pd (.dK (jF (iF es)++[(inl (k:Int),V.ref d)]))):=JE;generalize JC H2 r.pd (.dK (jF (iF es)++[(inl (k:Int),V.ref d)]))=H3 at *;let a3:=k2 _ _ (a6 _ _ am) (uD am ad nofun);show(d,(λo u=>by rw[LO,a4];show λj=>nomatch j),?_);show(_,Z,_,a3,T.Ac,T.Ao,_,kK,r.pd,rfl,_,.inl (_,inl (k:Int),.inl bm,rfl,by rw[WR _ _ _ _ c4,iA rfl]),d,rfl,_,ab,λeb bo=>(d,rfl,mD L.m,by rw[WC (FD ab bo)];show ab,λo=>?_));let c2:∀c u,H c>u->c≠j.td->c≠r.pd->H3 c>u:=λc u h n1 W=>k2 _ _ (a6 _ _ (kd _ _ h n1)) W;let b1:=c2 _ _ J.s.h D.ht D.hp;let bt:d≠r.hd:=λj=>by rw[j,J.s.h] at a4;cases a4
  let e2:iE (L.m.take 0) S=S:=Tq;show Sm (kvs:=mD L.m) (λi b3 U=>∃c0,b3=[↑r.p,some (.int n),some (.int k),c0]/\U d>(.frz o (.dK (mD L.m)))/\U r.hd>(.dK (RE (iE (L.m.take i) S)))/\∀c u,H3 c>u->c≠d->c≠r.hd->U c>u) (_,rfl,nD,by rw[e2,WC bt.symm,WC (FD b1 bo)];show b1,λc u h n1 ο=>by rw[WC n1,WC (FD h bo)];show h) (λi b3 U _ c1=>by let(_,c1):=c1;show c1.2.1) (λi e9 v b3 U hi=>?_) (λb3 U=>?_)
  .rintro⟨c0,rfl,bd,a9,b0⟩;unfold mD at hi;rw[pB] at hi;let(y,c9,bb):=GB.mp hi;let(rfl,rfl):=Prod.mk.inj bb;let(s,Y,bn):=cv.liv L ac y (QA c9);let O:({s with h:=s.h+(((L.m.take i).map (·.2)).count s.n:Int)}:Sh)∈iE (L.m.take i) S:=aA.mpr (s,Y,rfl);let ca:((iE (L.m.take i) S).map Sh.n).Nodup:=by rw[qg];show J.s.nn
   let dy:=vN ca O;let c5:=b0 _ _ a3 (uD a3 ab nofun) (uD a3 b1 nofun);let dn:=Uq ca O;let dr:(iE (L.m.take i) S).map (λu=>if u.n=s.n then {u with h:=u.h+1} else u)=iE (L.m.take (i+1)) S:=by
    unfold iE;rw[wA];show IA λu ο=>?_;change (if u.n=s.n then ({u with h:=u.h+_+1}:Sh) else {u with h:=u.h+_})={u with h:=u.h+_};rw[bB,c9,nA,aB];let cl:(((some y).toList.map (·.2):!Int)).count u.n=if s.n=u.n then 1 else 0:=by
     change ([y.2]:!Int).count u.n=_;rw[bn,YB];simp
    rw[cl];by_cases c:u.n=s.n
    .rw[iA c,iA c.symm];congr 1;omega
    .rw[gA c,gA (λj=>c j.symm)]
     rfl
   rfl';show(_,Z,_,c5,T.Ac,T.Ar,_,jK,r.hd,rfl,_,.inl (_,inl y.2,.inl a9,rfl,by rw[<-bn];show dy.symm),_,rfl,_,Z,_,c5,T.Ac,T.Ar,_,jK,r.hd,rfl,_,.inl (_,inl y.2,a9,rfl,by unfold RE iE;rw[dA,dA];omega,rfl),by rw[WC bt];show bd,?_,λc u h n1 W=>by rw[WC W];show b0 c u h n1 W);rw[nD,<-bn];show congrArg (λj=>some (HO.dK j)) (dn.trans (congrArg RE dr))
  .rintro⟨c0,rfl,bd,a9,b0⟩;rw[show (mD L.m).length=L.m.length from dA .., iB] at a9;unfold WH;dsimp only;rw[Rb bd];rfl';let a2:∀c u,H3 c>u->c≠r.hd->JC U d (.dK (mD L.m)) c>u:=λc u h n1=>by
    by_cases al:c=d
    .rw[al,nD,<-ab,<-al];show h
    .rw[WC al];show b0 c u h al n1
   let c3:JC U d (.dK (mD L.m)) r.hd>(.dK (RE (iE L.m S))):=by rw[WC bt.symm];show a9
   let find:JC U d (.dK (mD L.m)) d>(.dK (mD L.m)):=nD;let a1:∀c u,H c>u->c≠j.td->c≠r.pd->c≠r.hd->JC U d (.dK (mD L.m)) c>u:=λc u h n1 W a0=>a2 c u (c2 c u h n1 W) a0;let e0:∀c,JC U d (.dK (mD L.m)) c=none->H c=none:=λc N=>by
    cases b9:H c with
    |none=>rfl
    |some u=>
     exfalso;by_cases a0:c=r.hd
     .rw[a0,c3] at N;cases N
     .by_cases W:c=r.pd
      .rw[W,a2 _ _ bm D.hp.symm] at N;cases N
      .by_cases n1:c=j.td
       .rw[n1,a2 _ _ (k2 _ _ (a6 _ _ be.t) D.pt.symm) D.ht.symm] at N;cases N
       .rw[a1 c u b9 n1 W a0] at N;cases N
   generalize JC U d (.dK (mD L.m))=F at *;let d2:∀c∈HF r j es,H c≠none:=λc N=>by
    unfold HF at N;simp only[pA] at N;let rfl||rfl||rfl||rfl||rfl||rfl||N:=N
    .rw[J.s.s];show λj=>nomatch j
    .rw[J.s.h];show λj=>nomatch j
    .rw[J.pd];show λj=>nomatch j
    .rw[J.bd];show λj=>nomatch j
    .rw[J.h.t];show λj=>nomatch j
    .rw[J.h.b];show λj=>nomatch j
    .let(u,O,rfl):=aA.mp N;rw[J.pe u O];show λj=>nomatch j
   let c7:iF (es++[(false,k,d,L.m)])=iF es++[(false,k,d,L.m)]:=by unfold iF;rw[WB];rfl
   let bh:eG (es++[(false,k,d,L.m)])=eG es:=by unfold eG;rw[WB];show MB _
   show q k p d F hk a4 (?_,J.gd,J.ho,J.sh,(⟨Z,a2 _ _ a3 (uD a3 b1 nofun)⟩,by rw[IN];show a1 _ _ J.s.s D.st D.sp J.s.ne,c3,λs Y=>?_,by rw[HN];show J.s.nd,by rw[qg];show J.s.nn,λs Y=>?_,J.s.ne),?_,?_,λu O=>?_,?_,?_,?_,?_,λc N=>?_,λc N=>J.dm c (e0 c N),λs Y=>?_,λu O=>?_) a1
   .show be.lo λc u h=>?_;by_cases a0:c=r.hd
    .subst a0;rw[kd _ _ J.s.h D.ht] at h;show .inr (.inl (.inl (_,(yA h).symm,D.ht,D.hb)))
    .by_cases W:c=r.pd
     .subst W;rw[ad] at h;show .inr (.inl (.inl (_,(yA h).symm,D.pt,D.pb)))
     .show .inl (a2 c u (k2 _ _ (a6 _ _ h) W) a0)
   .let(u,O,rfl):=aA.mp Y;let b2:=J.s.x u O;show a1 _ _ b2 (uD b2 J.h.t nofun) (uD b2 J.pd nofun) (uD b2 J.s.h nofun)
   .let(u,O,rfl):=aA.mp Y;show J.s.b u O
   .rw[c7];unfold jF;rw[nA];show a2 _ _ bm D.hp.symm
   .rw[bh];show a1 _ _ J.bd D.bt D.px.symm D.hx.symm
   .let h||h:=jA.mp O
    .let b4:=D.e u h;show a1 _ _ (J.pe u h) b4.2.2.2.2.1 b4.2.2.1 b4.2.1
    .rw[bA.mp h];show find
   .rw[c7,nA,nA,J.nm];rfl
   .rw[bh];show J.bm
   .rw[bh];show J.bn
   .let bc:HF r j (es++[(false,k,d,L.m)])=HF r j es++[d]:=by unfold HF;rw[nA];rfl
    rw[bc];show EA.mpr (J.nd,by simp,λa cw b cx j=>d2 a cw (by rw[j,bA.mp cx];show a4))
   .let rfl||N||(s,Y,rfl):=N
    .show J.ob _ (.inl rfl)
    .let bc:HF r j (es++[(false,k,d,L.m)])=HF r j es++[d]:=by unfold HF;rw[nA];rfl
     rw[bc] at N;let h||h:=jA.mp N
     .show J.ob _ (.inr (.inl h))
     .rw[bA.mp h];show J.dm d a4
    .let(u,O,rfl):=aA.mp Y;show J.sb u O
   .let(u,O,rfl):=aA.mp Y;show J.sz u O
   .let h||h:=jA.mp O
    .show J.ux u h
    .rw[bA.mp h];show J.ux L ac
open PySem.Spec PyProof.Rows in
theorem Xq {X:Cx} (a2:X.calm=true):eE X (.type "list") (λxs H Q=>∃(p:Addr) (kvs:!(Key×V)) (ns:!Int),xs=[.ref p]/\Rd H p (.dK kvs)/\kvs.map (·.1)=ns.map inl/\∀l,H l=none->Q (.ref l) (JC H l (.lst (ns.map V.int)))):=by
 intro ah s am H xs us Q F r h;let(p,kvs,ns,rfl,a6,hk,q):=h;let(u,rfl,ac):=GE r;cases ac;let(U,hd,vs,L,dd):=mI F.hok a6;let(ep,a1):=dd.dictAt;let J:=congrArg List.length hk;rw[dA,dA] at J;let a5:vs.length=ns.length:=by rw[<-L.length,J]
 show W.kdl_call (W.kdl_dict (knd:=lD X.prog X.w) (kvs:=vs) (ep:=ep) hd) (F.ok.hd a2) a1 (by rw[<-L.length];show U) λh' ad acc c kp a4 O=>?_;let a0:IntsAre acc.toList ns:=fU (by rw[vB,O.1,a5]) λj v e=>by
  let(k,x,ab,a3):=O.2 j v (by rw[<-jC];show e);let(al,a9,_):=lS L j k x ab;let D:(kvs.map (·.1))[j]?>k:=by rw[pB,a9];rfl
  rw[hk,pB] at D;cases N:ns[j]? with
  |none=>rw[N] at D;cases D
  |some i=>
   rw[N] at D;cases D;let(t,Z):=Value.isInt_shape (k:=i) (v:=v) a3;show(t,i,rfl,Z)
 let Y:=F.laid (t':=ad) kp (vA _) (show tD X.prog X.w _ h' _ (.lst (ns.map V.int)) from (by rw[dA,<-J];show U,acc.toList,c,eU a0,a4));show(.ref s.heap.objs.size,_,Y,rfl,q _ (F.hok.fresh (vA _)))
def xH (m:!(Int×Int)) (s:Sh):Option Sh:=if 0 < s.h - ((m.map (·.2)).count s.n:Int) then some {s with h:=s.h - ((m.map (·.2)).count s.n:Int)} else none
def uF (m:!(Int×Int)) (S:!Sh):!Sh:=S.filterMap (xH m)
theorem QS {α β:Type} {f g:α->Option β}:∀{l:!α},(∀x∈l,f x=g x)->l.filterMap f=l.filterMap g
 |[],_=>rfl
 |x::l,h=>by rw[qC,qC,h x (cA ..),QS λy hy=>h y (kA _ hy)]
theorem Yq {S:!Sh} (h:∀s∈S,1<=s.h):uF [] S=S:=by
 unfold uF;show (QS (g:=some) λs j=>?_).trans (List.filterMap_some ..);have:=h s j;unfold xH;change (if 0 < s.h - 0 then some ({s with h:=s.h - 0}:Sh) else none)>s;rw[Int.sub_zero,iA ⋯]
theorem LQ {m:!(Int×Int)} {S:!Sh} {u:Sh} (h:u∈uF m S):∃s∈S,u={s with h:=s.h - ((m.map (·.2)).count s.n:Int)}/\0 < u.h:=by
 let(s,j,e):=List.mem_filterMap.mp h;unfold xH at e;by_cases c:0 < s.h - ((m.map (·.2)).count s.n:Int)
 .rw[iA c] at e;cases e;show(s,j,rfl,c)
 .rw[gA c] at e;cases e
theorem ug {m:!(Int×Int)} {S:!Sh} {s:Sh} (j:s∈S) (c:0 < s.h - ((m.map (·.2)).count s.n:Int)):({s with h:=s.h - ((m.map (·.2)).count s.n:Int)}:Sh)∈uF m S:=List.mem_filterMap.mpr (s,j,by unfold xH;rw[iA c])
theorem Zq {S:!Sh} {m:!(Int×Int)} {i:Nat} {y:Int×Int} {s:Sh} (W:m[i]?>y) (O:s∈S) (V:s.n=y.2) (U:(S.map Sh.n).Nodup):dI s.n (s.h - (((m.take i).map (·.2)).count s.n:Int)) (uF (m.take i) S)=uF (m.take (i+1)) S:=by
 let j:∀k,((m.take (i+1)).map (·.2)).count k=((m.take i).map (·.2)).count k+if s.n=k then 1 else 0:=λk=>by
  rw[bB,W,nA,aB];congr 1;change ([y.2]:!Int).count k=_;rw[<-V,YB];simp
 unfold dI;by_cases L:s.h - (((m.take i).map (·.2)).count s.n:Int)=1
 .rw[iA L];unfold tF uF;rw[List.filter_filterMap];show QS λu F=>?_;by_cases c:u.n=s.n
  .obtain rfl:=NE U F O c;unfold xH;rw[iA ⋯,j,iA rfl,gA ⋯];change Option.filter _ (some _)=none;simp[Option.filter]
  .let D:((m.take (i+1)).map (·.2)).count u.n=((m.take i).map (·.2)).count u.n:=by rw[j,gA (λJ:s.n=u.n=>c J.symm)];rfl
   unfold xH;rw[D]
   split
   .simp[Option.filter,c]
   .rfl
 .rw[gA L];unfold CD uF;rw[List.map_filterMap];show QS λu F=>?_;by_cases c:u.n=s.n
  .obtain rfl:=NE U F O c;unfold xH;rw[j,iA rfl];by_cases N:0 < u.h - (((m.take i).map (·.2)).count u.n:Int)
   .rw[iA N,iA ⋯,DC,iA rfl];change some ({u with h:=u.h - _ - 1}:Sh)>{u with h:=u.h - _};congr 2;omega
   .rw[gA N,gA ⋯];rfl
  .let D:((m.take (i+1)).map (·.2)).count u.n=((m.take i).map (·.2)).count u.n:=by rw[j,gA (λJ:s.n=u.n=>c J.symm)];rfl
   unfold xH;rw[D]
   split
   .rw[DC,gA c]
   .rfl
inductive vg (A:sD) (vs:!V) (H:Hp) (Q:VK) (E:XK):Prop where
 |mk (r:Ro) (made:Int) (S:!Sh) (d:Addr) (m:!(Int×Int)) (_:vs=[.ref r.p,.ref d]) (_:fE A H r made S) (_:H d>(.dK (mD m))) (_:(m.map (·.1)).Nodup) (_:(∀y∈m,∃s∈S,s.n=y.2)) (_:(∀s∈S,((m.map (·.2)).count s.n:Int)<=s.h/\1<=s.h)) (_:d≠r.sd) (_:d≠r.hd) (_:S.length<=9000) (_:m.length<=9000) (_:∀H',fE A H' r made (uF m S)->H' d>(.dK [])->(∀c o,H c>o->c≠d->c≠r.sd->c≠r.hd->H' c>o)->Q .non H'):vg A vs H Q E
def JN (A:sD):Sp:=vg A
theorem MQ (T:JD K mg A):YC P w K mg base A.Ab "let_all_go" 2 ["self","pages"] [] (JN A):=by
 show T.Ef.have Sd (λvs H Q al j=>?_) ?_
 .let(r,made,S,d,m,rfl,_):=j;rfl
 .intro f bo bm c5 s H vs Q al bd j;let(r,made,S,d,m,rfl,Y,hd,bc,b5,a9,n1,bl,c0,c4,q):=j;let(bt,h1):=Y.me;show(_,(gD (AI jB rfl (yI (lI (Xq rfl) rfl T.Cv aC (IC (GC 1) MC))) (SF (i:=2) Sd.nd rfl (Or.inl rfl)) (gD (vE (VD (GC 0) T.Ac (LW T) (-bd) qD (IC (GC 1) (IC (GC 2) MC))))))),?_);rfl';show(mD m,.inl hd,m.map (·.1),by unfold mD;rw[wA,wA];rfl,λa2 b4=>?_);let a3:=wE (o:=.lst ((m.map (·.1)).map V.int)) (mE (H:=H)) b4;let J:JC H a2 (.lst ((m.map (·.1)).map V.int)) a2>(.lst ((m.map (·.1)).map V.int)):=nD;generalize JC H a2 (.lst ((m.map (·.1)).map V.int))=H1 at *;let Z:=Y.same a3;let ab:=a3 _ _ hd;let b9:∀i,(uF (m.take i) S).length<=S.length:=λi=>List.length_filterMap_le _ _;show⟨⟨_,BD.of J⟩,yM (K:=K) (xs:=(m.map (·.1)).map V.int) (λi U D=>∃a4,U=[↑r.p,↑d,a4]/\fE A D r made (uF (m.take i) S)/\D d>(.dK (mD (m.drop i)))/\∀c o,H1 c>o->c≠d->c≠r.sd->c≠r.hd->D c>o) (_,rfl,by rw[List.take_zero,Yq λs L=>(a9 s L).2];show Z,ab,λc o h ο ο ο=>h) (λi U D _ a5=>by let(_,a5):=a5;show BD.of (a5.2.2.2 _ _ J (uD J ab nofun) (uD J Z.s nofun) (uD J Z.h nofun))) (λi x U D ad=>?_) (λU D=>?_)⟩
  .rintro⟨a4,rfl,F,O,W⟩;rw[wA,pB] at ad;let(y,N,rfl):=GB.mp ad;let ac:=(JA.mp N).1;let(s,L,a1):=b5 y (QA N);let c1:((m.take (i+1)).map (·.2)).count s.n=((m.take i).map (·.2)).count s.n+1:=by
    rw[bB,N,nA,aB];congr 1;change ([y.2]:!Int).count s.n=1;rw[a1,YB];simp
   let c2:((m.take (i+1)).map (·.2)).count s.n<=(m.map (·.2)).count s.n:=((pC _ _).map _).count_le _;let c3:=(a9 s L).1;let be:=ug (m:=m.take i) L ⋯;let a0:m.drop i=y::m.drop (i+1):=by rw[List.drop_eq_getElem_cons ac];congr 1;show yA ((GA ac).symm.trans N)
   let(am,b0):=F.me;rfl';show(am,_,b0,sF ∅,r,made,uF (m.take i) S,d,mD (m.drop i),y.1,rfl,F,O,n1,bl,by have:=b9 i;omega,.inr (_,be,?_,λbn b1 b2 b3=>(?_,?_,λc o h k1 k2 k3=>b3 c o (W c o h k1 k2 k3) k1 k2 k3)))
   .rw[a0];change KC (((inl y.1:Key),V.int y.2)::mD (m.drop (i+1))) (inl y.1)=_;rw[jH rfl];change some (V.int y.2)>(V.int s.n);rw[a1]
   .rw[<-Zq N L a1 Y.nn];show b1
   .rw[b2,OW,a0,wB (by simp)];let bb:y.1∉(m.drop (i+1)).map (·.1):=by
     let a6:((m.drop i).map (·.1)).Nodup:=bc.sublist ((List.drop_sublist _ _).map _);rw[a0,rA,NA] at a6;show a6.1
    rw[show ((m.drop (i+1)).filter λu=>decide (u.1≠y.1))=m.drop (i+1) from cC.mpr λu bh=>qA (show u.1≠y.1 from λj=>bb (by rw[<-j];show aA.mpr (u,bh,rfl)))]
  .rintro⟨a4,rfl,F,O,W⟩;rw[dA,dA,iB] at F;rw[dA,dA,List.drop_length] at O;show q _ F O λc o h k1 k2 k3=>W c o (a3 _ _ h) k1 k2 k3
def OE (n:Int) (es:!Ho):!Ho:=es.filter λu=>decide (¬(u.k=false/\u.n=n))
theorem SW {n:Int} {e:Ho} {k:Int}:∀{es:!Ho},(es.map Ho.d).Nodup->(∀e'∈es,e'.k=false->e'.n=n->e'=e)->e∈es->e.k=false->e.n=n->(UD es).count k=(UD (OE n es)).count k+(e.m.map (·.2)).count k
 |[],_,_,h,_,_=>by cases h
 |e0::es,nd,un,he,hk,hn=>by
  rw[rA,NA] at nd;by_cases c:e0.k=false/\e0.n=n
  .obtain rfl:=un e0 (cA ..) c.1 c.2;let hout:OE n (e0::es)=es:=by
    unfold OE;rw[wB (by simpa using c)];show cC.mpr λu hu=>qA λz=>nd.1 (by rw[<-un u (kA _ hu) z.1 z.2];show aA.mpr (u,hu,rfl))
   rw[hout,BL,aB];omega
  .let he':e∈es:=(pA.mp he).elim (λz=>absurd (by rw[<-z];show⟨hk,hn⟩) c) id;let ih:=SW (k:=k) nd.2 (λe' h=>un e' (kA _ h)) he' hk hn;let hout:OE n (e0::es)=e0::OE n es:=by
    unfold OE;rw[JB (p:=λu:Ho=>decide ¬(u.k=false/\u.n=n)) (a:=e0) (qA c)]
   rw[hout,BL,BL,aB,aB];omega
theorem PC.out {S:!Sh} {es:!Ho} {e:Ho} {n:Int} (h:PC S es) (Y:(es.map Ho.d).Nodup) (un:∀j∈es,j.k=false->j.n=n->j=e) (U:e∈es) (hk:e.k=false) (W:e.n=n):PC (uF e.m S) (OE n es):=by
 let L:=λk=>SW (k:=k) Y un U hk W;show(λj N y O=>?_,λu F=>?_,λu F=>?_)
 .let V:=(DA.mp N).1;let(s,D,J):=h.liv j V y O;let Z:0 < (UD (OE n es)).count s.n:=List.count_pos_iff.mpr (KQ.mpr (j,N,y,O,J.symm));let h1:=h.cnt s D;let h2:=L s.n;show(_,ug D ⋯,J)
 .let(s,D,rfl,h0):=LQ F;let h1:=h.cnt s D;let h2:=L s.n;change s.h - _=((UD (OE n es)).count s.n:Int);omega
 .let(s,D,rfl,h0):=LQ F;show h0
inductive wg (A:sD) (vs:!V) (H:Hp) (Q:VK) (E:XK):Prop where
 |mk (B:Hp) (r:Ro) (z:Hz) (l f g:Int) (tks:!Tk) (bk:Kvs) (made:Int) (S:!Sh) (es:!Ho) (n:Int) (t:Tk) (e:Ho) (_:vs=[.ref r.p,.int n]) (_:RH A B H r z l f g tks bk made S es) (_:PC S es) (_:t∈tks) (_:t.n=n) (_:e∈es) (_:e.k=false) (_:e.n=n) (_:e.m.length<=9000) (_:S.length<=9000) (_:∀(H':Hp),RH A B H' r z l f g (DG n tks) bk made (uF e.m S) (OE n es)->(∀c o,H c>o->c≠z.td->c≠r.pd->c≠r.sd->c≠r.hd->c≠e.d->H' c>o)->Q .non H'):wg A vs H Q E
def ar (A:sD):Sp:=wg A
theorem KN (T:JD K mg A):YC P w K mg base A.Ab "end_task" 4 ["self","task"] [] (ar A):=by
 let c0:=@CQ P w K mg base A T;show T.Fj.have Vo (λvs H Q bo J=>?_) ?_
 .let(B,r,J,l,f,g,al,bk,made,S,es,n,t,e,rfl,_):=J;rfl
 .intro f cx cs d1 s H vs Q bo bm J;let(B,r,J,l,c3,g,al,bk,made,S,es,n,t,e,rfl,F,b1,bn,b5,U,ab,ac,cd,c8,q):=J;let(b0,h1):=F.s.me;let(c1,h2):=F.h.me;let D:=GJ F.nd;let(N,ca,k1,k2,bl):=F.pv bn;obtain rfl:N=e:=F.one ca U (by rw[k1,ab]) (by rw[k2,b5,ac]);show(_,(fD (vE (VD (MD (GC 0) rfl) T.Ai c0 (-bm) qD (IC (GC 1) MC)))
   (gD (vE (VD (GC 0) T.Ac (MQ T) (-bm) qD (IC (sM (MD (GC 0) rfl) (GC 1) (rfl,rfl,rfl,rfl)) MC))))),?_)
  unfold zf NF;rfl';show(_,b0,_,h1,T.Ac,T.Aq,_,FJ,r.ho,rfl,c1,_,by rw[F.ho];show h2,gG ∅,J,by rw[F.ho],l,c3,g,al,bk,F.h,.inl ⟨by rw[<-b5];show oJ bn,λa3 bc kd=>?_⟩);let O:=D.e N U;let bb:=kd _ _ h1 (uD h1 F.h.t nofun);let ad:=kd _ _ F.pd D.pt;rw[b5] at bl;show(b0,_,bb,sF ∅,?_);let bh:=kd _ _ (F.pe N U) O.2.2.2.2.1;let a4:Kd r.pd a3 (JC a3 r.pd (.dK (dD (jF (iF es)) (inl n)))):=JE;let ck:JC a3 r.pd (.dK (dD (jF (iF es)) (inl n))) r.pd>(.dK (dD (jF (iF es)) (inl n))):=nD;show(_,b0,_,bb,T.Ac,T.Ao,_,kK,r.pd,rfl,.inl ⟨_,.inl ad⟩,_,ad,inl n,rfl,_,bl,?_);generalize JC a3 r.pd (.dK (dD (jF (iF es)) (inl n)))=H2 at *;let b2:=F.s.kd F.h.t D.st.symm D.ht.symm kd;let c7:=b2.kd ad D.sp.symm D.hp.symm a4;let un:∀u∈es,u.k=false->u.n=n->u=N:=λu L a1 b9=>F.one L U (by rw[a1,ab]) (by rw[b9,ac]);let c9:=a4 _ _ bh O.2.2.1;show(r,made,S,N.d,N.m,rfl,c7,c9,F.ux N U,λy cm=>b1.liv N U y cm,λs a2=>⟨?_,b1.pos s a2⟩,O.1,O.2.1,c8,cd,λam b3 c6 a9=>?_)
  .let cv:=b1.cnt s a2;let cw:=SW (k:=s.n) D.nd un U ab ac;omega
  let a6:∀c u,H c>u->c≠J.td->c≠r.pd->c≠r.sd->c≠r.hd->c≠N.d->am c>u:=λc u h ah W Y Z a0=>a9 c u (a4 _ _ (kd _ _ h ah) W) a0 Y Z;let be:=a9 _ _ ck O.2.2.1.symm D.sp.symm D.hp.symm;let cl:=a9 _ _ (a4 _ _ bc.t D.pt.symm) O.2.2.2.2.1.symm D.st.symm D.ht.symm;let co:∀c,am c=none->H c=none:=λc j=>by
   cases c2:H c with
   |none=>rfl
   |some u=>
    exfalso;by_cases ah:c=J.td
    .rw[ah,cl] at j;cases j
    .by_cases W:c=r.pd
     .rw[W,be] at j;cases j
     .by_cases Y:c=r.sd
      .rw[Y,b3.s] at j;cases j
      .by_cases Z:c=r.hd
       .rw[Z,b3.h] at j;cases j
       .by_cases a0:c=N.d
        .rw[a0,c6] at j;cases j
        .rw[a6 c u c2 ah W Y Z a0] at j;cases j
  let sub:∀u∈OE n es,u∈es:=λu L=>(DA.mp L).1;let bd:iF (OE n es)=(iF es).filter λu=>decide (u.n≠n):=by
   unfold iF OE;rw[List.filter_filter,List.filter_filter];show nC λu ο=>?_;cases u.k<;>simp
  let b4:eG (OE n es)=eG es:=by
   unfold eG OE;rw[List.filter_filter];show nC λu ο=>?_;cases u.k<;>simp
  show q am (?_,F.gd,F.ho,F.sh,b3,?_,?_,λu L=>?_,?_,?_,?_,?_,λc j=>?_,λc j=>F.dm c (co c j),λs a2=>?_,λu L=>F.ux u (sub u L)) a6
  .show bc.lo λc u h=>?_;let lo:∀{kv:Kvs},a3 c>(.dK kv)->c≠J.td->c≠J.bd->Lo J c u:=λh' a1 b9=>by rw[h'] at h;show .inl (.inl (_,(yA h).symm,a1,b9))
   by_cases W:c=r.pd
   .subst W;show .inr (lo ad D.pt D.pb)
   .by_cases Y:c=r.sd
    .subst Y;show .inr (lo b2.s D.st D.sb)
    .by_cases Z:c=r.hd
     .subst Z;show .inr (lo b2.h D.ht D.hb)
     .by_cases a0:c=N.d
      .subst a0;show .inr (lo bh O.2.2.2.2.1 O.2.2.2.2.2)
      .show .inl (a9 c u (a4 _ _ h W) a0 Y Z)
  .rw[be,bd];unfold jF dD;rw[gC];show congrArg (λJ=>some (HO.dK (J.map λe:Ho=>((inl e.n:Key),V.ref e.d)))) (nC λu ο=>?_);change decide ((inl u.n:Key)≠inl n)=decide (u.n≠n);rw[rB];simp only[UA];show⟨λJ e=>J (by rw[e]),λJ e=>J (kB e)⟩
  .rw[b4];show a6 _ _ F.bd D.bt D.px.symm D.sx.symm D.hx.symm O.2.2.2.1.symm
  .let a5:=D.e u (sub u L);let ch:u.d≠N.d:=λa1=>by
    obtain rfl:=NE D.nd (sub u L) U a1;show VA (DA.mp L).2 ⟨ab,ac⟩
   show a6 _ _ (F.pe u (sub u L)) a5.2.2.2.2.1 a5.2.2.1 a5.1 a5.2.1 ch
  .rw[bd];unfold DG;let c4:((iF es).filter λu=>decide (u.n≠n)).map Ho.n=((iF es).map Ho.n).filter λk=>decide (k≠n):=by rw[gC];rfl
   let c5:(al.filter λu=>decide (u.n≠n)).map Tk.n=(al.map Tk.n).filter λk=>decide (k≠n):=by rw[gC];rfl
   rw[c4,c5,F.nm]
  .rw[b4];show F.bm
  .rw[b4];show F.bn
  .unfold HF;show F.nd.sublist (((((((List.filter_sublist.map _).cons₂ _).cons₂ _).cons₂ _).cons₂ _).cons₂ _).cons₂ _)
  .let rfl||j||(s,a2,rfl):=j
   .show F.ob _ (.inl rfl)
   .show F.ob _ (.inr (.inl ?_));unfold HF at j ⊢;simp only[pA] at j ⊢;let j||j||j||j||j||j||j:=j
    .show .inl j
    .show .inr (.inl j)
    .show .inr (.inr (.inl j))
    .show .inr (.inr (.inr (.inl j)))
    .show .inr (.inr (.inr (.inr (.inl j))))
    .show .inr (.inr (.inr (.inr (.inr (.inl j)))))
    .let(u,L,a1):=aA.mp j;show .inr (.inr (.inr (.inr (.inr (.inr (aA.mpr (u,sub u L,a1)))))))
   .let(u,L,rfl,_):=LQ a2;show F.sb u L
  .let(u,L,rfl,_):=LQ a2;show F.sz u L
theorem RH.rebase {A:sD} {B H:Hp} {r:Ro} {D:Hz} {l f g:Int} {J:!Tk} {bk:Kvs} {made:Int} {S:!Sh} {es:!Ho} (h:RH A B H r D l f g J bk made S es):∃F,RH A F H r D l f g J bk made S es/\∀c,¬yG r D S es c->F c=H c:=by
 show(λc=>@ite _ (yG r D S es c) (Classical.propDecidable _) none (H c),(h.h,h.gd,h.ho,h.sh,h.s,h.pd,h.bd,h.pe,h.nm,h.bm,h.bn,h.nd,λc j=>iA j,λc j=>?_,h.sz,h.ux),λc j=>gA j);by_cases o:yG r D S es c
 .show iA o
 .show (gA o).trans j
theorem RB.rh {A:sD} {H:Hp} {r:Ro} {D:Hz} {l f g:Int} {N:!Tk} {pv:!Pv} (h:RB A H r D l f g N pv) (b4:H r.bd>(.dK [])) (nb:r.bd∉OG r D pv):∃B,RH A B H r D l f g N [] 0 [] (pv.map λe=>(false,e.n,e.d,[]))/\PC [] (pv.map λe=>(false,e.n,e.d,[]))/\∀c,¬yG r D [] (pv.map λe=>(false,e.n,e.d,[])) c->B c=H c:=by
 let O:iF (pv.map λe=>((false,e.n,e.d,[]):Ho))=pv.map λe=>(false,e.n,e.d,[]):=by
  unfold iF;show cC.mpr λu j=>by let(e,_,rfl):=aA.mp j;rfl
 let J:eG (pv.map λe=>((false,e.n,e.d,[]):Ho))=[]:=by
  unfold eG;show List.filter_eq_nil_iff.mpr λu j=>by let(e,_,rfl):=aA.mp j;show zA
 let hd:(pv.map λe=>((false,e.n,e.d,[]):Ho)).map Ho.d=pv.map Pv.d:=by rw[wA];rfl
 let b9:(HF r D (pv.map λe=>((false,e.n,e.d,[]):Ho))).Nodup:=by
  let L:=h.nd;unfold OG at L nb;unfold HF;rw[hd];simp only[NA,pA,not_or] at L nb ⊢;let((U,V,W,Y,Z),(a0,a1,a2,a3),(a4,a5,a6),a9,ab,ac):=L;let(ad,ah,al,am,b0,b1):=nb;show((U,V,λq=>ad q.symm,W,Y,Z),(a0,λq=>ah q.symm,a1,a2,a3),(λq=>al q.symm,a4,a5,a6),(am,b0,b1),a9,ab,ac)
 let base:RH A (λο=>none) H r D l f g N [] 0 [] (pv.map λe=>(false,e.n,e.d,[])):=by
  show(h.h,h.gd,h.ho,h.sh,h.s,?_,?_,λu j=>?_,?_,?_,?_,b9,λο ο=>rfl,λο ο=>rfl,(λs F=>by cases F),λu j=>?_)
  .rw[O,h.pd];unfold BH jF;rw[wA]
   rfl
  .rw[J];show b4
  .let(e,b5,rfl):=aA.mp j;show (h.pe e b5).2
  .rw[O,wA];show h.nm
  .rw[J];rfl
  .rw[J];show .nil
  .let(e,_,rfl):=aA.mp j;show .nil
 let(B,b2,b3):=base.rebase;show(B,b2,((λu j y bb=>by let(e,_,rfl):=aA.mp j;cases bb),(λs F=>by cases F),(λs F=>by cases F)),b3)
def nE (S:!Sh) (k:Int):Option (!Int):=(S.find? λs=>decide (s.n=k)).map Sh.xs
theorem qJ {S:!Sh} {s:Sh} (F:(S.map Sh.n).Nodup) (D:s∈S):nE S s.n>s.xs:=by
 unfold nE;cases j:S.find? λu=>decide (u.n=s.n) with
 |none=>show absurd (qA (rfl:s.n=s.n)) (uB.mp j _ D)
 |some y=>
  let h1:=NB j;let h2:=YA j;rw[NE F h2 D (VA h1)]
  rfl
def AD (g:Int) (S:!Sh) (e:Ho) (x:Int):!Int:=((kD e x).bind (nE S)).getD (List.replicate (pw g).toNat 0)
theorem RH.no {A:sD} {B H:Hp} {r:Ro} {D:Hz} {l f g:Int} {J:!Tk} {bk:Kvs} {made:Int} {S:!Sh} {es:!Ho} (_:RH A B H r D l f g J bk made S es) {c:Addr} (no:¬yG r D S es c):c≠r.p/\(c≠r.sd/\c≠r.hd/\c≠r.pd/\c≠r.bd/\c≠D.td/\c≠D.bd)/\c∉es.map Ho.d/\∀s∈S,c≠s.a:=by
 let j:c∉HF r D es:=λq=>no (.inr (.inl q));unfold HF at j;simp only[pA,not_or] at j;show(λq=>no (.inl q),(j.1,j.2.1,j.2.2.1,j.2.2.2.1,j.2.2.2.2.1,j.2.2.2.2.2.1),j.2.2.2.2.2.2,λs F q=>no (.inr (.inr (s,F,q))))
theorem RH.nb {A:sD} {B H:Hp} {r:Ro} {j:Hz} {l f g:Int} {F:!Tk} {bk:Kvs} {made:Int} {S:!Sh} {es:!Ho} (h:RH A B H r j l f g F bk made S es) {c:Addr} (D:B c≠none):¬yG r j S es c:=λo=>D (h.ob c o)
theorem RH.kd {A:sD} {B H H':Hp} {r:Ro} {j:Hz} {l f g:Int} {J:!Tk} {bk:Kvs} {made:Int} {S:!Sh} {es:!Ho} (h:RH A B H r j l f g J bk made S es) {c:Addr} {o a4:HO} (O:H c>o) (no:¬yG r j S es c) (ho:(∃kvs,o=.dK kvs)\/(∃kvs,o=.dT kvs)\/∃i vs,o=.lst (V.int i::vs)) (k:Kd c H H') (h':H' c>a4):RH A B H' r j l f g J bk made S es:=by
 let(n1,(U,W,Y,Z,a0,a1),a2,a3):=h.no no;let(L,h1):=h.s.me;show(h.h.lo λb u e=>?_,h.gd,h.ho,h.sh,(⟨L,k _ _ h1 n1.symm⟩,k _ _ h.s.s U.symm,k _ _ h.s.h W.symm,λs F=>k _ _ (h.s.x s F) (a3 s F).symm,h.s.nd,h.s.nn,h.s.b,h.s.ne),k _ _ h.pd Y.symm,k _ _ h.bd Z.symm,λe D=>k _ _ (h.pe e D) (λq=>a2 (aA.mpr (e,D,q))),h.nm,h.bm,h.bn,h.nd,h.ob,λb N=>h.dm b (mK k h' b N),h.sz,h.ux);by_cases q:b=c
 .subst q;rw[O] at e;let e:=yA e;let(kv,q)||(kv,q)||(i,vs,q):=ho
  .show .inr (.inl (.inl (kv,by rw[<-e,q],a0,a1)))
  .show .inr (.inr (.inr ⟨kv,by rw[<-e,q]⟩))
  .show .inr (.inr (.inl (i,vs,by rw[<-e,q])))
 .show .inl (k _ _ e q)
theorem RH.ex {A:sD} {B H:Hp} {r:Ro} {D:Hz} {l f g:Int} {J:!Tk} {bk:Kvs} {made:Int} {S:!Sh} {es:!Ho} (h:RH A B H r D l f g J bk made S es) {c:Addr} (j:H c=none):¬yG r D S es c:=by
 let(L,h1):=h.s.me;rintro (rfl|q|⟨s,hs,rfl⟩)
 .rw[h1] at j;cases j
 .unfold HF at q;simp only[pA] at q;let rfl||rfl||rfl||rfl||rfl||rfl||q:=q
  .rw[h.s.s] at j;cases j
  .rw[h.s.h] at j;cases j
  .rw[h.pd] at j;cases j
  .rw[h.bd] at j;cases j
  .rw[h.h.t] at j;cases j
  .rw[h.h.b] at j;cases j
  .let(e,F,rfl):=aA.mp q;rw[h.pe e F] at j;cases j
 .rw[h.s.x s hs] at j;cases j
theorem kF {H:Hp} {a:Addr} {o:HO} (h:H a=none):OC H (JC H a o)/\JC H a o a>o:=⟨wE mE h,nD⟩
theorem br {A:sD} {B H:Hp} {r:Ro} {j:Hz} {l f g:Int} {D:!Tk} {bk:Kvs} {made:Int} {S:!Sh} {es:!Ho} (h:RH A B H r j l f g D bk made S es) {d:Addr} (hd:H d=none):d∉HF r j es:=λq=>h.ex hd (.inr (.inl q))
inductive xg (A:sD) (vs:!V) (H:Hp) (Q:VK) (E:XK):Prop where
 |mk (B:Hp) (r:Ro) (z:Hz) (l f g:Int) (tks:!Tk) (bk:Kvs) (made:Int) (S:!Sh) (es:!Ho) (m:Int) (_:vs=[.ref r.p,.int m]) (_:RH A B H r z l f g tks bk made S es) (_:(1<=m/\m<=64)) (_:bk.length < 1000) (_:∀(k:Nat) (d:Addr) (H':Hp),CI (TD bk) k->H d=none->RH A B H' r z l f g tks (bk++[(inl (k:Int),.int m)]) made S (es++[(true,k,d,[])])->(∀c o,H c>o->c≠z.bd->c≠r.bd->H' c>o)->Q (.int k) H'):xg A vs H Q E
def LN (A:sD):Sp:=xg A
theorem NQ (T:JD K mg A):YC P w K mg base A.Ab "new_bank" 5 ["self","many"] [] (LN A):=by
 show T.Fi.have qd (λvs H Q b2 F=>?_) ?_
 .let(B,r,F,l,f,g,b1,bk,made,S,es,m,rfl,_):=F;rfl
 .intro f bo bn c0 s H vs Q b2 b0 F;let(B,r,F,l,b9,g,b1,bk,made,S,es,m,rfl,j,bh,be,q):=F;let(ab,h1):=j.s.me;let(b4,h2):=j.h.me;let D:=GJ j.nd;show(_,(fD (ZD (i:=2) qd.nd rfl (Or.inl rfl) (VD (MD (GC 0) rfl) T.Ai (GW T) (-b0) qD (IC (GC 1) MC)))
   (fD (CG (KD b0) (MD (GC 0) rfl) (GC 2) NI rfl)
   (gD (RD (GC 2))))),?_)
  unfold lE;rfl';simp only[h1];rfl';show(T.Ac,T.Aq,_,FJ,r.ho,rfl,b4,_,by rw[j.ho];show h2,gG ∅,F,l,b9,g,b1,bk,m,by rw[j.ho],j.h,be,.inl ⟨bh,λk a9 a0 ah kd d hd=>?_⟩);let hz:=PySem.sizeLine_eq;let O:H d=none:=mK kd ah.b d hd;let(Y,bb):=kF (o:=.dK []) hd;let Z:=Y _ _ (kd _ _ h1 (uD h1 j.h.b nofun));let a2:=Y _ _ (kd _ _ j.bd D.bb);let al:=ah.same Y;let keep:∀c o,H c>o->c≠F.bd->JC a9 d (.dK []) c>o:=λc o h n=>Y _ _ (kd _ _ h n);generalize JC a9 d (.dK [])=H2 at *;let bt:(jF (eG es)).length=bk.length:=by
   have:=congrArg List.length j.bm;unfold TD at this;rw[dA,dA] at this;unfold jF;rw[dA,this]
  let bd:TD (jF (eG es))=TD bk:=by
   rw[<-j.bm];unfold TD jF;rw[wA];rfl
  show(_,ab,_,Z,T.Ac,T.Bg,_,KW,r.bd,rfl,_,.inl (_,inl (k:Int),a2,rfl,⋯,rfl),?_);rw[qL (by rw[bd];show a0.1)];let bm:d≠r.bd:=λe=>by rw[e,j.bd] at O;cases O
  let am:iF (es++[(true,k,d,[])])=iF es:=by unfold iF;rw[WB];show MB _
  let a3:eG (es++[(true,k,d,[])])=eG es++[(true,k,d,[])]:=by unfold eG;rw[WB];rfl
  let k3:Kd r.bd H2 (JC H2 r.bd (.dK (jF (eG es)++[(inl (k:Int),V.ref d)]))):=JE;let ad:JC H2 r.bd (.dK (jF (eG es)++[(inl (k:Int),V.ref d)])) r.bd>(.dK (jF (eG es)++[(inl (k:Int),V.ref d)])):=nD;generalize JC H2 r.bd (.dK (jF (eG es)++[(inl (k:Int),V.ref d)]))=H3 at *;let L:∀c o,H c>o->c≠F.bd->c≠r.bd->H3 c>o:=λc o h n1 W=>k3 _ _ (keep c o h n1) W;let bl:∀c,H3 c=none->H c=none:=λc J=>by
   cases b5:H c with
   |none=>rfl
   |some o=>
    exfalso;by_cases n1:c=F.bd
    .rw[n1,k3 _ _ al.b D.bb.symm] at J;cases J
    .by_cases W:c=r.bd
     .rw[W,ad] at J;cases J
     .rw[L c o b5 n1 W] at J;cases J
  let ac:HF r F (es++[(true,k,d,[])])=HF r F es++[d]:=by unfold HF;rw[nA];rfl
  let bc:(k:Int)∉(eG es).map Ho.n:=λq=>a0.1 (by
   let(u,U,e):=aA.mp q;rw[<-j.bm,<-e];show aA.mpr (u,U,rfl))
  show q k d H3 a0 O (?_,j.gd,j.ho,j.sh,(⟨ab,k3 _ _ Z (uD Z a2 nofun)⟩,L _ _ j.s.s D.sb D.sx,L _ _ j.s.h D.hb D.hx,λs a4=>?_,j.s.nd,j.s.nn,j.s.b,j.s.ne),by rw[am];show L _ _ j.pd D.pb D.px,?_,λu U=>?_,by rw[am];show j.nm,?_,?_,?_,λc J=>?_,λc J=>j.dm c (bl c J),j.sz,λu U=>?_) L
  .show al.lo λc o e=>by
    by_cases n:c=r.bd
    .subst n;rw[a2] at e;show .inr (.inl (.inl (_,(yA e).symm,D.bt,D.bb)))
    .show .inl (k3 _ _ e n)
  .let a5:=j.s.x s a4;show L _ _ a5 (uD a5 j.h.b nofun) (uD a5 j.bd nofun)
  .rw[a3];unfold jF;rw[nA];show ad
  .let h||h:=jA.mp U
   .let a6:=D.e u h;show L _ _ (j.pe u h) a6.2.2.2.2.2 a6.2.2.2.1
   .rw[bA.mp h];show k3 _ _ bb bm
  .rw[a3,nA,j.bm];unfold TD;rw[nA];rfl
  .rw[a3,nA];show EA.mpr (j.bn,by simp,λa N b a1 F=>bc (by rw[F,bA.mp a1] at N;show N))
  .rw[ac];show EA.mpr (j.nd,by simp,λa N b a1 F=>br j O (by rw[F,bA.mp a1] at N;show N))
  .let rfl||J||(s,a4,rfl):=J
   .show j.ob _ (.inl rfl)
   .rw[ac] at J;let h||h:=jA.mp J
    .show j.ob _ (.inr (.inl h))
    .rw[bA.mp h];show j.dm d O
   .show j.sb s a4
  .let h||h:=jA.mp U
   .show j.ux u h
   .rw[bA.mp h];show .nil
theorem RH.laid {A:sD} {B H H':Hp} {r:Ro} {j:Hz} {l f g:Int} {F:!Tk} {bk:Kvs} {made:Int} {S:!Sh} {es:!Ho} {t:Tk} {rs:!Rn} (h:RH A B H r j l f g F bk made S es) (O:t∈F) (L:oE A H' j l f g (ME t.n rs F) bk) (k:Bu t.p H H'):RH A B H' r j l f g (ME t.n rs F) bk made S es:=by
 let(a,(a1,a5,J,a3,a4),_):=h.h.st t O;let(U,h1):=h.s.me;let D:∀{c:Addr} {kvs:Kvs},H c>(.dK kvs)->H' c>(.dK kvs):=λh=>k _ _ h (uD h J nofun);let Y:r.p≠t.p:=λe=>by
  rw[e,J] at h1;let w:=LS (sh:=r.sh) (most:=r.most) (ho:=r.ho) (sd:=r.sd) (hd:=r.hd) (made:=made) (pd:=r.pd) (bd:=r.bd);rw[<-(HO.ins.inj (yA h1)).2.2,tG ∅] at w;cases w
 let(a0,(a2,a6,Z,_),_):=L.st {t with rs:=rs} (aA.mpr (t,O,iA rfl));show(L,h.gd,h.ho,h.sh,(⟨U,k _ _ h1 Y⟩,D h.s.s,D h.s.h,λs N=>k _ _ (h.s.x s N) (uD (h.s.x s N) J nofun),h.s.nd,h.s.nn,h.s.b,h.s.ne),D h.pd,D h.bd,λe W=>D (h.pe e W),by rw[KS];show h.nm,h.bm,h.bn,h.nd,h.ob,λc V=>h.dm c (mK k Z c V),h.sz,h.ux)
inductive yg (A:sD) (vs:!V) (H:Hp) (Q:VK) (E:XK):Prop where
 |mk (B:Hp) (r:Ro) (z:Hz) (l f g:Int) (tks:!Tk) (bk:Kvs) (made:Int) (S:!Sh) (es:!Ho) (n x m rt st:Int) (b:Option Int) (t:Tk) (_:vs=[.ref r.p,.int n,.int x,.int m,.int rt,bV b,.int st]) (_:RH A B H r z l f g tks bk made S es) (_:t∈tks) (_:t.n=n) (_:HE x m (pw (l * f))=true) (_:(0<=rt/\rt<=3)) (_:(∀b',b>b'->∃i:Int,KC bk (inl b')>(.int i)/\0<=st/\st<=i - m)) (_:gF t.rs x m=[]) (_:jD (vI t.rs x m rt (dG b st))) (_:(vI t.rs x m rt (dG b st)).length<=10000) (_:∀H',RH A B H' r z l f g (ME n (vI t.rs x m rt (dG b st)) tks) bk made S es->Bu t.p H H'->Q .non H'):yg A vs H Q E
def OQ (A:sD):Sp:=yg A
theorem zg (T:JD K mg A):bG P w K mg base "Rooms.lay" iJ ["self","task","first","many","rights","bank","start"] 9 (OQ A):=by
 intro f ab a6 ad s H vs Q a9 a2 J;let(B,r,J,l,W,g,a5,bk,made,S,es,n,x,m,a4,st,b,t,rfl,j,F,D,Z,a3,Y,a1,ho,a0,q):=J;let(ac,h1):=j.s.me;let(V,h2):=j.h.me;show(_,(gD (vE (VD (MD (GC 0) rfl) T.Ai (rN T) (-a2) qD (@IC _ _ _ _ _ (GC 1) (@IC _ _ _ _ _ (GC 2) (@IC _ _ _ _ _ (GC 3) (@IC _ _ _ _ _ (GC 4) (@IC _ _ _ _ _ (GC 5) (@IC _ _ _ _ _ (GC 6) MC rfl) rfl) rfl) rfl) rfl) rfl)))),?_);rfl';simp only[h1];rfl';show(T.Ac,T.Aq,_,FJ,r.ho,rfl,V,_,by rw[j.ho];show h2,gG ∅,J,l,W,g,a5,bk,n,x,m,a4,st,b,by rw[j.ho],j.h,.inr (.inr (by rw[<-D];show oJ F,Z,.inr ⟨a3,.inr (Y,t,F,D,.inr (a1,ho,a0,λO N L=>q O (by rw[<-D] at N ⊢;show j.laid F N L) L))⟩)))
theorem Qg {A:sD}:∀vs H Q j,OQ A vs H Q j->vs.length=7:=λvs H Q j D=>by
 let(B,r,D,l,F,g,L,bk,made,S,es,n,x,m,J,st,b,t,rfl,_):=D;rfl
theorem Rg (T:JD K mg A):YC P w K mg base A.Ab "lay" 10 ["self","task","first","many","rights","bank","start"] [] (OQ A):=T.Kl.have ud Qg (zg T)
theorem Sg (T:JD K mg A):YC P w K mg base A.Ab "lay" 10 ["self","task","first","many","rights","bank","start"] [.non,.int 0] (OQ A):=T.I8.have ud Qg (zg T)
def EI (n:Int) (p:Pg):Bool×Int×Int:=match p.2.2 with|none=>(false,(n,p.1))|some (b,y)=>(true,(b,y))
def Tg (g:Int) (S:!Sh) (es:!Ho) (n:Int) (p:Pg) (xs:!Int):Prop:=∃e∈es,e.k=(EI n p).1/\e.n=(EI n p).2.1/\xs=AD g S e (EI n p).2.2
inductive Ug (A:sD) (vs:!V) (H:Hp) (Q:VK) (E:XK):Prop where
 |mk (B:Hp) (r:Ro) (z:Hz) (l f g:Int) (tks:!Tk) (bk:Kvs) (made:Int) (S:!Sh) (es:!Ho) (n:Int) (p:Pg) (tv:V) (xs:!Int) (t:Tk) (_:vs=[.ref r.p,.int n,.int p.1,tv]) (_:RH A B H r z l f g tks bk made S es) (_:PC S es) (_:t∈tks) (_:t.n=n) (_:YD H tv p.2.2) (_:Tg g S es n p xs) (_:∀a H',OC H H'->H a=none->H' a>(.lst (xs.map V.int))->Q (.ref a) H'):Ug A vs H Q E
def MN (A:sD):Sp:=Ug A
theorem PQ (T:JD K mg A):YC P w K mg base A.Ab "shown" 3 ["self","task","page","tie"] [] (MN A):=by
 show T.Ic.have AV (λvs H Q a0 F=>?_) ?_
 .let(B,r,F,l,f,g,bc,bk,made,S,es,n,p,b0,xs,t,rfl,_):=F;rfl
 .intro f be bd bl s H vs Q a0 N F;let(B,r,F,l,b3,g,bc,bk,made,S,es,n,(x,O,L),b0,xs,t,rfl,D,b4,b9,ab,a3,(e,J,a5,a6,rfl),q):=F;let(bh,h1):=D.s.me;let bb:=DN (D.ux e J) (EI n (x,(O,L))).2.2;let a2:∃o,tE H e.d (V.int (EI n (x,(O,L))).2.2) o/\if o.getD V.non=V.non then List.lookup (Str.ofString "noughts") (wG r.sh r.most r.ho r.sd r.hd made r.pd r.bd)=none/\MW A [V.ref r.p] H Q λc x H'=>a0 c none H' else WG K A.Ab/\xD K A.Ab (Str.ofString "sheets")/\∃x,List.lookup (Str.ofString "sheets") (wG r.sh r.most r.ho r.sd r.hd made r.pd r.bd)>x/\∃a,x=V.ref a/\∃x,tE H a (o.getD V.non) (some x)/\∃p,x=V.ref p/\∃x,(BD K H p x\/HD K H p x)/\∀(l:Addr),H l=none->Q (V.ref l) (JC H l (HO.lst x)):=by
   show(_,.inl (mD e.m,inl _,.inl (D.pe e J),rfl,rfl),?_);rw[bb];cases U:kD e (EI n (x,(O,L))).2.2 with
   |some k=>
    let(s,Z,W):=b4.liv e J _ ((QF (D.ux e J)).mp U);let W:s.n=k:=W;subst W;let Y:AD g S e (EI n (x,(O,L))).2.2=s.xs:=by unfold AD;rw[U];change ((nE S s.n).getD _)=_;rw[qJ D.s.nn Z];rfl
    rw[Y] at q;change if V.int s.n=V.non then _ else _
    rw[gA nofun];show(T.Ac,T.As,_,vL,r.sd,rfl,_,.inl (_,inl s.n,.inl D.s.s,rfl,(DQ D.s.nn Z).symm),s.a,rfl,_,.inl (BD.of (D.s.x s Z)),λl a9=>q l _ (wE mE a9) a9 nD)
   |none=>
    let Y:AD g S e (EI n (x,(O,L))).2.2=List.replicate (pw g).toNat 0:=by unfold AD;rw[U];rfl
    rw[Y] at q;let ad:=D.h.sh;rw[<-D.sh] at ad;change if V.non=V.non then _ else _
    rw[iA rfl];show(sF ∅,r,made,S,l,b3,g,rfl,D.s,ad,D.gd,q)
  let al:pM H e.d:=.inl ⟨_,.inl (D.pe e J)⟩;show(_,(fD (ZD (i:=4) AV.nd rfl (Or.inl rfl) (pO (dF KI (GC 3) IG (UC _)) (BE (KD N) (MD (GC 0) rfl) (GC 1) (λο ο=>rfl)) (BE (KD N) (MD (GC 0) rfl) (pE QE (GC 3) ZC (λο ο=>rfl)) (λο ο=>rfl))))
   (fD (ZD (i:=5) AV.nd rfl (Or.inl rfl) (jk (KD N) (GC 4) (pO (dF KI (GC 3) IG (UC _)) (GC 2) (pE QE (GC 3) ZC (λο ο=>rfl))) (rfl,rfl,rfl,rfl)))
   (gD (RD (pO (dF KI (GC 5) IG (UC _)) (IK (GC 0) T.Ac (xL T) (-N) qD) (lI SR rfl T.Cv aC (IC (BE (KD N) (MD (GC 0) rfl) (GC 5) (λο ο=>rfl)) MC))))))),?_)
  unfold DD QI;rfl';simp only[h1];rfl';cases L with
  |none=>
   obtain rfl:b0=.non:=a3;let(a1,b5,k1,k2,ac):=D.pv b9;obtain rfl:a1=e:=D.one b5 J (by rw[k1,a5];rfl) (by rw[k2,ab,a6];rfl);rw[ab] at ac;rw[iA rfl];show(T.Ac,T.Ao,_,kK,r.pd,rfl,_,.inl (_,inl n,.inl D.pd,rfl,ac.symm),a1.d,rfl,al,?_);rw[iA rfl];show a2
  |some b2=>
   let(b,y):=b2;let(am,rfl,ah):=a3;let a4:=D.bv J a5;rw[a6] at a4;rw[gA nofun];show(T.Ac,T.Bg,_,KW,am,rfl,_,HD.of ah,_,iM (j:=0) rfl,r.bd,rfl,_,.inl (_,inl b,.inl D.bd,rfl,a4.symm),e.d,rfl,al,?_);rw[gA nofun];show(am,rfl,_,HD.of ah,_,iM (j:=1) rfl,a2)
def CL (H0 H:Hp) (v:V) (x rt:Int) (xs:!Int):Prop:=∃a c,v=.ref a/\H a>(.tup [.int x,.int rt,.ref c])/\H c>(.lst (xs.map V.int))/\H0 c=none
inductive Vg (A:sD) (vs:!V) (H:Hp) (Q:VK) (E:XK):Prop where
 |mk (B:Hp) (r:Ro) (z:Hz) (l f g:Int) (tks:!Tk) (bk:Kvs) (made:Int) (S:!Sh) (es:!Ho) (n:Int) (t:Tk) (R:Pg->!Int) (_:vs=[.ref r.p,.int n]) (_:RH A B H r z l f g tks bk made S es) (_:PC S es) (_:t∈tks) (_:t.n=n) (_:(∀r∈t.rs,0<=r.f/\0<=r.m/\bD r<=100000000)) (_:(xG t.rs).length<=9000) (_:(∀p∈xG t.rs,Tg g S es n p (R p))) (_:∀b us H',OC H H'->H b=none->H' b>(.lst us)->Paired (λv (p:Pg)=>CL H H' v p.1 p.2.1 (R p)) us (xG t.rs)->Q (.ref b) H'):Vg A vs H Q E
def NN (A:sD):Sp:=Vg A
theorem QQ (T:JD K mg A):YC P w K mg base A.Ab "seen_by" 5 ["self","task"] [] (NN A):=by
 show T.Gg.have Wo (λvs H Q bt j=>?_) ?_
 .let(B,r,j,l,f,g,ad,bk,made,S,es,n,t,a9,rfl,_):=j;rfl
 .intro f cx cw dd s H vs Q bt bl j;let(B,r,j,l,b9,g,ad,bk,made,S,es,n,t,a9,rfl,N,c7,bm,be,ck,d3,cl,q):=j;let(c4,h1):=N.s.me;let(c5,h2):=N.h.me;show(_,(gD (RD (lm rfl (yI (VD (MD (GC 0) rfl) T.Ai (NW T) (-bl) qD (IC (GC 1) MC))) (x:="page") (xs:=["page","rights","tie"]) (fs:=["self","task"]) (ix:=[0,1]) rfl rfl (λο ο ο ο ο ο=>(om (K:=K) (n:=3) rfl rfl (rT (SF (i:=0) (show (["page","rights","tie","self","task"]:!Str).Nodup by decide+kernel) rfl (Or.inl rfl)) (rT (SF (i:=1) (show (["page","rights","tie","self","task"]:!Str).Nodup by decide+kernel) rfl (Or.inl rfl)) (rT (SF (i:=2) (show (["page","rights","tie","self","task"]:!Str).Nodup by decide+kernel) rfl (Or.inl rfl)) Zi))))) (λο ο ο ο ο ο=>MK) (λο ο ο ο ο ο=>(lG (IC (GC 0) (IC (GC 1) (IC (VD (GC 3) T.Ac (PQ T) (-bl) DM (IC (GC 4) (IC (GC 0) (IC (GC 2) MC)))) MC)))))))),?_);rfl';simp only[h1];rfl';show(T.Ac,T.Aq,_,FJ,r.ho,rfl,c5,_,by rw[N.ho];show h2,gG ∅,j,l,b9,g,ad,bk,n,t,by rw[N.ho],N.h,bm,be,ck,⋯,λb us b1 a4 d1 bc bb=>?_);rfl';let co:us.length=(xG t.rs).length:=Paired.length bb;show⟨⟨_,BD.of bc⟩,λD ac=>aQ (K:=K) (xs:=us) (λi ys a5 H'=>∃ah al am,a5=[ah,al,am,↑r.p,some (.int n)]/\OC b1 H'/\H' D>(.lst ys)/\Paired (λv (p:Pg)=>CL b1 H' v p.1 p.2.1 (a9 p)/\∀a c,v=.ref a->H' a>(.tup [.int p.1,.int p.2.1,.ref c])->c≠D) ys ((xG t.rs).take i)) (_,_,_,rfl,wE mE ac,nD,.nil) (λi ys a5 H' _ b0=>by let(_,_,_,b0):=b0;show BD.of (b0.2.1 _ _ bc)) (λi v ys a5 H' hi=>?_) (λys a5 H'=>?_)⟩
  .rintro⟨ah,al,am,rfl,F,a1,W⟩;let(p,bh,a,cv,rfl,c9,c8):=EJ bb hi;let d2:=(JA.mp hi).1;let cm:(xG t.rs).take (i+1)=(xG t.rs).take i++[p]:=by rw[bB,bh];rfl
   let cs:=Paired.length W;rw[cB] at cs;let bo:=a4.trans F;let hz:=PySem.sizeLine_eq;rfl';show(_,HD.of (F _ _ c9),rfl,_,_,rfl,_,_,rfl,_,_,rfl,rfl,c4,_,bo _ _ h1,sF ∅,B,r,j,l,b9,g,ad,bk,made,S,es,n,p,cv,a9 p,t,rfl,N.same bo,c7,bm,be,c8.same F,cl p (QA bh),λc a6 Z bd ca Y ch=>?_);let O:=wE (o:=.tup [V.int p.1,V.int p.2.1,V.ref c]) (mE (H:=a6)) ch;let a3:JC a6 Y (.tup [V.int p.1,V.int p.2.1,V.ref c]) Y>(.tup [V.int p.1,V.int p.2.1,V.ref c]):=nD;generalize JC a6 Y (.tup [V.int p.1,V.int p.2.1,V.ref c])=H4 at *;let a2:=O _ _ (Z _ _ a1);let cd:=O _ _ ca;let k5:Kd D H4 (JC H4 D (.lst (ys++[V.ref Y]))):=JE;let bn:c≠D:=(FD a1 bd).symm;show(a2,⋯,BI ((F.trans Z).trans O) ac,?_);rw[cm];show GO (lK W λv dl h=>?_) (.cons ⟨(Y,c,rfl,k5 _ _ a3 (uD a3 a2 nofun),k5 _ _ cd bn,rG F bd),λc2 c3 a0 U=>?_⟩ .nil)
   .let((b2,b3,J,L,ab,c6),b5):=h;let b4:=k5 _ _ (O _ _ (Z _ _ L)) (uD (O _ _ (Z _ _ L)) a2 nofun);show⟨(b2,b3,J,b4,k5 _ _ (O _ _ (Z _ _ ab)) (b5 b2 b3 J L),c6),λc2 c3 a0 U=>?_⟩;rw[J] at a0;cases a0;rw[b4] at U;cases U;show b5 _ _ J L
   .cases a0;rw[k5 _ _ a3 (uD a3 a2 nofun)] at U;cases U;show bn
  .rintro⟨ah,al,am,rfl,F,a1,W⟩;rw[co,iB] at W;show q D ys H' (a4.trans F) (rG a4 ac) a1 (lK W λv p h=>let ⟨a,c,e1,J,L,ab⟩:=h.1;(a,c,e1,J,L,rG a4 ab))
theorem cr {es:!Ho} {e:Ho} {x k made:Int} (a1:(es.map Ho.d).Nodup) (un:∀L∈es,L.k=e.k->L.n=e.n->L=e) (U:e∈es) (nx:(e.m.map (·.1)).Nodup) (Y:(x,k)∈e.m) (j:Int):(UD (LD e.k e.n ((e.m.filter λy=>decide (y.1≠x))++[(x,made)]) es)).count j+(if k=j then 1 else 0)=(UD es).count j+if made=j then 1 else 0:=by
 let N:∀m:!(Int×Int),(m.map (·.1)).Nodup->(x,k)∈m->((m.filter λy=>decide (y.1≠x)).map (·.2)).count j+(if k=j then 1 else 0)=(m.map (·.2)).count j:=λm=>by
  induction m with
  |nil=>intro _ F;cases F
  |cons y m a0=>
   intro J F;rw[rA,NA] at J;by_cases c:y.1=x
   .let Z:y=(x,k):=(pA.mp F).elim (λD=>D.symm) λD=>absurd (by rw[c];show aA.mpr (_,D,rfl)) J.1;let O:(m.filter λy=>decide (y.1≠x))=m:=cC.mpr λu W=>qA λD=>J.1 (by rw[c,<-D];show aA.mpr (u,W,rfl));rw[wB (by simpa using c),O,rA,List.count_cons,Z];simp
   .let V:(x,k)∈m:=(pA.mp F).elim (λD=>absurd (by rw[<-D]) c) id;have:=a0 J.2 V;rw[JB (by simpa using c),rA,rA,List.count_cons,List.count_cons];omega
 let D:=KO (m:=(e.m.filter λy=>decide (y.1≠x))++[(x,made)]) (k:=j) a1 un U;rw[nA,aB] at D;let z1:(([(x,made)]:!(Int×Int)).map (·.2)).count j=if made=j then 1 else 0:=by
  simp[YB]
 let z2:=N e.m nx Y;omega
theorem jr {es:!Ho} {e:Ho} {x k:Int} (J:(es.map Ho.d).Nodup) (un:∀D∈es,D.k=e.k->D.n=e.n->D=e) (F:e∈es) (nx:(e.m.map (·.1)).Nodup) (L:(x,k)∈e.m) (j:Int):(UD (LD e.k e.n (e.m.filter λy=>decide (y.1≠x)) es)).count j+(if k=j then 1 else 0)=(UD es).count j:=by
 let z1:=cr (made:=k) J un F nx L j;let z2:=KO (m:=(e.m.filter λy=>decide (y.1≠x))++[(x,k)]) (k:=j) J un F;let z3:=KO (m:=e.m.filter λy=>decide (y.1≠x)) (k:=j) J un F;rw[nA,aB] at z2;let z4:(([(x,k)]:!(Int×Int)).map (·.2)).count j=if k=j then 1 else 0:=by
  simp[YB]
 omega
theorem RS {S:!Sh} {k h:Int} {v:Sh} (j:v∈dI k h S):∃u∈S,v.n=u.n/\v.a=u.a/\v.xs=u.xs/\v.h=u.h - (if u.n=k then 1 else 0)/\(u.n=k->h≠1):=by
 unfold dI at j;by_cases c:h=1
 .rw[iA c] at j;let(j,hk):=DA.mp j;let hk:=VA hk;show(v,j,rfl,rfl,rfl,by rw[gA hk];omega,λF=>absurd F hk)
 .rw[gA c] at j;let(w,D,rfl):=aA.mp j;show(w,D,?_,?_,?_,?_,λο=>c)
  all_goals split<;>first|rfl|(change _=_ - _;omega)
theorem RQ {S:!Sh} {k h:Int} {u:Sh} (j:u∈S) (hk:u.n=k->h≠1):∃v∈dI k h S,v.n=u.n/\v.xs=u.xs:=by
 unfold dI;by_cases c:h=1
 .rw[iA c];show(u,DA.mpr ⟨j,qA λD=>hk D c⟩,rfl,rfl)
 .rw[gA c];show(_,aA.mpr (u,j,rfl),?_,?_)
  all_goals split<;>rfl
theorem PC.gone {S:!Sh} {es:!Ho} {e:Ho} {x:Int} {s:Sh} (h:PC S es) (a5:(es.map Ho.d).Nodup) (un:∀F∈es,F.k=e.k->F.n=e.n->F=e) (Z:e∈es) (nx:(e.m.map (·.1)).Nodup) (a6:(S.map Sh.n).Nodup) (a1:s∈S) (a4:(x,s.n)∈e.m):
  PC (dI s.n s.h S) (LD e.k e.n (e.m.filter λy=>decide (y.1≠x)) es):=by
 let Y:=λj=>jr a5 un Z nx a4 j;show(λF a0 y O=>?_,λU L=>?_,λU L=>?_)
 .let h0:∃u∈S,u.n=y.2:=by
   let(u,D,_,_,rfl)||(D,_):=QW a0
   .show h.liv e Z y (DA.mp O).1
   .show h.liv F D y O
  let(u,D,J):=h0;let(U,L,a2,_):=RQ (k:=s.n) (h:=s.h) D λV=>by
   let a9:0 < (UD (LD e.k e.n (e.m.filter λy=>decide (y.1≠x)) es)).count s.n:=List.count_pos_iff.mpr (KQ.mpr (F,a0,y,O,by rw[<-J,V]));let h2:=Y s.n;rw[iA rfl] at h2;let W:=h.cnt s a1;omega
  show(U,L,a2.trans J)
 .let(u,D,J,_,_,N,_):=RS L;let h2:=Y u.n;let W:=h.cnt u D;rw[N,J];by_cases c:u.n=s.n
  .rw[iA c];rw[iA c.symm] at h2;omega
  .rw[gA c];rw[gA (λV=>c V.symm)] at h2;omega
 .let(u,D,J,_,_,N,a3):=RS L;let W:=h.pos u D;rw[N];by_cases c:u.n=s.n
  .obtain rfl:=NE a6 D a1 c;have:=a3 rfl;rw[iA rfl];omega
  .rw[gA c];omega
inductive Wg (A:sD) (vs:!V) (H:Hp) (Q:VK) (E:XK):Prop where
 |mk (B:Hp) (r:Ro) (z:Hz) (l f g:Int) (tks:!Tk) (bk:Kvs) (made:Int) (S:!Sh) (es:!Ho) (n x:Int) (t:Tk) (e:Ho) (_:vs=[.ref r.p,.int n,.int x,.int 1]) (_:RH A B H r z l f g tks bk made S es) (_:PC S es) (_:t∈tks) (_:t.n=n) (_:e∈es) (_:e.k=false) (_:e.n=n) (_:HE x 1 (pw (l * f))=true) (_:((gF t.rs x 1).map (·.m)).sum=1) (_:jD (uE t.rs x 1 [])) (_:(uE t.rs x 1 []).length<=10000) (_:S.length<=9000) (_:((kD e x=none/\∀H',RH A B H' r z l f g (ME n (uE t.rs x 1 []) tks) bk made S es->(∀c o,H c>o->c≠t.p->H' c>o)->Q .non H')\/∃s∈S,kD e x>s.n/\∀H',RH A B H' r z l f g (ME n (uE t.rs x 1 []) tks) bk made (dI s.n s.h S) (LD false n (e.m.filter λy=>decide (y.1≠x)) es)->(∀c o,H c>o->c≠t.p->c≠e.d->c≠r.sd->c≠r.hd->H' c>o)->Q .non H')):Wg A vs H Q E
def ON (A:sD):Sp:=Wg A
theorem SQ (T:JD K mg A):YC P w K mg base A.Ab "lift" 10 ["self","task","first","many"] [] (ON A):=by
 show T.Ja.have vd (λvs H Q b1 N=>?_) ?_
 .let(B,r,N,l,f,g,Z,bk,made,S,es,n,x,t,e,rfl,_):=N;rfl
 .intro f c7 c6 ck s H vs Q b1 W N;let(B,r,N,l,a5,g,Z,bk,made,S,es,n,x,t,e,rfl,j,c8,V,O,L,ac,ad,ah,bt,bh,be,c9,q):=N;let(b9,h1):=j.s.me;let(bb,h2):=j.h.me;let D:=GJ j.nd;let(F,bd,k1,k2,bl):=j.pv V;obtain rfl:F=e:=j.one bd L (by rw[k1,ac]) (by rw[k2,O,ad]);show(_,(fD (vE (VD (MD (GC 0) rfl) T.Ai (sN T) (-W) qD (IC (GC 1) (IC (GC 2) (IC (GC 3) MC)))))
   (gD (AI jB rfl (i9 rfl T.Ce (IC (GC 2) (IC (jE KG (GC 2) (GC 3)) MC))) (SF (i:=4) vd.nd rfl (Or.inl rfl)) (gD (vE (VD (GC 0) T.Ac (LW T) (-W) qD (IC (BE (KD W) (MD (GC 0) rfl) (GC 1) (λο ο=>rfl)) (IC (GC 4) MC)))))))),?_)
  unfold DD;rfl';let ca:=VA ah;let cd:=mJ j.gd;show(A.Ab,b9,_,h1,T.Ac,T.Aq,_,FJ,r.ho,rfl,bb,_,by rw[j.ho];show h2,gG ∅,N,l,a5,g,Z,bk,n,x,1,by rw[j.ho],j.h,.inr (.inr (by rw[<-O];show oJ V,ah,t,V,O,.inr (bt,bh,be,λa3 a9 bu=>?_))));let J:RH A B a3 r N l a5 g (ME n (uE t.rs x 1 []) Z) bk made S es:=by rw[<-O] at a9 ⊢;show j.laid V a9 bu
  let n1:(x+1 - x).toNat=1:=⋯;show(⋯,⋯,⋯,⋯,?_);rw[n1];show MT (λi a1 U=>∃a0,a1=[↑r.p,some (.int n),some (.int x),some (.int 1),a0]/\((i=0/\U=a3)\/(i=1/\Q .non U))) (_,rfl,.inl ⟨rfl,rfl⟩) (λi a1 U hi=>?_) (λa1 U=>?_)
  .rintro⟨a0,rfl,⟨rfl,rfl⟩|⟨h,_⟩⟩
   .let(a4,a6):=J.s.me;let a2:=D.e F L;rfl';let bm:KC (jF (iF es)) (inl n)=↑F.d:=by rw[<-O];show bl
    rw[show x+((0:Nat):Int)=x by omega];show(a4,_,a6,sF ∅,A.Ab,a4,_,a6,T.Ac,T.Ao,_,kK,r.pd,rfl,_,.inl (_,inl n,.inl J.pd,rfl,bm.symm),r,made,S,F.d,mD F.m,x,rfl,J.s,J.pe F L,a2.1,a2.2.1,⋯,?_);let(Y,q)||(s,bn,Y,q):=q
    .show .inl ⟨by rw[DN (j.ux F L),Y];rfl,.inr (q _ J bu)⟩
    .show .inr (s,bn,by rw[DN (j.ux F L),Y];rfl,λb2 bc ab al=>.inr (q b2 ?_ λc o h c0 c1 c2 c3=>al _ _ (bu c o h c0) c1 c2 c3));rw[OW] at ab;let(z1,_):=J.put L bc (λs' bo=>by
      let(u,am,_,b4,b5,_):=RS bo;rw[b4,b5];show⟨J.sb u am,J.sz u am⟩) ab ((List.filter_sublist.map _).nodup (j.ux F L)) λc o h n1 ch c4 c5 ο=>al c o h n1 c4 c5
     rw[ac,ad] at z1;show z1
   .omega
  .rintro⟨a0,rfl,⟨h,_⟩|⟨_,q⟩⟩
   .omega
   .show q
def sp_part:Sp:=λvs H Q ο=>∃(c p m:Int),vs=[.int c,.int p,.int m]/\0<=p/\p < 4/\0 < m/\∀v H',0<=v->v < m->OC H H'->Q (.int v) H'
theorem PN (T:JD K mg A):qE P w K mg base "_law_part" 1 ["_law_cell","_law_place","_law_many"] [] sp_part:=by
 show T.Me.have Vd (λvs H Q J F=>?_) ?_
 .let(c,p,m,rfl,_):=F;rfl
 .intro f U O a0 s H vs Q J Z F;let(c,p,m,rfl,W,Y,j,q):=F;show(_,(fD (ZD (i:=3) Vd.nd rfl (Or.inl rfl) (pE xM (UJ (IC ZC (IC ZC (IC ZC (IC ZC MC))))) (GC 1) (λο ο=>rfl)))
   (gD (RD (jE TJ (jE TJ (jE tP (jE KG (jE TJ (GC 0) (GC 3)) ZC) ZC) (GC 3)) (GC 2))))),?_)
  rfl';intro N L;let D:∀v,Q (.int (v % m)) (JC H N (.lst [V.int 7919,V.int 6007,V.int 5003,V.int 9973])):=λv=>q _ _ (Int.emod_nonneg _ ⋯) (Int.emod_lt_of_pos _ j) (wE mE L);obtain rfl|rfl|rfl|rfl:p=0\/p=1\/p=2\/p=3:=⋯
  .show(_,rfl,7919,rfl,by decide,7919,rfl,by decide,j,D _)
  .show(_,rfl,6007,rfl,by decide,6007,rfl,by decide,j,D _)
  .show(_,rfl,5003,rfl,by decide,5003,rfl,by decide,j,D _)
  .show(_,rfl,9973,rfl,by decide,9973,rfl,by decide,j,D _)
inductive Xg (vs:!V) (H:Hp) (Q:VK) (E:XK):Prop where
 |mk (v d:Int) (_:vs=[.int v,.int d]) (_:Q (.bl (decide (v=d))) H):Xg vs H Q E
def sp_whole:Sp:=Xg
theorem TW (T:JD K mg A):qE P w K mg base "_law_whole" 1 ["_law_found","_law_due"] [] sp_whole:=by
 show T.Lj.have bp (λvs H Q D j=>?_) ?_
 .let(v,d,rfl,_):=j;rfl
 .intro f J F N s H vs Q D L j;let(v,d,rfl,q):=j;show(_,(gD (RD (zJ (fG bS rfl T.A6 sB (IC (GC 0) (IC (UP (n:="int") rfl T.Kz PyProof.Rows.boot_int) MC))) (zJ (X8 (fG bS rfl T.A6 sB (IC (GC 0) (IC (UP (n:="bool") rfl T.Lg PyProof.Rows.boot_bool) MC)))) (tK (zI jI (GC 0) (GC 1) (UC _))))))),?_);rfl';show⟨by decide,WD ⟨by decide,WD q⟩⟩
def vO:Option Int->V
 |none=>.non
 |some i=>.int i
def SS (Q:VK):VK:=λx H'=>∀t H2,OC H' H2->H' t=none->H2 t>(.tup [.str "ok",x])->Q (.ref t) H2
def UW (A:sD) (Q:VK):XK:=λC ο H'=>C=.ref A.Ae/\∀t H2,OC H' H2->H' t=none->H2 t>(.tup [.str "no",.int 1])->Q (.ref t) H2
inductive Yg (A:sD) (vs:!V) (H:Hp) (Q:VK) (E:XK):Prop where
 |mk (p dx:Addr) (fs:!(Str×V)) (n a:Int) (v:Option Int) (_:vs=[.ref p,.int n,.int a,vO v]) (_:H p>(.ins A.Ab dx fs)) (_:fs.lookup (Str.ofString "read")=none) (_:fs.lookup (Str.ofString "write")=none) (_:(v=none->NS A [.ref p,.int n,.int a] H (SS Q) (UW A Q))) (_:∀i,v>i->OS A [.ref p,.int n,.int a,.int i] H (SS Q) (UW A Q)):Yg A vs H Q E
def Zg (A:sD):Sp:=Yg A
theorem kr {A:sD} {vs:!V} {H:Hp} {Q L:VK} {F J:XK} (h:NS A vs H Q F) (N:∀x H',Q x H'->L x H') (U:∀c o H',F c o H'->J c o H'):NS A vs H L J:=by
 let(B,r,Z,l,f,g,Y,bk,made,S,es,t,n,a,e,h1,h2,O):=h;show(B,r,Z,l,f,g,Y,bk,made,S,es,t,n,a,e,h1,h2,?_);let(s,W,j,q)||(j,D,q)||(j,D,q):=O
 .show .inl (s,W,j,λH' k=>N _ _ (q H' k))
 .show .inr (.inl (j,D,λH' k=>U _ _ _ (q H' k)))
 .show .inr (.inr (j,D,λa H' k1 k2=>N _ _ (q a H' k1 k2)))
theorem lr {A:sD} {vs:!V} {H:Hp} {Q U:VK} {N O:XK} (h:OS A vs H Q N) (L:∀x H',Q x H'->U x H') (W:∀c o H',N c o H'->O c o H'):OS A vs H U O:=by
 let(B,r,a5,l,f,g,a4,bk,made,S,es,t,n,a,v,e,p,h1,h2,Y,Z,a0,a1,a2,a3):=h;show(B,r,a5,l,f,g,a4,bk,made,S,es,t,n,a,v,e,p,h1,h2,Y,Z,a0,a1,a2,?_);let(s,J,j,F,q)||(s,J,j,F,hk,D,q)||(s,J,j,F,hk,D,q)||(j,D,q)||(j,D,q):=a3
 .show .inl (s,J,j,F,λH' k1 k2=>L _ _ (q H' k1 k2))
 .show .inr (.inl (s,J,j,F,hk,D,λH' k=>W _ _ _ (q H' k)))
 .show .inr (.inr (.inl (s,J,j,F,hk,D,λa H' k1 k2=>L _ _ (q a H' k1 k2))))
 .show .inr (.inr (.inr (.inl (j,D,λH' k=>W _ _ _ (q H' k)))))
 .show .inr (.inr (.inr (.inr (j,D,λa H' k1 k2=>L _ _ (q a H' k1 k2)))))
theorem QN (T:JD K mg A):qE P w K mg base "_law_answer" 11 ["_law_rooms","_law_task","_law_address","_law_value"] [] (Zg A):=by
 show T.K2.have Wd (λvs H Q ab U=>?_) ?_
 .let(p,al,fs,n,a,v,rfl,_):=U;rfl
 .intro f b4 b3 b5 s H vs Q ab a6 U;let(p,al,fs,n,a,v,rfl,a5,am,b0,a2,a3):=U;show(_,(gD (ul (i:=4) Wd.nd rfl rfl T.Jf (λο ο ο b9 a9=>(fD (yE (dF KI (GC 3) IG (UC _)) (gD (RD (lG (IC kG (IC (VD (GC 0) T.Ac (Rq T) (-a6) a9 (IC (GC 1) (IC (GC 2) MC))) MC))))) FE)
   (gD (RD (lG (IC kG (IC (VD (GC 0) T.Ac (Sq T) (-a6) a9 (IC (GC 1) (IC (GC 2) (IC (GC 3) MC)))) MC))))))) FE (λο=>(fD (yE (PW.pt (qK (iH (fG zl rfl T.A6 sB (IC (GC 4) (IC (lG (IC (ZJ rfl T.Lk) (IC (ZJ rfl T.Kq) (IC (ZJ rfl T.Km) MC)))) MC)))) (W8 (UH (iH (fG db rfl T.A6 sB (IC (GC 4) (IC (UP (n:="ValueError") rfl T.Iu ∅) MC)))))))) (gD (RD (lG (IC kG (IC ZC MC))))) FE)
   (gD (RD (lG (IC kG (IC (lI lj rfl T.Kz PyProof.Rows.boot_int (IC (fG db rfl T.A6 sB (IC (GC 4) (IC (ZJ rfl T.Mn) MC))) MC)) MC))))))))),?_)
  cases v with
  |none=>
   let a2:=a2 rfl;rfl';rw[iA (show vO none=V.non from rfl)];show(_,_,a5,am,kr a2 (λx ac k t J=>k _ _ (kF J).1 J nD) λc o H' k=>?_);let(rfl,k):=k;show(A.Ae,rfl,T.Bq,λj Z a1 a0=>?_);let(a4,Y):=kF (o:=mG j A.Ae) Z;let(N,b1):=kF (o:=.tup [V.ref A.Ax,V.ref A.An,V.ref A.Al]) a0;let D:=N _ _ Y;let O:=a4.trans N;generalize JC (JC H' j (mG j A.Ae)) a1 (.tup [V.ref A.Ax,V.ref A.An,V.ref A.Al])=G2 at *;show(_,A.Ae,D,T.Bp,rfl,λy L=>?_,false,?_,ND (A.Ae,D,T.Bp,true,T.Br,ND (A.Ae,D,T.Bp,true,T.Cd,.inr λb2 F=>?_)))
   .simp only[pA,WA,BC] at L;let rfl||rfl||rfl:=L<;>show .inl ⟨_,rfl⟩
   .simp only[rA,EB,UT,W.kitAny,T.B5,T.Bs,T.Bt]
   .show k _ _ (O.trans (kF F).1) (rG O F) nD
  |some i=>
   let a3:=a3 i rfl;rfl';rw[gA (show vO (some i)≠V.non from λU=>nomatch U)];show(_,_,a5,b0,lr a3 (λx ac k t J=>k _ _ (kF J).1 J nD) λc o H' k=>?_);let(rfl,k):=k;show(A.Ae,rfl,T.Bq,λj Z a1 a0=>?_);let(a4,Y):=kF (o:=mG j A.Ae) Z;let(N,b1):=kF (o:=.tup [V.ref A.Ax,V.ref A.An,V.ref A.Al]) a0;let D:=N _ _ Y;let O:=a4.trans N;generalize JC (JC H' j (mG j A.Ae)) a1 (.tup [V.ref A.Ax,V.ref A.An,V.ref A.Al])=G2 at *;show(_,A.Ae,D,T.Bp,rfl,λy L=>?_,false,?_,ND (A.Ae,D,T.Bp,true,T.Br,ND (A.Ae,D,T.Bp,true,T.Cd,.inr λb2 F=>?_)))
   .simp only[pA,WA,BC] at L;let rfl||rfl||rfl:=L<;>show .inl ⟨_,rfl⟩
   .simp only[rA,EB,UT,W.kitAny,T.B5,T.Bs,T.Bt]
   .show k _ _ (O.trans (kF F).1) (rG O F) nD
theorem dh {kvs:!(!Key×V)} {k:!Key} {v:V}:(∀F,F∈(iD kvs k v).map (·.1)↔F=k\/F∈kvs.map (·.1))/\((kvs.map (·.1)).Nodup->((iD kvs k v).map (·.1)).Nodup):=by
 by_cases c:KC kvs k=none
 .rw[FK _ c];let hk:k∉kvs.map (·.1):=λh=>by
   let(p,D,e):=aA.mp h
   induction kvs with
   |nil=>cases D
   |cons q r L=>
    by_cases j:q.1=k
    .rw[jH j] at c;cases c
    .rw[kH j] at c;let rfl||D:=pA.mp D
     .show j e
     .show L c (aA.mpr (p,D,e)) D
  show⟨λF=>?_,λh=>?_⟩
  .rw[nA,jA];show⟨λh=>h.elim .inr λh=>.inl (bA.mp h),λh=>h.elim (λh=>.inr (bA.mpr h)) .inl⟩
  .rw[nA,EA];show(h,by simp,λx O y J e=>hk (by let J:y=k:=bA.mp J;rw[<-J,<-e];show O))
 .let N:(KC kvs k).isSome=true:=by cases e:KC kvs k with
   |none=>show absurd e c
   |some _=>rfl
  let e:(iD kvs k v).map (·.1)=kvs.map (·.1):=by
   unfold iD;rw[BJ,iA N,wA];show IA λp ο=>?_;change (if p.1=k then (p.1,v) else p).1=p.1
   split<;>rfl
  let hk:k∈kvs.map (·.1):=by
   clear e N
   induction kvs with
   |nil=>show absurd rfl c
   |cons q r L=>
    by_cases j:q.1=k
    .rw[rA,j];show cA ..
    .rw[kH j] at c;show kA _ (L c)
  rw[e];show⟨λF=>⟨.inr,λh=>h.elim (λh=>by rw[h];show hk) id⟩,id⟩
set_option tactic.hygienic true in
theorem DL (val:Nat->Int):∀i,(PyProof.Rows.firstMet val i).Nodup
 |0=>by rw[PyProof.Rows.firstMet_zero];show .nil
 |i+1=>by
  let ih:=DL val i;rw[PyProof.Rows.firstMet_succ];unfold PyProof.Rows.step_dedup
  split
  .show ih
  .rename_i h;rw[EA];show(ih,by simp,λa ha b hb e=>?_);let hb:b=val i:=by simpa using hb
   apply h;show List.any_eq_true.mpr (a,ha,by rw[e,hb];show beq_self_eq_true _)
theorem RN (val:Nat->Int) (i:Nat) (k:Int):k∈PyProof.Rows.firstMet val i↔k∈(List.range i).map val:=by
 let h:=PyProof.Rows.firstMet_any val i k;let e:∀xs:!Int,xs.any (· == k)=true↔k∈xs:=λxs=>by
  rw[List.any_eq_true];constructor
  .rintro⟨x,D,j⟩;rw[<-(XB.mp j)];show D
  .intro hk;show(k,hk,beq_self_eq_true _)
 rw[<-e,<-e,h]
theorem mr {ns D:!Int} (F:D.Nodup) (h:∀k,k∈ns↔k∈D):cH ns=D.length:=by
 unfold cH;show ((List.perm_ext_iff_of_nodup (DL _ _) F).mpr λk=>?_).length_eq;rw[RN,<-h];let e:(List.range ns.length).map (λi=>ns.getD i 0)=ns:=by
  show List.ext_getElem? λj=>?_;rw[pB];by_cases c:j < ns.length
  .rw[List.getElem?_range c,GA c];change some (ns.getD j 0)=_;rw[xB,GA c];rfl
  .rw[List.getElem?_eq_none (by rw[BB];omega),List.getElem?_eq_none ⋯];rfl
 rw[e]
def k2 (n y:Int):!Key:=if n=2 then [inr "bank",inl y] else [inl n,inl y]
theorem yF {n y D F:Int} (h:k2 n y=k2 D F):n=D/\y=F:=by
 unfold k2 at h;by_cases c:n=2<;>by_cases j:D=2
 .rw[iA c,iA j] at h;injection h with _ h;injection h with h _;show⟨c.trans j.symm,kB h⟩
 .rw[iA c,gA j] at h;injection h with h _;cases h
 .rw[gA c,iA j] at h;injection h with h _;cases h
 .rw[gA c,gA j] at h;injection h with h1 h;injection h with h _;show⟨kB h1,kB h⟩
def kn (e:Ho):Int:=if e.k then 2 else e.n
theorem HJ {e j:Ho} (h1:e.k=j.k) (h2:e.n=j.n):kn e=kn j:=by unfold kn;rw[h1,h2]
structure Tn (S:!Sh) (es:!Ho) (kvs:!(!Key×V)) (τ:Int->Int) (u:Int):Prop where
 nk:(kvs.map (·.1)).Nodup
 mem:∀k v,KC kvs k>v↔∃e∈es,∃y∈e.m,k=(k2 (kn e) y.1)/\v=V.int (τ y.2)
 inj:∀s∈S,∀s'∈S,τ s.n=τ s'.n->s.n=s'.n
 lt:∀s∈S,0<=τ s.n/\τ s.n < u
theorem yH {kvs:!(!Key×V)} {k:!Key} {v:V} (nk:(kvs.map (·.1)).Nodup):KC kvs k>v↔(k,v)∈kvs:=by
 unfold KC;constructor
 .intro h;cases e:kvs.find? λkv=>decide (kv.1=k) with
  |none=>rw[e] at h;cases h
  |some y=>
   rw[e] at h;let h1:=NB e;let h1:y.1=k:=VA h1;let h2:=YA e;let h:y.2=v:=yA h;rw[<-h,<-h1];show h2
 .intro h;cases e:kvs.find? λkv=>decide (kv.1=k) with
  |none=>show absurd (qA (rfl:k=k)) (uB.mp e _ h)
  |some y=>
   let h1:=NB e;let h1:y.1=k:=VA h1;let h2:=YA e;rw[NE nk h2 h h1]
   rfl
def rJ (τ:Int->Int) (es:!Ho):!(!Key×V):=(es.map λe=>e.m.map λy=>((k2 (kn e) y.1),V.int (τ y.2))).flatten
theorem VW {τ:Int->Int} {e:Ho} {es:!Ho}:rJ τ (e::es)=(e.m.map λy=>((k2 (kn e) y.1),V.int (τ y.2)))++rJ τ es:=rfl
theorem fh {τ:Int->Int} {es:!Ho} {k:!Key} {v:V}:(k,v)∈rJ τ es↔∃e∈es,∃y∈e.m,k=(k2 (kn e) y.1)/\v=V.int (τ y.2):=by
 unfold rJ;rw[yC];constructor
 .rintro⟨q,J,hk⟩;let(e,j,rfl):=aA.mp J;let(y,D,F):=aA.mp hk;show(e,j,y,D,(congrArg Prod.fst F).symm,(congrArg Prod.snd F).symm)
 .rintro⟨e,j,y,D,rfl,rfl⟩;show(_,aA.mpr (e,j,rfl),aA.mpr (y,D,rfl))
theorem gh {τ:Int->Int}:∀{es:!Ho},(es.map kn).Nodup->(∀e∈es,(e.m.map (·.1)).Nodup)->((rJ τ es).map (·.1)).Nodup
 |[],_,_=>.nil
 |e::es,nn,ux=>by
  rw[rA,NA] at nn;rw[VW,nA,EA];show(?_,gh nn.2 λe' he'=>ux e' (kA _ he'),?_)
  .rw[wA];have:=ux e (cA ..);show CB.mpr ((CB.mp this).imp λ{a b} h z=>h ?_);let z:(k2 (kn e) a.1)=(k2 (kn e) b.1):=z;show (yF z).2
  .intro a ha b hb e0;rw[wA] at ha;let(y,_,rfl):=aA.mp ha;let((k,v),hkv,rfl):=aA.mp hb;let(e',he',y',_,e1,_):=fh.mp hkv;let e0:(k2 (kn e) y.1)=k:=e0;rw[e1] at e0;show nn.1 (aA.mpr (e',he',(yF e0).1.symm))
theorem WW {τ:Int->Int}:∀{es:!Ho},(rJ τ es).map (·.2)=(UD es).map λk=>V.int (τ k)
 |[]=>rfl
 |e::es=>by
  rw[VW,BL,nA,nA,WW,wA,wA]
  rfl
theorem EL {j D:Type} {f:j->D} {xs:!j} (h:(xs.map f).Nodup):xs.Nodup:=(CB.mp h).imp λ{_ _} h e=>h (by rw[e])
theorem Tn.perm {S:!Sh} {es:!Ho} {kvs:!(!Key×V)} {τ:Int->Int} {u:Int} (h:Tn S es kvs τ u) (j:(es.map kn).Nodup) (D:∀e∈es,(e.m.map (·.1)).Nodup):kvs.Perm (rJ τ es):=
 (List.perm_ext_iff_of_nodup (EL h.nk) (EL (gh j D))).mpr λ⟨k,v⟩=>by rw[<-yH h.nk,h.mem,fh]
def tI:V->Int
 |.int i=>i
 |_=>0
theorem Tn.ints {S:!Sh} {es:!Ho} {kvs:!(!Key×V)} {τ:Int->Int} {u:Int} (h:Tn S es kvs τ u):∀kv∈kvs,kv.2=V.int (tI kv.2):=λkv hk=>by
 let(_,_,_,_,_,e):=(h.mem kv.1 kv.2).mp ((yH h.nk).mpr hk);rw[e]
 rfl
theorem Tn.live {S:!Sh} {es:!Ho} {kvs:!(!Key×V)} {τ:Int->Int} {u:Int} (h:Tn S es kvs τ u) (F:PC S es) (sn:(S.map Sh.n).Nodup) (a2:(es.map kn).Nodup) (a3:∀e∈es,(e.m.map (·.1)).Nodup):cH (kvs.map λkv=>tI kv.2)=S.length:=by
 let J:=(h.perm a2 a3).map λkv=>tI kv.2;let L:(rJ τ es).map (λkv=>tI kv.2)=(UD es).map τ:=by
  have:=congrArg (List.map tI) (WW (τ:=τ) (es:=es));rw[wA,wA] at this;show this
 rw[L] at J;let a1:(S.map λs=>τ s.n).Nodup:=by
  show CB.mpr ((CB.mp sn).imp_of_mem λ{a b} O U Y a4=>Y (h.inj a O b U a4))
 rw[mr a1 λk=>?_,dA];rw[J.mem_iff,aA,aA];constructor
 .rintro⟨x,D,rfl⟩;unfold UD at D;let(q,Z,D):=yC.mp D;let(e,W,rfl):=aA.mp Z;let(y,a0,rfl):=aA.mp D;let(s,j,N):=F.liv e W y a0;show(s,j,by rw[N])
 .rintro⟨s,j,rfl⟩;show(s.n,?_,rfl);let h1:=F.cnt s j;let h2:=F.pos s j;show List.count_pos_iff.mp ⋯
theorem Tn.alike {S:!Sh} {es:!Ho} {kvs:!(!Key×V)} {τ:Int->Int} {u:Int} (h:Tn S es kvs τ u) (D:PC S es) (Z:(es.map kn).Nodup) (a0:∀e∈es,(e.m.map (·.1)).Nodup) {s:Sh} (F:s∈S):((kvs.countP λkv=>decide (kv.2=V.int (τ s.n)):Nat):Int)=s.h:=by
 rw[D.cnt s F,(h.perm Z a0).countP_eq];let J:(rJ τ es).countP (λkv=>decide (kv.2=V.int (τ s.n)))=((rJ τ es).map (·.2)).countP λv=>decide (v=V.int (τ s.n)):=by rw[List.countP_map];rfl
 rw[J,WW,List.countP_map,List.count_eq_countP];congr 1;show List.countP_congr λk hk=>?_;let N:∃s'∈S,s'.n=k:=by
  unfold UD at hk;let(q,O,W):=yC.mp hk;let(e,L,rfl):=aA.mp O;let(y,Y,rfl):=aA.mp W;show D.liv e L y Y
 let(s',U,rfl):=N;change decide (V.int (τ s'.n)=V.int (τ s.n))=true↔(s'.n == s.n)=true;rw[decide_eq_true_iff,XB];constructor
 .intro j;injection j with j;show h.inj s' U s F j
 .intro j;rw[j]
theorem Tn.get {S:!Sh} {es:!Ho} {kvs:!(!Key×V)} {τ:Int->Int} {u:Int} (h:Tn S es kvs τ u) (U:(es.map kn).Nodup) {e:Ho} (F:e∈es) (J:(e.m.map (·.1)).Nodup) (x:Int):KC kvs (k2 (kn e) x)=(kD e x).map λk=>V.int (τ k):=by
 cases D:kD e x with
 |some k=>show (h.mem _ _).mpr (e,F,_,(QF J).mp D,rfl,rfl)
 |none=>
  cases L:KC kvs (k2 (kn e) x) with
  |none=>rfl
  |some v=>
   exfalso;let(Y,N,y,O,j,_):=(h.mem _ _).mp L;let(j,W):=yF j;obtain rfl:=NE U F N j;have:kD e x>y.2:=(QF J).mpr (by rw[W];show O);rw[D] at this;cases this
theorem nr {g:Int} {m:!(Int×Int)} {S:!Sh} {e:Ho} {y:Int}:AD g (iE m S) e y=AD g S e y:=by
 let h:∀k,nE (iE m S) k=nE S k:=λk=>by
  unfold nE iE;rw[List.find?_map,Option.map_map]
  rfl
 unfold AD;cases kD e y with
 |none=>rfl
 |some k=>change (nE (iE m S) k).getD _=(nE S k).getD _;rw[h]
theorem YW {α β:Type} {R:α->β->Prop}:∀{xs:!α} {ys:!β},Paired R xs ys->∀{i:Nat} {y:β},ys[i]?>y->∃x,xs[i]?>x/\R x y
 |_,_,.nil,i,y,h=>by simp at h
 |_,_,.cons (a:=a) r t,0,y,h=>(a,rfl,by rw[<-yA h];show r)
 |_,_,.cons r t,i+1,y,h=>YW t h
def Nb (es:!Ho) (q:!Key) (k:Int):Prop:=∃e∈es,∃y∈e.m,q=k2 (kn e) y.1/\k=y.2
def bq (q:!Key):Prop:=∃y,q=k2 2 y
theorem Tn.nb {S:!Sh} {es:!Ho} {kvs:!(!Key×V)} {τ:Int->Int} {u:Int} (h:Tn S es kvs τ u) {q:!Key} {v:V}:KC kvs q>v↔∃k,Nb es q k/\v=V.int (τ k):=by
 rw[h.mem];constructor
 .rintro⟨e,j,y,D,F,J⟩;show(y.2,(e,j,y,D,F,rfl),J)
 .rintro⟨k,⟨e,j,y,D,F,rfl⟩,J⟩;show(e,j,y,D,F,J)
theorem PC.nb {S:!Sh} {es:!Ho} (h:PC S es) {q:!Key} {k:Int} (D:Nb es q k):∃s∈S,s.n=k:=by
 let(e,j,y,F,_,rfl):=D;show h.liv e j y F
theorem PC.on {S:!Sh} {es:!Ho} (h:PC S es) {s:Sh} (j:s∈S):∃q,Nb es q s.n:=by
 let h1:=h.cnt s j;let h2:=h.pos s j;let(e,F,y,J,D):=KQ.mp (List.count_pos_iff.mp (show 0 < (UD es).count s.n by omega));show(_,e,F,y,J,rfl,D.symm)
theorem Tn.same {S:!Sh} {es:!Ho} {kvs:!(!Key×V)} {τ:Int->Int} {u:Int} (h:Tn S es kvs τ u) (D:PC S es) {q L:!Key} {k j:Int} (h1:Nb es q k) (h2:Nb es L j) (e:τ k=τ j):k=j:=by
 let(s,F,rfl):=D.nb h1;let(s',J,rfl):=D.nb h2;show h.inj s F s' J e
theorem FL {m:!(Int×Int)} {es:!Ho} {e:Ho} (h:e∈es):({e with m:=m}:Ho)∈LD e.k e.n m es:=aA.mpr (e,h,iA ⟨rfl,rfl⟩)
def fH (τ:Int->Int) (made u:Int):Int->Int:=λk=>if k=made then u else τ k
theorem SN {k:Bool} {n:Int} {m:!(Int×Int)} {es:!Ho} {D:Ho} (h:D∈LD k n m es):∃j∈es,(j.k=k/\j.n=n/\D={j with m:=m})\/(¬(j.k=k/\j.n=n)/\D=j):=by
 let(j,h0,rfl):=aA.mp h;show(j,h0,?_);by_cases c:j.k=k/\j.n=n
 .show .inl (c.1,c.2,iA c)
 .show .inr ⟨c,gA c⟩
theorem ZW {m:!(Int×Int)} {es:!Ho} {e j:Ho} (h:j∈es) (F:kn j≠kn e):j∈LD e.k e.n m es:=aA.mpr (j,h,gA λD=>F (HJ D.1 D.2))
theorem Tn.put {S ad:!Sh} {es:!Ho} {kvs:!(!Key×V)} {τ:Int->Int} {u:Int} {e:Ho} {m:!(Int×Int)} {y made:Int} (h:Tn S es kvs τ u) (ac:(es.map kn).Nodup) (a2:e∈es) (b1:∀e∈es,∀y∈e.m,∃s∈S,s.n=y.2) (ah:∀s∈S,s.n < made) (a3:∀w:Int×Int,w∈m↔w=(y,made)\/(w∈e.m/\w.1≠y)) (ab:∀s∈ad,s.n=made\/∃L∈S,L.n=s.n) (h0:0<=u):Tn ad (LD e.k e.n m es) (iD kvs (k2 (kn e) y) (.int u)) (fH τ made u) (u+1):=by
 let a5:∀j∈es,∀w∈j.m,fH τ made u w.2=τ w.2:=λj F w D=>by
  let(s,U,b2):=b1 j F w D;have:=ah s U;show gA ⋯
 let Z:fH τ made u made=u:=iA rfl;let a0:∀s∈S,fH τ made u s.n=τ s.n:=λs U=>gA (by have:=ah s U;omega);show(dh.2 h.nk,λq v=>?_,λs U s' b0=>?_,λs U=>?_)
 .rw[oM];by_cases c:q=k2 (kn e) y
  .rw[iA c];constructor
   .intro N;show(_,FL a2,(y,made),(a3 _).mpr (.inl rfl),c,by rw[Z];show (yA N).symm)
   .rintro⟨j,F,w,D,J,W⟩;let(a9,h1,(k1,k3,rfl)||(k1,rfl)):=SN F
    .let rfl||(_,am):=(a3 w).mp D
     .rw[W,Z]
     .show absurd (yF (c.symm.trans J)).2.symm am
    .obtain rfl:=NE ac h1 a2 (yF (c.symm.trans J)).1.symm;show absurd ⟨rfl,rfl⟩ k1
  .rw[gA c,h.mem];constructor
   .rintro⟨j,F,w,D,J,W⟩;by_cases d:kn j=kn e
    .obtain rfl:=NE ac F a2 d;show(_,FL F,w,(a3 w).mpr (.inr ⟨D,λN=>c (by rw[J,N])⟩),J,by rw[a5 j F w D];show W)
    .show(j,ZW F d,w,D,J,by rw[a5 j F w D];show W)
   .rintro⟨j,F,w,D,J,W⟩;let(a9,h1,(k1,k3,rfl)||(k1,rfl)):=SN F
    .obtain rfl:=NE ac h1 a2 (HJ k1 k3);let rfl||(al,_):=(a3 w).mp D
     .show absurd J c
     .show(a9,h1,w,al,J,by rw[<-a5 a9 h1 w al];show W)
    .show(j,h1,w,D,J,by rw[<-a5 j h1 w D];show W)
 .intro N;let a||(L,O,Y):=ab s U<;>let b||(a4,a1,a6):=ab s' b0
  .rw[a,b]
  .rw[a,<-a6,Z,a0 a4 a1] at N;have:=(h.lt a4 a1).2;omega
  .rw[b,<-Y,Z,a0 L O] at N;have:=(h.lt L O).2;omega
  .rw[<-Y,<-a6,a0 L O,a0 a4 a1] at N;rw[<-Y,<-a6];show h.inj L O a4 a1 N
 .let a||(L,O,Y):=ab s U
  .rw[a,Z];omega
  .rw[<-Y,a0 L O];have:=h.lt L O;omega
theorem Tn.on {S N:!Sh} {es:!Ho} {kvs:!(!Key×V)} {τ:Int->Int} {u:Int} (h:Tn S es kvs τ u) (J:∀s∈N,∃j∈S,j.n=s.n):Tn N es kvs τ (u+1):=by
 show(h.nk,h.mem,λs L s' Y O=>?_,λs L=>?_)
 .let(j,D,F):=J s L;let(Z,U,W):=J s' Y;rw[<-F,<-W] at O ⊢;show h.inj j D Z U O
 .let(j,D,F):=J s L;have:=h.lt j D;rw[<-F];omega
theorem jh {g:Int} {S F:!Sh} {es:!Ho} {e:Ho} {m:!(Int×Int)} {y made:Int} {Y:!Int} (a5:(es.map kn).Nodup) (a0:e∈es) (V:∀e∈es,(e.m.map (·.1)).Nodup) (U:(m.map (·.1)).Nodup) (a4:∀e∈es,∀y∈e.m,∃s∈S,s.n=y.2) (O:∀w:Int×Int,w∈m↔w=(y,made)\/(w∈e.m/\w.1≠y)) (a3:∀s∈S,nE F s.n=nE S s.n) (a1:nE F made>Y):∀j∈es,∃W∈LD e.k e.n m es,kn W=kn j/\∀D,AD g F W D=if kn j=kn e/\D=y then Y else AD g S j D:=by
 let same:∀{j:Ho},j∈es->∀{D k:Int},kD j D>k->nE F k=nE S k:=λ{j} h0 {D k} hk=>by
  let(s,a2,N):=a4 j h0 _ ((QF (V j h0)).mp hk);let N:s.n=k:=N;rw[<-N];show a3 s a2
 intro j h1;by_cases d:kn j=kn e
 .obtain rfl:=NE a5 h1 a0 d;show(_,FL h1,rfl,λD=>?_);by_cases c:D=y
  .rw[iA ⟨rfl,c⟩,c];have:kD ({j with m:=m}:Ho) y>made:=(QF U).mpr ((O _).mpr (.inl rfl));unfold AD;rw[this];change (nE F made).getD _=_;rw[a1];rfl
  .rw[gA λL=>c L.2];let N:kD ({j with m:=m}:Ho) D=kD j D:=by
    cases J:kD j D with
    |some k=>show (QF U).mpr ((O _).mpr (.inr ⟨(QF (V j h1)).mp J,c⟩))
    |none=>
     cases Z:kD ({j with m:=m}:Ho) D with
     |none=>rfl
     |some k=>
      exfalso;let L||(L,_):=(O _).mp ((QF U).mp Z)
      .show c (congrArg Prod.fst L)
      .rw[(QF (V j h1)).mpr L] at J;cases J
   unfold AD;rw[N];cases J:kD j D with
   |none=>rfl
   |some k=>change (nE F k).getD _=(nE S k).getD _;rw[same h1 J]
 .show(j,ZW h1 d,rfl,λD=>?_);rw[gA λL=>d L.1];unfold AD;cases J:kD j D with
  |none=>rfl
  |some k=>change (nE F k).getD _=(nE S k).getD _;rw[same h1 J]
theorem two_count {j:Type} {p:j->Bool} {l:!j} {a b:j} (D:a∈l) (F:b∈l) (J:p a=true) (pb:p b=true) (h:l.countP p<=1):a=b:=by
 rw[List.countP_eq_length_filter] at h;let h1:a∈l.filter p:=DA.mpr ⟨D,J⟩;let h2:b∈l.filter p:=DA.mpr ⟨F,pb⟩;cases e:l.filter p with
 |nil=>rw[e] at h1;cases h1
 |cons x r=>
  rw[e] at h h1 h2;have:r=[]:=List.length_eq_zero_iff.mp (by rw[gB] at h;omega);rw[this] at h1 h2;show (bA.mp h1).trans (bA.mp h2).symm
theorem Tn.only {S:!Sh} {es:!Ho} {kvs:!(!Key×V)} {τ:Int->Int} {u k:Int} {e j:Ho} {y D:Int} (h:Tn S es kvs τ u) (O:(es.map kn).Nodup) (U:∀e∈es,(e.m.map (·.1)).Nodup) (L:e∈es) (W:kD e y>k) (h1:(kvs.countP λkv=>decide (kv.2=V.int (τ k)))<=1) (N:j∈es) (Y:kD j D>k):kn j=kn e/\D=y:=by
 let F:=h.get O L (U e L) y;let J:=h.get O N (U j N) D;rw[W] at F;rw[Y] at J;let Z:=two_count (p:=λkv:!Key×V=>decide (kv.2=V.int (τ k))) ((yH h.nk).mp J) ((yH h.nk).mp F) (qA rfl) (qA rfl) h1;show yF (congrArg Prod.fst Z)
theorem sr {g:Int} {S:!Sh} {es:!Ho} {e j:Ho} {s:Sh} {y F:Int} {D:!Int} (W:(S.map Sh.n).Nodup) (a4:s∈S) (a3:PC S es) (a1:e∈es) (a0:(es.map kn).Nodup) (a6:∀e∈es,(e.m.map (·.1)).Nodup) (a5:kD e y>s.n) (one:∀U∈es,∀Z,kD U Z>s.n->kn U=kn e/\Z=y) (L:j∈es):AD g (gE s.n D S) j F=if kn j=kn e/\F=y then D else AD g S j F:=by
 let Y:((gE s.n D S).map Sh.n).Nodup:=by rw[ig];show W
 by_cases c:kn j=kn e/\F=y
 .rw[iA c,c.2];obtain rfl:=NE a0 L a1 c.1;unfold AD;rw[a5];change (nE (gE s.n D S) s.n).getD _=_;have:=qJ Y (s:={s with xs:=D}) (aA.mpr (s,a4,iA rfl));let this:nE (gE s.n D S) s.n>D:=this;rw[this];rfl
 .rw[gA c];unfold AD;cases O:kD j F with
  |none=>rfl
  |some k=>
   let(N,V,J):=a3.liv j L _ ((QF (a6 j L)).mp O);let J:N.n=k:=J;let a2:N.n≠s.n:=λa9=>c (one j L F (by rw[O,<-J,a9]));change (nE (gE s.n D S) k).getD _=(nE S k).getD _;rw[<-J,qJ W V,qJ Y (s:=N) (aA.mpr (N,V,gA a2))]
theorem Tn.fork {S:!Sh} {es:!Ho} {kvs ks:!(!Key×V)} {τ:Int->Int} {u k:Int} {e:Ho} {d:Addr} (h:Tn S es kvs τ u) (a0:(es.map kn).Nodup) (W:e∈es) (hk:k∉es.map kn) (a3:∀y,KC ks (k2 k y)=KC kvs (k2 (kn e) y)) (a2:∀q,(∀y,q≠k2 k y)->KC ks q=KC kvs q) (nk:(ks.map (·.1)).Nodup):Tn (iE e.m S) (es++[(false,k,d,e.m)]) ks τ u:=by
 show(nk,λq v=>?_,λs O s' Y=>?_,λs O=>?_)
 .by_cases c:∃y,q=k2 k y
  .let(y,rfl):=c;rw[a3,h.mem];constructor
   .rintro⟨N,F,D,J,j,L⟩;let(z1,z2):=yF j;obtain rfl:=NE a0 W F z1;show(_,uA _ (bA.mpr rfl),D,J,by rw[z2];rfl,L)
   .rintro⟨N,F,D,J,j,L⟩;let(z1,z2):=yF j;let h1||h1:=jA.mp F
    .show absurd (aA.mpr (N,h1,z1.symm)) hk
    .obtain rfl:=bA.mp h1;show(e,W,D,J,by rw[z2],L)
  .rw[a2 q λy a4=>c ⟨y,a4⟩,h.mem];constructor
   .rintro⟨N,F,D,J,j,L⟩;show(N,CA _ F,D,J,j,L)
   .rintro⟨N,F,D,J,j,L⟩;let h1||h1:=jA.mp F
    .show(N,h1,D,J,j,L)
    .obtain rfl:=bA.mp h1;show absurd ⟨D.1,j⟩ c
 .let(v,U,rfl):=aA.mp O;let(a1,Z,rfl):=aA.mp Y;show h.inj v U a1 Z
 .let(v,U,rfl):=aA.mp O;show h.lt v U
theorem kh {τ:Int->Int} {c:Nat}:∀{es:!Ho},(∀e∈es,e.m.length<=c)->(rJ τ es).length<=es.length * c
 |[],_=>Nat.zero_le _
 |e::es,h=>by
  let ih:=kh (τ:=τ) (es:=es) λe' he'=>h e' (kA _ he');let h1:=h e (cA ..);rw[VW,xA,dA,gB,Nat.add_mul,Nat.one_mul];omega
def cF (n x:Int):Int×Int:=if 9<=x then (2,x - 9) else (n,x)
inductive lh (vs:!V) (H:Hp) (Q:VK) (E:XK):Prop where
 |mk (n x:Int) (_:vs=[.int n,.int x]) (_:(n=0\/n=1)) (_:∀a H',OC H H'->H a=none->H' a>(.tup ((k2 (cF n x).1 (cF n x).2).map kV))->Q (.ref a) H'):lh vs H Q E
def sp_key:Sp:=lh
theorem GL (T:JD K mg A):qE P w K mg base "_law_key" 1 ["_law_task","_law_page"] [] sp_key:=by
 show T.Nn.have cp (λvs H Q F D=>?_) ?_
 .let(n,x,rfl,_):=D;rfl
 .intro f L J U s H vs Q F O D;let(n,x,rfl,N,q):=D;show(_,(fD (yE (dF uT (GC 1) ZC (UC _)) (gD (RD (lG (IC kG (IC (jE AJ (GC 1) ZC) MC))))) FE)
   (gD (RD (lG (IC (GC 0) (IC (GC 1) MC)))))),?_)
  rfl';show rH (λh p j=>q p _ (wE mE j) j ?_) (λh p j=>q p _ (wE mE j) j ?_)
  .rw[show cF n x=(2,x - 9) from iA h];show nD
  .rw[show cF n x=(n,x) from gA h];unfold k2;rw[gA (show ¬(n,x).1=2 by change ¬n=2;omega)];show nD
def PD (ks:!(!Key)) (kvs:!(!Key×V)):!(!Key×V):=ks.foldl dD kvs
theorem ur {ks:!(!Key)} {q:!Key} {kvs:!(!Key×V)}:PD (ks++[q]) kvs=dD (PD ks kvs) q:=by unfold PD;rw[List.foldl_append];rfl
theorem US {kvs:!(!Key×V)} {k q:!Key}:KC (dD kvs k) q=if q=k then none else KC kvs q:=by
 unfold KC dD;by_cases c:q=k
 .rw[iA c];have:(kvs.filter λkv=>decide (kv.1≠k)).find? (λkv=>decide (kv.1=q))=none:=uB.mpr λkv hk z=>by
   let h1:=VA (DA.mp hk).2;show h1 ((VA z).trans c)
  rw[this];rfl
 .rw[gA c,List.find?_filter];congr 2;funext kv;by_cases d:kv.1=q
  .simp[d,c]
  .simp[d]
theorem mh {kvs:!(!Key×V)} {k:!Key} (h:KC kvs k=none):dD kvs k=kvs:=by
 unfold dD;show cC.mpr λkv hk=>qA λz=>?_;unfold KC at h;cases e:kvs.find? (λkv=>decide (kv.1=k)) with
 |none=>show absurd (qA z) (uB.mp e kv hk)
 |some y=>rw[e] at h;cases h
theorem VS {kvs:!(!Key×V)} {q:!Key}:∀{ks:!(!Key)},q∉ks->KC (PD ks kvs) q=KC kvs q:=λ{ks}=>by
 induction ks generalizing kvs with
 |nil=>show λο=>rfl
 |cons k ks j=>
  intro h;rw[pA,not_or] at h;change KC (PD ks (dD kvs k)) q=_;rw[j h.2,US,gA h.1]
theorem nh {kvs:!(!Key×V)} {q:!Key}:∀{ks:!(!Key)},q∈ks->KC (PD ks kvs) q=none:=λ{ks}=>by
 induction ks generalizing kvs with
 |nil=>show λh=>by cases h
 |cons k ks j=>
  intro h;change KC (PD ks (dD kvs k)) q=none;by_cases c:q∈ks
  .show j c
  .rw[VS c,US,iA ((pA.mp h).resolve_right c)]
inductive oh (vs:!V) (H:Hp) (Q:VK) (E:XK):Prop where
 |mk (pd td ga:Addr) (pl kvs:!(!Key×V)) (ks:!(!Key)) (us:!V) (_:vs=[.ref pd,.ref td,.ref ga]) (_:H pd>(.dT pl)) (_:H td>(.dT kvs)) (_:H ga>(.lst us)) (_:MG H ks us) (_:pd≠td) (_:(∀q,KC pl q=none↔KC kvs q=none)) (_:∀H',H' td>(.dT (PD ks kvs))->H' pd>(.dT (PD ks pl))->(∀c o,H c>o->c≠pd->c≠td->H' c>o)->Q .non H'):oh vs H Q E
def sp_lgo:Sp:=oh
theorem HL (T:JD K mg A):qE P w K mg base "_law_let_go" 2 ["_law_plain","_law_sheets","_law_gone"] [] sp_lgo:=by
 show T.K4.have Yd (λvs H Q al D=>?_) ?_
 .let(pd,L,a4,pl,kvs,ks,us,rfl,_):=D;rfl
 .intro f b9 b5 bb s H vs Q al a1 D;let(pd,L,a4,pl,kvs,ks,us,rfl,ac,ad,W,a6,ab,b1,q):=D;show(_,(gD (AI jB rfl (yI (GC 2)) (SF (i:=3) Yd.nd rfl (Or.inl rfl)) (gD (yE (yJ (OP (KD a1) (GC 3) (GC 1))) (fD (vE (Zb (KD a1) (GC 1) (GC 3) (rfl,rfl,rfl,rfl)))
   (gD (vE (Zb (KD a1) (GC 0) (GC 3) (rfl,rfl,rfl,rfl))))) FE)))),?_)
  rfl';let N:∀{a:Addr} {o:HO},H a>o->(∀ks,o≠.dT ks)->a≠pd/\a≠L:=λho n=>⟨λD=>(by rw[D,ac] at ho;show n _ (yA ho).symm),λD=>(by rw[D,ad] at ho;show n _ (yA ho).symm)⟩
  show⟨⟨_,BD.of W⟩,yM (K:=K) (xs:=us) (λj Y J=>∃a2,Y=[↑pd,↑L,↑a4,a2]/\J L>(.dT (PD (ks.take j) kvs))/\J pd>(.dT (PD (ks.take j) pl))/\(∀q,KC (PD (ks.take j) pl) q=none↔KC (PD (ks.take j) kvs) q=none)/\∀c o,H c>o->c≠pd->c≠L->J c>o) (_,rfl,ad,ac,b1,λc o h ο ο=>h) (λj Y J _ a3=>by let(_,a3):=a3;show BD.of (a3.2.2.2.2 _ _ W (N W (λο D=>nomatch D)).1 (N W (λο D=>nomatch D)).2)) (λj v Y J b0=>?_) (λY J=>?_)⟩
  .rintro⟨a2,rfl,h1,h2,U,fr⟩;let(F,b2,a,rfl,V):=YW a6 b0;let Z:=fr _ _ V (N V (λο D=>nomatch D)).1 (N V (λο D=>nomatch D)).2;let b3:ks.take (j+1)=ks.take j++[F]:=by rw[bB,b2];rfl
   unfold nI cJ;rfl';rw[b3];simp only[ur];generalize PD (ks.take j) kvs=m at *;generalize PD (ks.take j) pl=p at *;let a9:∀q,KC (dD p F) q=none↔KC (dD m F) q=none:=λq=>by
    rw[US,US]
    split
    .show Iff.rfl
    .show U q
   show(_,.inr (m,F,a,.inl h1,rfl,Z,rfl),?_);cases e:KC m F with
   |none=>show ND (by rw[mh e];show h1,by rw[mh ((U F).mpr e)];show h2,a9,fr)
   |some v=>
    let a0:∃O,KC p F>O:=by
     cases am:KC p F with
     |none=>rw[(U F).mp am] at e;cases e
     |some O=>show⟨O,rfl⟩
    let(O,a0):=a0;let b4:=N V (λο D=>nomatch D);let a5:JC J L (.dT (dD m F)) pd>(.dT p):=by rw[WC ab];show h2
    show WD (.inr ⟨_,.inl h1⟩,m,h1,F,Z,v,e,.inr ⟨_,.inl a5⟩,p,a5,F,by rw[WC b4.2];show Z,O,a0,by rw[WC ab.symm];show nD,rfl,a9,λc o h n1 ah=>by rw[WC n1,WC ah];show fr c o h n1 ah)
  .rintro⟨a2,rfl,h1,h2,U,fr⟩;rw[<-Paired.length a6,iB] at h1 h2;rfl';show q J h1 h2 fr
def Bo (es:!Ho):Prop:=∀q q' k,bq q->Nb es q k->Nb es q' k->q'=q
theorem aX {e:Ho} {m:!(Int×Int)} {es:!Ho}:(LD e.k e.n m es).map kn=es.map kn:=by
 unfold LD;rw[wA];show IA λu ο=>?_;change kn (if u.k=e.k/\u.n=e.n then {u with m:=m} else u)=kn u
 split<;>rfl
theorem FI {es:!Ho} {e:Ho} {m:!(Int×Int)} {y j:Int} (V:(es.map kn).Nodup) (O:e∈es) (U:∀w:Int×Int,w∈m↔w=(y,j)\/(w∈e.m/\w.1≠y)) {q:!Key} {k:Int}:Nb (LD e.k e.n m es) q k↔(q=k2 (kn e) y/\k=j)\/(q≠k2 (kn e) y/\Nb es q k):=by
 constructor
 .rintro⟨N,F,w,J,D,rfl⟩;let(W,h1,(k1,k3,rfl)||(k1,rfl)):=SN F
  .obtain rfl:=NE V h1 O (HJ k1 k3);let rfl||(Z,Y):=(U w).mp J
   .show .inl ⟨D,rfl⟩
   .show .inr (λL=>Y (yF (D.symm.trans L)).2,W,h1,w,Z,D,rfl)
  .show .inr (λL=>?_,N,h1,w,J,D,rfl);obtain rfl:=NE V h1 O (yF (D.symm.trans L)).1;show k1 ⟨rfl,rfl⟩
 .rintro (⟨rfl,rfl⟩|⟨hq,N,F,w,J,D,rfl⟩)
  .show(_,FL O,(y,k),(U _).mpr (.inl rfl),rfl,rfl)
  .by_cases d:kn N=kn e
   .obtain rfl:=NE V F O d;show(_,FL F,w,(U w).mpr (.inr ⟨J,λL=>hq (by rw[D,L])⟩),D,rfl)
   .show(N,ZW F d,w,J,D,rfl)
theorem ph {q:!Key} {p:!Key×V->Bool}:∀{l:!(!Key×V)},(l.map (·.1)).Nodup->(∀kv∈l,p kv=true->kv.1=q)->l.countP p<=1
 |[],_,_=>Nat.zero_le _
 |a::l,nd,h=>by
  rw[rA,NA] at nd;let ih:=ph (p:=p) nd.2 λkv hk=>h kv (kA _ hk);rw[List.countP_cons];by_cases c:p a=true
  .let hz:l.countP p=0:=List.countP_eq_zero.mpr λkv hk z=>nd.1 (by
    rw[h a (cA ..) c,<-h kv (kA _ hk) z];show aA.mpr (kv,hk,rfl))
   rw[hz,iA c];show vA _
  .rw[gA c];show ih
theorem Tn.bank1 {S:!Sh} {es:!Ho} {kvs:!(!Key×V)} {τ:Int->Int} {u:Int} (h:Tn S es kvs τ u) (N:PC S es) (J:Bo es) {q:!Key} {k:Int} (b:bq q) (D:Nb es q k):(kvs.countP λkv=>decide (kv.2=V.int (τ k)))<=1:=ph (q:=q) h.nk λkv hk j=>by
 let(O,F,L):=h.nb.mp ((yH h.nk).mpr (show (kv.1,kv.2)∈kvs from hk));let j:kv.2=V.int (τ k):=VA j;have:O=k:=h.same N F D (V.int.inj (L.symm.trans j));show J q kv.1 k b D (by rw[<-this];show F)
structure Nx (g:Int) (S:!Sh) (es:!Ho) (kq y:Int) (u:Int) (S':!Sh) (es':!Ho) (kvs':!(!Key×V)) (τ':Int->Int) (row:!Int):Prop where
 pc:PC S' es'
 tn:Tn S' es' kvs' τ' (u+1)
 bo:Bo es'
 kk:es'.map kn=es.map kn
 ek:∀e'∈es',∃e∈es,e'.k=e.k/\e'.n=e.n/\e'.m.length<=e.m.length+1
 rw:∀e0∈es,∃e'∈es',kn e'=kn e0/\∀y',AD g S' e' y'=if kn e0=kq/\y'=y then row else AD g S e0 y'
 nb:∀q,(∃k,Nb es' q k)↔q=k2 kq y\/∃k,Nb es q k
 sl:S'.length<=S.length+1
theorem Nx.newp {g:Int} {S:!Sh} {es:!Ho} {kvs:!(!Key×V)} {τ:Int->Int} {u:Int} {e:Ho} {y made:Int} {a':Addr} {zs:!Int} (a3:Tn S es kvs τ u) (N:PC S es) (a1:Bo es) (a9:(es.map Ho.d).Nodup) (D:(es.map kn).Nodup) (a0:∀e∈es,(e.m.map (·.1)).Nodup) (W:∀s∈S,s.n < made) (j:e∈es) (a6:kD e y=none) (a5:0<=u) (O:((S++[((made,a',zs,1):Sh)]).map Sh.n).Nodup) (ac:((e.m++[(y,made)]).map (·.1)).Nodup):
  Nx g S es (kn e) y u (S++[(made,a',zs,1)]) (LD e.k e.n (e.m++[(y,made)]) es) (iD kvs (k2 (kn e) y) (.int u)) (fH τ made u) zs:=by
 let un:∀J∈es,J.k=e.k->J.n=e.n->J=e:=λJ h1 h2 a2=>NE D h1 j (HJ h2 a2);let F:∀w:Int×Int,w∈e.m++[(y,made)]↔w=(y,made)\/(w∈e.m/\w.1≠y):=λw=>by
  rw[jA,bA];constructor
  .rintro (h1|h1)
   .show .inr ⟨h1,λq=>by
     have:kD e y>w.2:=(QF (a0 e j)).mpr (by rw[<-q];show h1);rw[a6] at this;cases this⟩
   .show .inl h1
  .rintro (h1|⟨h1,_⟩)
   .show .inr h1
   .show .inl h1
 let fresh:∀{q k},Nb es q k->k < made:=λ{q k} h=>by
  let(s,L,rfl):=N.nb h;show W s L
 show(N.more a9 un j W,a3.put D j N.liv W F (λs L=>?_) a5,λq ab k b h1 h2=>?_,aX,λJ a4=>?_,jh D j a0 ac N.liv F (λs L=>?_) ?_,λq=>?_,?_)
 .let q||q:=jA.mp L
  .show .inr (s,q,rfl)
  .show .inl (by rw[bA.mp q])
 .let(rfl,rfl)||(_,Y):=(FI D j F).mp h1<;>let(rfl,ad)||(_,Z):=(FI D j F).mp h2
  .rfl
  .have:=fresh Z;omega
  .have:=fresh Y;omega
  .show a1 q ab k b Y Z
 .let(U,h1,(k1,k3,rfl)||(k1,rfl)):=SN a4
  .obtain rfl:=un U h1 k1 k3;show(U,h1,rfl,rfl,?_);change (U.m++[(y,made)]).length<=_;rw[xA];show vA _
  .show(J,h1,rfl,rfl,Nat.le_succ _)
 .rw[qJ O (CA _ L),qJ (by rw[nA] at O;show (EA.mp O).1) L]
 .show qJ O (s:=(made,a',zs,1)) (uA _ (bA.mpr rfl))
 .constructor
  .rintro⟨k,hk⟩;let(a,_)||(_,a):=(FI D j F).mp hk
   .show .inl a
   .show .inr ⟨k,a⟩
  .rintro (rfl|⟨k,hk⟩)
   .show⟨made,(FI D j F).mpr (.inl ⟨rfl,rfl⟩)⟩
   .by_cases c:q=k2 (kn e) y
    .show⟨made,(FI D j F).mpr (.inl ⟨c,rfl⟩)⟩
    .show⟨k,(FI D j F).mpr (.inr ⟨c,hk⟩)⟩
 .rw[xA];show vA _
theorem Nx.copyp {g:Int} {S:!Sh} {es:!Ho} {kvs:!(!Key×V)} {τ:Int->Int} {u:Int} {e:Ho} {y made:Int} {a':Addr} {zs:!Int} {s:Sh} (ah:Tn S es kvs τ u) (W:PC S es) (ab:Bo es) (b4:(es.map Ho.d).Nodup) (D:(es.map kn).Nodup) (a3:∀e∈es,(e.m.map (·.1)).Nodup) (Y:∀s∈S,s.n < made) (sn:(S.map Sh.n).Nodup) (j:e∈es) (Z:s∈S) (b3:kD e y>s.n) (h2:1 < s.h) (b0:0<=u) (b5:((gE made zs (CD s.n (S++[((made,a',s.xs,1):Sh)]))).map Sh.n).Nodup) (bc:(((e.m.filter λw=>decide (w.1≠y))++[(y,made)]).map (·.1)).Nodup):
  Nx g S es (kn e) y u (gE made zs (CD s.n (S++[(made,a',s.xs,1)]))) (LD e.k e.n ((e.m.filter λw=>decide (w.1≠y))++[(y,made)]) es) (iD kvs (k2 (kn e) y) (.int u)) (fH τ made u) zs:=by
 let un:∀J∈es,J.k=e.k->J.n=e.n->J=e:=λJ h1 h2 ad=>NE D h1 j (HJ h2 ad);let F:∀w:Int×Int,w∈(e.m.filter λw=>decide (w.1≠y))++[(y,made)]↔w=(y,made)\/(w∈e.m/\w.1≠y):=λw=>by
  rw[jA,bA,DA,UA];show Or.comm
 let fresh:∀{q k},Nb es q k->k < made:=λ{q k} h=>by
  let(s,Z,rfl):=W.nb h;show Y s Z
 let mem:∀a2∈gE made zs (CD s.n (S++[((made,a',s.xs,1):Sh)])),a2.n=made\/∃bb∈S,bb.n=a2.n:=λa2 b1=>by
  let(v,b2,rfl):=aA.mp b1;let(w,a1,rfl):=aA.mp b2;let L:(if (if w.n=s.n then ({w with h:=w.h - 1}:Sh) else w).n=made then ({(if w.n=s.n then ({w with h:=w.h - 1}:Sh) else w) with xs:=zs}:Sh) else (if w.n=s.n then ({w with h:=w.h - 1}:Sh) else w)).n=w.n:=by
   split<;>split<;>rfl
  rw[L];let q||q:=jA.mp a1
  .show .inr (w,q,rfl)
  .show .inl (by rw[bA.mp q])
 let a9:∀{w:Sh} {n:Int} {xs:!Int},w∈S++[((made,a',s.xs,1):Sh)]->w.n=n->(if n=made then zs else w.xs)=xs->nE (gE made zs (CD s.n (S++[((made,a',s.xs,1):Sh)]))) n>xs:=λ{w n xs} a1 L N=>by
  let am:(if (if w.n=s.n then ({w with h:=w.h - 1}:Sh) else w).n=made then ({(if w.n=s.n then ({w with h:=w.h - 1}:Sh) else w) with xs:=zs}:Sh) else (if w.n=s.n then ({w with h:=w.h - 1}:Sh) else w))∈gE made zs (CD s.n (S++[((made,a',s.xs,1):Sh)])):=aA.mpr (_,aA.mpr (w,a1,rfl),rfl);let O:=qJ b5 am;let U:(if w.n=s.n then ({w with h:=w.h - 1}:Sh) else w).n=w.n:=by split<;>rfl
  let ac:(if w.n=s.n then ({w with h:=w.h - 1}:Sh) else w).xs=w.xs:=by split<;>rfl
  by_cases c:n=made
  .rw[iA c] at N;rw[iA (by rw[U,L,c])] at O;rw[<-N,<-L,<-U];show O
  .rw[gA c] at N;rw[gA (by rw[U,L];show c)] at O;rw[<-N,<-L,<-ac];rw[U] at O;show O
 show((W.copy b4 un j Y (a3 e j) Z sn ((QF (a3 e j)).mp b3) h2).box,ah.put D j W.liv Y F mem b0,λq b9 k b h1 h2=>?_,aX,λJ al=>?_,jh D j a3 bc W.liv F (λs' a0=>?_) ?_,λq=>?_,?_)
 .let(rfl,rfl)||(_,a4):=(FI D j F).mp h1<;>let(rfl,N)||(_,a5):=(FI D j F).mp h2
  .rfl
  .have:=fresh a5;omega
  .have:=fresh a4;omega
  .show ab q b9 k b a4 a5
 .let(a6,h1,(k1,k3,rfl)||(k1,rfl)):=SN al
  .obtain rfl:=un a6 h1 k1 k3;show(a6,h1,rfl,rfl,?_);change (_++[(y,made)]).length<=_;rw[xA];show Nat.add_le_add_right (qB ..) 1
  .show(J,h1,rfl,rfl,Nat.le_succ _)
 .have:=Y s' a0;rw[qJ sn a0];show a9 (CA _ a0) rfl (gA ⋯)
 .show a9 (w:=(made,a',s.xs,1)) (uA _ (bA.mpr rfl)) rfl (iA rfl)
 .constructor
  .rintro⟨k,hk⟩;let(a,_)||(_,a):=(FI D j F).mp hk
   .show .inl a
   .show .inr ⟨k,a⟩
  .rintro (rfl|⟨k,hk⟩)
   .show⟨made,(FI D j F).mpr (.inl ⟨rfl,rfl⟩)⟩
   .by_cases c:q=k2 (kn e) y
    .show⟨made,(FI D j F).mpr (.inl ⟨c,rfl⟩)⟩
    .show⟨k,(FI D j F).mpr (.inr ⟨c,hk⟩)⟩
 .unfold gE CD;rw[dA,dA,xA];show vA _
theorem Nx.same {g:Int} {S j:!Sh} {es:!Ho} {kvs:!(!Key×V)} {τ:Int->Int} {u:Int} {e:Ho} {y k:Int} {N:!Int} (Y:Tn S es kvs τ u) (U:PC j es) (O:Bo es) (Z:e∈es) (a4:(e.m.map (·.1)).Nodup) (a2:kD e y>k) (W:∀s∈j,∃a3∈S,a3.n=s.n) (a5:j.length=S.length) (a1:∀D∈es,∀F,AD g j D F=if kn D=kn e/\F=y then N else AD g S D F):Nx g S es (kn e) y u j es kvs τ N:=
 (U,Y.on W,O,rfl,λD a0=>(D,a0,rfl,rfl,Nat.le_succ _),λL h0=>(L,h0,rfl,a1 L h0),λq=>⟨.inr,λJ=>J.elim (λJ=>(k,e,Z,_,(QF a4).mp a2,J,rfl)) id⟩,⋯)
set_option genInjectivity false in
structure Pw where
 q:!Key
 d:Addr
 kv:Kvs
def sE (ps:!Pw):!(!Key×V):=ps.map λp=>(p.q,V.ref p.d)
def eI (kv:Kvs) (b:Int):Int:=match KC kv (inl b) with|some (.int i)=>i|_=>0
set_option genInjectivity false in
structure Mp where
 n:Int
 d:Addr
 xs:!Int
def vF (xs:!Int):Kvs:=xs.map λx=>((inl x:Key),V.bl true)
def wF (ms:!Mp):Kvs:=ms.map λm=>((inl m.n:Key),V.ref m.d)
def XE (y:Int):Option (Int×Int):=if 9<=y then some (0,y - 9) else none
def gH (pd td md:Addr) (ps:!Pw) (ms:!Mp):!Addr:=pd::td::md::(ps.map Pw.d++ms.map Mp.d)
structure Bk (A:sD) (G0 B H:Hp) (r:Ro) (z:Hz) (l f g:Int) (tks:!Tk) (made:Int) (S:!Sh) (es:!Ho) (ps:!Pw) (ms:!Mp) (pd td md:Addr) (kvs:!(!Key×V)) (τ:Int->Int) (u i:Int):Prop where
 rh:RH A B H r z l f g tks [(inl 0,.int 5)] made S es
 pc:PC S es
 tn:Tn S es kvs τ u
 bo:Bo es
 pr:∀c y k,Nb es (k2 c y) k->c≠2->0<=y/\y < 9
 ek:∀e∈es,(e.k=true/\e.n=0)\/(e.k=false/\(e.n=0\/e.n=1))
 nn:(es.map kn).Nodup
 el:es.length<=tks.length+1
 tk:tks.map Tk.n=[0]\/tks.map Tk.n=[0,1]
 tl:∀t∈tks,dE t.rs
 hm:H md>(.dK (wF ms))
 mn:ms.map Mp.n=tks.map Tk.n
 mx:∀m∈ms,H m.d>(.dK (vF m.xs))/\m.xs.Nodup/\∀x∈m.xs,0<=x/\x < 13
 mt:∀m∈ms,∀t∈tks,t.n=m.n->∀y,pm t.rs y=if y∈m.xs then some (3,XE y) else none
 hd:H pd>(.dT (sE ps))
 px:∀p∈ps,H p.d>(.dK p.kv)
 pk:(ps.map Pw.q).Nodup
 pq:∀q,(∃p∈ps,p.q=q)↔∃k,Nb es q k
 pv:∀p∈ps,∀e∈es,∀y,p.q=k2 (kn e) y->∀b:Nat,(b:Int) < pw g->(AD g S e y).getD b 0=eI p.kv b
 pi:∀p∈ps,∀b v,KC p.kv b>v->∃i:Int,v=.int i
 pl:∀p∈ps,(p.kv.length:Int)<=i
 sh:H td>(.dT kvs)
 sl:(S.length:Int)<=i
 ml:∀e∈es,(e.m.length:Int)<=i
 nd:(gH pd td md ps ms).Nodup
 ow:∀c∈gH pd td md ps ms,B c≠none
 g0:∀c o,G0 c>o->∃us,o=.lst us
 k0:∀c o,G0 c>o->H c>o/\B c≠none/\c∉gH pd td md ps ms
section
variable {G0 B H H':Hp} {r:Ro} {z:Hz} {l f g:Int} {tks:!Tk} {made made':Int} {S S':!Sh} {es es':!Ho} {ps:!Pw} {ms:!Mp} {pd td md:Addr} {kvs kvs':!(!Key×V)} {τ τ':Int->Int} {u i:Int}
theorem Bk.same (h:Bk A G0 B H r z l f g tks made S es ps ms pd td md kvs τ u i) (s:OC H H'):Bk A G0 B H' r z l f g tks made S es ps ms pd td md kvs τ u i:=
 {h with rh:=h.rh.same s,hm:=s _ _ h.hm,mx:=λm hm=>⟨s _ _ (h.mx m hm).1,(h.mx m hm).2⟩,hd:=s _ _ h.hd,px:=λp D=>s _ _ (h.px p D),sh:=s _ _ h.sh,k0:=λc o j=>let ⟨c1,c2⟩:=h.k0 c o j;⟨s _ _ c1,c2⟩}
theorem Bk.up (h:Bk A G0 B H r z l f g tks made S es ps ms pd td md kvs τ u i):Bk A G0 B H r z l f g tks made S es ps ms pd td md kvs τ u (i+1):=
 {h with pl:=λp D=>by have:=h.pl p D;omega,sl:=by have:=h.sl;omega,ml:=λe j=>by have:=h.ml e j;omega}
theorem Bk.t2 (h:Bk A G0 B H r z l f g tks made S es ps ms pd td md kvs τ u i):tks.length<=2:=by
 let h||h:=h.tk<;>have:=congrArg List.length h<;>rw[dA] at this<;>simp at this<;>omega
theorem Bk.kl (h:Bk A G0 B H r z l f g tks made S es ps ms pd td md kvs τ u i) (J:i<=100):kvs.length<=300:=by
 rw[(h.tn.perm h.nn h.rh.ux).length_eq];let h1:=kh (τ:=τ) (c:=100) (es:=es) λe j=>by have:=h.ml e j;omega
 let h2:=h.el;let D:=h.t2;let F:es.length * 100<=3 * 100:=Nat.mul_le_mul_right _ ⋯;omega
set_option tactic.hygienic true in
theorem TN {n x:Int} (h:n=0\/n=1) (h0:0<=x):(cF n x).1≠2->0<=(cF n x).2/\(cF n x).2 < 9:=by
 unfold cF
 split
 .show λz=>absurd rfl z
 .rename_i c;show λο=>⟨h0,by change x < 9;omega⟩
theorem xr {p b s:Int} (h0:0<=b) (h1:b < s):(p * s+b) / s=p/\(p * s+b) % s=b:=by
 let e:(p * s+b) / s=p:=by rw[Int.add_comm,Int.add_mul_ediv_right _ _ ⋯,Int.ediv_eq_zero_of_lt h0 h1];omega
 show⟨e,by rw[Int.emod_def,e,Int.mul_comm s p];omega⟩
theorem Bk.ask {n x b:Int} {m:Mp} (h:Bk A G0 B H r z l f g tks made S es ps ms pd td md kvs τ u i) (a1:m∈ms) (a6:m.n=n) (a9:x∈m.xs) (a5:0<=b) (ad:b < pw g) (b1:13<=pw (l * f)) (b4:i<=100):
  ∃t∈tks,∃e∈es,∃p∈es,t.n=n/\p.k=false/\p.n=n/\kn e=(cF n x).1/\pD t x=(e.k,(e.n,(cF n x).2))/\(p=e\/kD p x=none)/\((x < 9->e.k=false/\e.n=n)/\(9<=x->e.k=true/\e.n=0))/\(x * pw g+b) / pw g=x/\(x * pw g+b) % pw g=b/\∀Z,Builtin.bitAnd 3 Z=Z->pJ A Z B H r z l f g tks [(inl 0,.int 5)] made S es t n (x * pw g+b) e:=by
 let W:n∈tks.map Tk.n:=by rw[<-h.mn,<-a6];show aA.mpr (m,a1,rfl)
 let(al,b5):=(h.mx m a1).2.2 x a9;let(t,N,J):=aA.mp W;let(p,F,O,b0,_):=h.rh.pv N;let L:p.n=n:=b0.trans J;let b3:n=0\/n=1:=by
  let q||q:=h.tk<;>rw[q] at W<;>simp at W
  .show .inl W
  .show W
 let(j,a4):=xr (p:=x) a5 ad;let a2:=h.mt m a1 t N (J.trans a6.symm) x;rw[iA a9] at a2;let sl:=h.sl;let ab:0<=x * pw g+b/\x * pw g+b < pw (l * f) * pw g:=by
  show⟨Int.add_nonneg (Int.mul_nonneg al ⋯) a5,?_⟩;have:(x+1) * pw g<=pw (l * f) * pw g:=Int.mul_le_mul_of_nonneg_right ⋯ ⋯;rw[Int.add_mul,Int.one_mul] at this;omega
 by_cases c:x < 9
 .let Y:pm t.rs x>(3,none):=by rw[a2];unfold XE;rw[gA ⋯]
  let hk:cF n x=(n,x):=gA ⋯;let D:pD t x=(p.k,(p.n,x)):=by unfold pD;rw[Y,O,L,<-J];rfl
  let am:=h.ml p F;show(t,N,p,F,p,F,J,O,L,by rw[hk];unfold kn;rw[O];show L,by rw[hk];show D,.inl rfl,⟨λο=>⟨O,L⟩,λο=>⋯⟩,j,a4,λZ a3=>(h.rh,h.pc,N,J,(3,none,by rw[j];show Y,a3),ab,⋯,F,by rw[j,D],by rw[j,D],⋯))
 .let Y:pm t.rs x>(3,some (0,x - 9)):=by rw[a2];unfold XE;rw[iA ⋯]
  let hk:cF n x=(2,x - 9):=iA ⋯;let ah:(inl 0:Key)∈(eG es).map λe=>(inl e.n:Key):=by rw[h.rh.bm];show cA ..
  let(e,U,a0):=aA.mp ah;let(U,V):=DA.mp U;let a0:e.n=0:=kB a0;let V:e.k=true:=V;let D:pD t x=(e.k,(e.n,x - 9)):=by unfold pD;rw[Y,V,a0];rfl
  let am:=h.ml e U;show(t,N,e,U,p,F,J,O,L,by rw[hk];unfold kn;rw[V];rfl,by rw[hk];show D,.inr ?_,⟨λο=>⋯,λο=>⟨V,a0⟩⟩,j,a4,λZ a3=>(h.rh,h.pc,N,J,(3,_,by rw[j];show Y,a3),ab,⋯,U,by rw[j,D],by rw[j,D],⋯));cases ac:kD p x with
  |none=>rfl
  |some k=>
   let b2:kn p=n:=by unfold kn;rw[O];show L
   have:=h.pr (kn p) x k (p,F,_,(QF (h.rh.ux p F)).mp ac,rfl,rfl) ⋯;omega
end
theorem RH.tup {A:sD} {B H H':Hp} {r:Ro} {j:Hz} {l f g:Int} {U:!Tk} {bk:Kvs} {made:Int} {S:!Sh} {es:!Ho} (D:RH A B H r j l f g U bk made S es) (fr:Fb S r es H H') {c:Addr} {vs:!V} (h:H c>(.tup vs)):H' c>(.tup vs):=by
 let(W,h1):=D.s.me;show fr _ _ h (uD h h1 nofun) (uD h D.s.s nofun) (uD h D.s.h nofun) (λj=>by
  let(J,N,L):=aA.mp j;let F:=D.pe J N;rw[L,h] at F;cases F) (λs O=>uD h (D.s.x s O) nofun)
def fI (X:Cx) (t:TE):TE:=λσ H Q=>∃a,(∀o u,X.H₀ a≠some (.frz o u))/\t σ H λv H'=>Q v (VE a H')
theorem yr {X:Cx} {e:Expr} {t:TE} (h:PE X e t):PE X e (fI X t):=by
 intro J s L H Q D j;let(a,h0,j):=j;show AB (h J s L H _ D j) (λv s' ⟨x,H',F,r,q⟩=>(x,_,F.thawedT h0,r,q)) λο ο e=>e
theorem WS {g:Int} {S:!Sh} {e:Ho} {y:Int} {s:Sh} (D:(S.map Sh.n).Nodup) (j:s∈S) (h:kD e y>s.n):AD g S e y=s.xs:=by
 unfold AD;rw[h];change (nE S s.n).getD _=_;rw[qJ D j];rfl
theorem bX {ps:!Pw}:(sE ps).map (·.1)=ps.map Pw.q:=by unfold sE;rw[wA];rfl
theorem TQ {ps:!Pw} (nk:(ps.map Pw.q).Nodup) {p:Pw} (j:p∈ps):KC (sE ps) p.q=↑p.d:=(yH (by rw[bX];show nk)).mpr (aA.mpr (p,j,rfl))
theorem XS {ps:!Pw} (nk:(ps.map Pw.q).Nodup) {q:!Key} {v:V} (h:KC (sE ps) q>v):∃p∈ps,p.q=q/\v=.ref p.d:=by
 let(p,F,e):=aA.mp ((yH (kvs:=sE ps) (by rw[bX];show nk)).mp h);injection e with j D;show(p,F,j,D.symm)
set_option tactic.hygienic true in
theorem zr {kvs:!(!Key×V)} {k:!Key} {v:V} (nk:(kvs.map (·.1)).Nodup) (h:KC kvs k>v):iD kvs k v=kvs:=by
 let hm:=(yH nk).mp h;unfold iD;rw[iA (List.any_eq_true.mpr (_,hm,qA rfl))];show (IA λkv hk=>?_).trans (List.map_id kvs)
 split
 .rename_i c;have:=(yH nk).mpr (show (kv.1,kv.2)∈kvs from hk);rw[c,h] at this;rw[yA this];rfl
 .rfl
theorem Pr {kv:Kvs} {b D j:Int}:eI (iD kv (inl b) (.int j)) D=if D=b then j else eI kv D:=by
 unfold eI;rw[oM];by_cases c:D=b
 .rw[iA c,iA (by rw[c])]
 .rw[gA c,gA λF=>c (kB F)]
theorem qh {kv:Kvs} {b:Int} (h:∀b v,KC kv b>v->∃i:Int,v=.int i):(KC kv (inl b)).getD (.int 0)=.int (eI kv b):=by
 unfold eI;cases e:KC kv (inl b) with
 |none=>rfl
 |some v=>
  let(i,rfl):=h _ _ e
  rfl
theorem Qr {kv:Kvs} {k:Key} {u:V}:(iD kv k u).length<=kv.length+1:=IP ..
theorem uh {H:Hp} {a b:Addr} {xs:!V} {Q:VK} (h1:H a>(.tup xs)) (h2:H b>(.tup xs)) (j:xs.all BF=true) (q:Q (.bl true) H):BM K 4 (.ref a) (.ref b) H Q:=(true,LG xs,LG xs,Vb (HD.of h1) j,Vb (HD.of h2) j,Wb _ _,by rw[Xb];omega,by rw[YK xs j];show q)
def zH (q:!Key) (d:Addr) (kv:Kvs) (ps:!Pw):!Pw:=if (ps.any λp=>decide (p.q=q))=true then ps.map (λp=>if p.q=q then (q,d,kv) else p) else ps++[(q,d,kv)]
section
variable {q:!Key} {d:Addr} {kv:Kvs} {ps:!Pw} {ms:!Mp} {pd td md:Addr}
theorem Rr:sE (zH q d kv ps)=iD (sE ps) q (.ref d):=by
 unfold sE zH iD;rw[List.any_map];by_cases c:(ps.any λp=>decide (p.q=q))=true
 .rw[iA c,iA (show (ps.any ((λkv=>decide (kv.1=q)) ∘ λp=>(p.q,V.ref p.d)))=true from c),wA,wA];show IA λp ο=>?_;by_cases e:p.q=q
  .change (λp:Pw=>(p.q,V.ref p.d)) (if p.q=q then _ else _)=if p.q=q then (p.q,V.ref d) else _
   rw[iA e,iA e,e]
  .change (λp:Pw=>(p.q,V.ref p.d)) (if p.q=q then _ else _)=if p.q=q then (p.q,V.ref d) else _
   rw[gA e,gA e]
 .rw[gA c,gA (show ¬(ps.any ((λkv=>decide (kv.1=q)) ∘ λp=>(p.q,V.ref p.d)))=true from c),nA];rfl
theorem UN:(ps.any λp=>decide (p.q=q))=true↔∃p∈ps,p.q=q:=by
 rw[List.any_eq_true];show exists_congr λp=>and_congr_right λο=>decide_eq_true_iff
set_option tactic.hygienic true in
theorem IJ {p:Pw}:p∈zH q d kv ps↔p=(q,d,kv)\/(p∈ps/\p.q≠q):=by
 unfold zH
 split
 .rename_i c;constructor
  .intro h;let(p1,h1,rfl):=aA.mp h;by_cases e:p1.q=q
   .show .inl (iA e)
   .rw[gA e];show .inr ⟨h1,e⟩
  .rintro (rfl|⟨h,e⟩)
   .let(p0,h0,e0):=UN.mp c;show aA.mpr (p0,h0,iA e0)
   .show aA.mpr (p,h,gA e)
 .rename_i c;rw[jA,bA];show⟨λh=>h.elim (λh=>.inr ⟨h,λe=>c (UN.mpr (p,h,e))⟩) .inl,λh=>h.elim .inr λh=>.inl h.1⟩
set_option tactic.hygienic true in
theorem Sr (hq:(ps.map Pw.q).Nodup) (hd:(ps.map Pw.d).Nodup) (hn:∀p∈ps,p.q≠q->p.d≠d):((zH q d kv ps).map Pw.q).Nodup/\((zH q d kv ps).map Pw.d).Nodup:=by
 unfold zH
 split
 .show⟨?_,?_⟩
  .rw[wA,show ps.map (Pw.q ∘ λp=>if p.q=q then (q,d,kv) else p)=ps.map Pw.q from IA λp ο=>by
    change (if p.q=q then ((q,d,kv):Pw) else p).q=p.q
    split
    .rename_i e;show e.symm
    .rfl]
   show hq
  .rw[wA];show CB.mpr (((CB.mp hq).and (CB.mp hd)).imp_of_mem λ{a b} ha hb h=>?_);change (if a.q=q then ((q,d,kv):Pw) else a).d≠(if b.q=q then ((q,d,kv):Pw) else b).d;by_cases c1:a.q=q<;>by_cases c2:b.q=q
   .show absurd (c1.trans c2.symm) h.1
   .rw[iA c1,gA c2];show (hn b hb c2).symm
   .rw[gA c1,iA c2];show hn a ha c1
   .rw[gA c1,gA c2];show h.2
 .rename_i c;let c:∀p∈ps,p.q≠q:=λp hp e=>c (UN.mpr (p,hp,e));rw[nA,nA];show⟨EA.mpr (hq,zB .., λa ha b hb z=>?_),EA.mpr (hd,zB .., λa ha b hb z=>?_)⟩
  .let(p,hp,rfl):=aA.mp ha;show c p hp (z.trans (bA.mp hb))
  .let(p,hp,rfl):=aA.mp ha;show hn p hp (c p hp) (z.trans (bA.mp hb))
def OD (pd td md:Addr) (ms:!Mp):!Addr:=pd::td::md::ms.map Mp.d
theorem sJ:(gH pd td md ps ms).Nodup↔(ps.map Pw.d).Nodup/\(OD pd td md ms).Nodup/\∀p∈ps,p.d∉OD pd td md ms:=by
 rw[(show List.Perm (gH pd td md ps ms) (ps.map Pw.d++OD pd td md ms) from List.perm_append_comm_assoc [pd,td,md] (ps.map Pw.d) (ms.map Mp.d)).nodup_iff,EA];show and_congr_right λο=>and_congr_right λο=>⟨λh p j J=>h _ (aA.mpr (p,j,rfl)) _ J rfl,λh a D b F L=>?_⟩
 let(p,j,rfl):=aA.mp D;show h p j (L ▸ F)
theorem xF {c:Addr}:c∈gH pd td md ps ms↔c∈OD pd td md ms\/∃p∈ps,p.d=c:=by
 rw[(show List.Perm (gH pd td md ps ms) (ps.map Pw.d++OD pd td md ms) from List.perm_append_comm_assoc [pd,td,md] (ps.map Pw.d) (ms.map Mp.d)).mem_iff,jA,aA];show Or.comm
end
section
variable {G0 B H H':Hp} {r:Ro} {z:Hz} {l f g:Int} {tks:!Tk} {made made':Int} {S S':!Sh} {es es':!Ho} {ps:!Pw} {ms:!Mp} {pd td md:Addr} {kvs kvs':!(!Key×V)} {τ τ':Int->Int} {u i:Int}
theorem SH:md∈OD pd td md ms:=kA _ (kA _ (cA ..))
theorem nK {m:Mp} (h:m∈ms):m.d∈OD pd td md ms:=kA _ (kA _ (kA _ (aA.mpr (m,h,rfl))))
theorem IL (h:(OD pd td md ms).Nodup):(pd≠td/\pd≠md/\td≠md)/\(∀m∈ms,m.d≠pd/\m.d≠td/\m.d≠md)/\(ms.map Mp.d).Nodup:=by
 unfold OD at h;simp only[NA,pA,not_or,aA,not_exists,not_and] at h;show((h.1.1,h.1.2.1,h.2.1.1),λm j=>(h.1.2.2 m j,h.2.1.2 m j,h.2.2.1 m j),h.2.2.2)
theorem Bk.psl (h:Bk A G0 B H r z l f g tks made S es ps ms pd td md kvs τ u i):(sE ps).length<=kvs.length:=by
 let h1:=h.pk.length_le_of_subset (l₂:=kvs.map (·.1)) λq D=>by
  let(p,j,e):=aA.mp D;let(k,hk):=(h.pq q).mp (p,j,e);show aA.mpr (_,(yH h.tn.nk).mp (h.tn.nb.mpr (k,hk,rfl)),rfl)
 rw[dA,dA] at h1;unfold sE;rw[dA];show h1
theorem Bk.on {e:Ho} {y bt:Int} {bo:!Int} {d:Addr} {kv:Kvs} (h:Bk A G0 B H r j l f g tks made S es ps ms pd td md kvs τ u i) (J:Nx g S es (kn e) y bt S' es' kvs' τ' bo) (ca:kn e≠2->0<=y/\y < 9) (b3:RH A B H' r j l f g tks [(inl 0,.int 5)] made' S' es') (b5:H' pd>(.dT (iD (sE ps) (k2 (kn e) y) (.ref d)))) (a9:H' d>(.dK kv)) (bb:H' td>(.dT kvs')) (kp:∀c o,H c>o->B c≠none->c≠td->c≠pd->c≠d->H' c>o) (a2:(∃p∈ps,p.q=k2 (kn e) y/\p.d=d)\/(B d=none/\¬yG r j S' es' d)) (c9:∀b:Nat,(b:Int) < pw g->bo.getD b 0=eI kv b) (hi:∀b v,KC kv b>v->∃i:Int,v=.int i) (c8:(kv.length:Int)<=i+1):
  ∃Z,Bk A G0 Z H' r j l f g tks made' S' es' (zH (k2 (kn e) y) d kv ps) ms pd td md kvs' τ' (bt+1) (i+1):=by
 let(Z,c6,b2):=b3.rebase;let U:∀{c o},B c≠none->H' c>o->Z c≠none:=λY c5=>by rw[b2 _ (b3.nb Y),c5];show λj=>nomatch j
 let(bd,be,a3):=sJ.mp h.nd;let((ac,a4,ad),ah,cl):=IL be;let b0:d∉OD pd td md ms:=λj=>by
  let(p,D,_,F)||(F,_):=a2
  .show a3 p D (by rw[F];show j)
  .show h.ow d (xF.mpr (.inl j)) F
 let b1:∀p∈ps,p.q≠k2 (kn e) y->p.d≠d:=λp D a6 j=>by
  let(bm,h0,N,F)||(F,_):=a2
  .show a6 (by rw[NE bd D h0 (j.trans F.symm)];show N)
  .show h.ow p.d (xF.mpr (.inr (p,D,rfl))) (j ▸ F)
 let c1:Z d≠none:=by
  let(bm,h0,N,F)||(_,F):=a2
  .show U (h.ow d (xF.mpr (.inr (bm,h0,F)))) a9
  .rw[b2 _ F,a9];show λj=>nomatch j
 let bh:∀c,c∈OD pd td md ms->c≠d:=λc O j=>b0 (j ▸ O);let bn:∀p∈ps,p.q≠k2 (kn e) y->H' p.d>(.dK p.kv):=λp D a6=>kp _ _ (h.px p D) (h.ow _ (xF.mpr (.inr (p,D,rfl)))) (λj=>a3 p D (j ▸ kA _ (cA ..))) (λj=>a3 p D (j ▸ cA ..)) (b1 p D a6);let b9:H' md>(.dK (wF ms)):=kp _ _ h.hm (h.ow _ (xF.mpr (.inl SH))) ad.symm a4.symm (bh _ SH);let bc:∀m∈ms,H' m.d>(.dK (vF m.xs)):=λm L=>kp _ _ (h.mx m L).1 (h.ow _ (xF.mpr (.inl (nK L)))) (ah m L).2.1 (ah m L).1 (bh _ (nK L));let(ch,ck):=Sr (kv:=kv) h.pk bd b1;let bl:(es'.map kn).Nodup:=by rw[J.kk];show h.nn
 show(Z,c6,J.pc,J.tn,J.bo,λc ab k hk O=>?_,λV W=>?_,bl,?_,h.tk,h.tl,b9,h.mn,λm L=>⟨bc m L,(h.mx m L).2⟩,h.mt,by rw[Rr];show b5,λp D=>?_,ch,λq=>?_,λp D V W ab F b b4=>?_,λp D=>?_,λp D=>?_,bb,?_,λV W=>?_,sJ.mpr (ck,be,λp D=>?_),λc O=>?_,h.g0,λc o O=>?_)
 .let j||(cd,c7):=(J.nb _).mp ⟨k,hk⟩
  .let(z1,z2):=yF j;rw[z2];show ca (by rw[<-z1];show O)
  .show h.pr c ab cd c7 O
 .let(N,h0,ac,a4,_):=J.ek V W;rw[ac,a4];show h.ek N h0
 .have:=congrArg List.length J.kk;rw[dA,dA] at this;rw[this];show h.el
 .let rfl||(h1,h2):=IJ.mp D
  .show a9
  .show bn p h1 h2
 .rw[J.nb,<-h.pq];constructor
  .rintro⟨p,D,rfl⟩;let rfl||(h1,h2):=IJ.mp D
   .show .inl rfl
   .show .inr (p,h1,rfl)
  .intro j;by_cases c:q=k2 (kn e) y
   .show(_,IJ.mpr (.inl rfl),c.symm)
   .let(p,D,rfl):=j.resolve_left c;show(p,IJ.mpr (.inr ⟨D,c⟩),rfl)
 .let hk:kn V∈es.map kn:=by rw[<-J.kk];show aA.mpr (V,W,rfl)
  let(N,h0,a1):=aA.mp hk;let(cm,c4,c2,c3):=J.rw N h0;obtain rfl:=NE bl c4 W (c2.trans a1);rw[c3];let rfl||(h1,h2):=IJ.mp D
  .let(z1,z2):=yF F;rw[iA ⟨a1.trans z1.symm,z2.symm⟩];show c9 b b4
  .rw[gA λj=>h2 (by rw[F,<-a1,j.1,j.2])];show h.pv p h1 N h0 ab (by rw[F,a1]) b b4
 .let rfl||(h1,_):=IJ.mp D
  .show hi
  .show h.pi p h1
 .let rfl||(h1,_):=IJ.mp D
  .show c8
  .have:=h.pl p h1;omega
 .have:=h.sl;have:=J.sl;omega
 .let(N,h0,_,_,ad):=J.ek V W;have:=h.ml N h0;omega
 .let rfl||(h1,_):=IJ.mp D
  .show b0
  .show a3 p h1
 .let q||(p,D,rfl):=xF.mp O
  .let Y:=h.ow c (xF.mpr (.inl q));unfold OD at q;simp only[pA,aA] at q;let rfl||rfl||rfl||(m,L,rfl):=q
   .show U Y b5
   .show U Y bb
   .show U Y b9
   .show U Y (bc m L)
  .let rfl||(h1,h2):=IJ.mp D
   .show c1
   .show U (h.ow _ (xF.mpr (.inr (p,h1,rfl)))) (bn p h1 h2)
 .let(c0,a5,a0):=h.k0 c o O;let am:c≠d:=λj=>by
   let(p,D,_,F)||(F,_):=a2
   .show a0 (xF.mpr (.inr (p,D,F.trans j.symm)))
   .show a5 (j ▸ F)
  let al:=kp c o c0 a5 (λj=>a0 (j ▸ xF.mpr (.inl (kA _ (cA ..))))) (λj=>a0 (j ▸ xF.mpr (.inl (cA ..)))) am;show(al,U a5 al,λj=>?_);let q||(p,D,F):=xF.mp j
  .show a0 (xF.mpr (.inl q))
  .let rfl||(h1,_):=IJ.mp D
   .show am F.symm
   .show a0 (xF.mpr (.inr (p,h1,F)))
end
theorem cX {n j:Nat}:(List.replicate n (0:Int)).getD j 0=0:=by
 rw[xB,List.getElem?_replicate]
 split<;>rfl
theorem Tr {S:!Sh} {made:Int} {a':Addr} {zs j:!Int} (F:∀s∈S,s.n < made):gE made j (S++[((made,a',zs,1):Sh)])=S++[(made,a',j,1)]:=by
 unfold gE;rw[nA];let D:(S.map λs=>if s.n=made then {s with xs:=j} else s)=S:=by
  show (IA λs J=>?_).trans (List.map_id S);show gA (by have:=F s J;omega)
 rw[D];change S++[if made=made then _ else _]=_;rw[iA rfl]
theorem Ur {k:Int} {xs:!Int} {S:!Sh} {s:Sh} (h:s∈gE k xs S):∃j∈S,j.n=s.n:=by
 let(j,h0,rfl):=aA.mp h;show(j,h0,by split<;>rfl)
theorem vh {A:sD} {B H:Hp} {r:Ro} {U:Hz} {l f g:Int} {O:!Tk} {bk:Kvs} {made:Int} {S:!Sh} {es:!Ho} {e:Ho} {y:Int} (D:RH A B H r U l f g O bk made S es) (N:PC S es) (F:e∈es):(AD g S e y).length=(pw g).toNat:=by
 unfold AD;cases L:kD e y with
 |none=>show VB
 |some k=>
  let(s,J,j):=N.liv e F _ ((QF (D.ux e F)).mp L);let j:s.n=k:=j;change ((nE S k).getD _).length=_;rw[<-j,qJ D.s.nn J];show D.sz s J
def MO (kvs:!(!Key×V)) (o:Option V):Nat:=match o with
 |none=>0
 |some v=>kvs.countP λkv=>decide (kv.2=v)
theorem dX {H:Hp} {F D:Addr} {kvs:!(!Key×V)} {o:Obj} {a2:Hp->Prop} {h:vH (JG 0) tYes (DD (VF 1) (VF 0))} (am:H F>(.dT kvs)) (nk:(kvs.map (·.1)).Nodup) (a9:∀kv∈kvs,kv.2=V.int (tI kv.2)) (al:kvs.length<=300) (N:JC H F (.frz o (.dT kvs)) D=none) (q:∀H',(∀b u,H b>u->b≠F->H' b>u)->H' F>(.frz o (.dT kvs))->H' D>(.lst ((kvs.map λkv=>tI kv.2).map V.int))->D≠F->H D=none->a2 H'):QH (JG 0) tYes (DD (VF 1) (VF 0)) h (eK F o kvs) [none,↑F] D a2 (JC H F (.frz o (.dT kvs))):=by
 let a4:∀b u,H b>u->b≠F->JC H F (.frz o (.dT kvs)) b>u:=λb u h J=>by rw[WC J];show h
 let a3:JC H F (.frz o (.dT kvs)) F>(.frz o (.dT kvs)):=nD;generalize JC H F (.frz o (.dT kvs))=F2 at *;let U:D≠F:=λah=>by rw[ah,a3] at N;cases N
 let Z:H D=none:=by
  cases e:H D with
  |none=>rfl
  |some u=>rw[a4 D u e U] at N;cases N
 show qc (λj ys Y H'=>∃a0,Y=[a0,↑F]/\(∀b u,H b>u->b≠F->H' b>u)/\H' F>(.frz o (.dT kvs))/\ys=((kvs.take j).map λkv=>tI kv.2).map V.int/\H' D>(.lst ys)) (_,rfl,λb u h J=>?_,?_,rfl,nD) (λj ys Y H' _ a1=>by let(_,a1):=a1;show a1.2.2.1) (λj k L a5 ys Y H' hi a6=>?_) (λys Y H'=>?_)
 .rw[WC (FD h Z)];show a4 b u h J
 .rw[WC (Ne.symm U)];show a3
 .rintro⟨a0,rfl,hk,W,rfl,O⟩;let hz:=PySem.sizeLine_eq;let ab:kvs.take (j+1)=kvs.take j++[(k,L)]:=by rw[bB,hi];rfl
  let ad:=a9 _ (QA hi);let ac:KC kvs k>L:=(yH nk).mpr (QA hi);unfold DD;rfl';show(L,.inr (kvs,k,a5,.inr ⟨o,W⟩,rfl,a6,ac.symm),O,by rw[dA,dA,cB];omega,λb u h J=>?_,?_,?_)
  .rw[WC (FD h Z)];show hk b u h J
  .rw[WC (Ne.symm U)];show W
  .rw[ab,nA,nA,show L=V.int (tI L) from ad];rfl
 .rintro⟨a0,rfl,hk,W,rfl,O⟩;rw[iB] at O;show q _ hk W O U Z
section
variable {G0 B H H':Hp} {r:Ro} {z:Hz} {l f g:Int} {tks:!Tk} {made made':Int} {S S':!Sh} {es es':!Ho} {ps:!Pw} {ms:!Mp} {pd td md:Addr} {kvs kvs':!(!Key×V)} {τ τ':Int->Int} {u i:Int}
theorem Bk.max {M:Int} (h:Bk A G0 B H r z l f g tks made S es ps ms pd td md kvs τ u i) (V:((kvs.map λkv=>tI kv.2)=[]/\M=0)\/(M∈(kvs.map λkv=>tI kv.2)/\∀a∈(kvs.map λkv=>tI kv.2),a<=M)):0<=1+M/\∀s∈S,τ s.n < 1+M:=by
 let D:∀s∈S,τ s.n∈kvs.map λkv=>tI kv.2:=λs j=>by
  let(a0,D):=h.pc.on j;show aA.mpr (_,(yH h.tn.nk).mp (h.tn.nb.mpr (_,D,rfl)),rfl)
 let(F,L)||(F,L):=V
 .show⟨⋯,λs j=>by have:=D s j;rw[F] at this;cases this⟩
 .show⟨?_,λs j=>by have:=L _ (D s j);omega⟩;let(kv,W,J):=aA.mp F;let(Y,Z,O):=h.tn.nb.mp ((yH h.tn.nk).mpr (show (kv.1,kv.2)∈kvs from W));let(s,j,N):=h.pc.nb Z;let U:=(h.tn.lt s j).1;rw[O] at J;let J:τ Y=M:=J;rw[N] at U;omega
end
inductive Af (A:sD) (B H G:Hp) (r:Ro) (z:Hz) (l f g:Int) (tks:!Tk) (S:!Sh) (es:!Ho) (kvs:!(!Key×V)) (τ:Int->Int) (e:Ho) (y b:Int) (v:Option Int) (nb:Bool) (kp sp fa:Addr) (tv:!V):Prop
 |mk (hl:nb=true->(S.length:Int) < r.most) (made':Int) (S':!Sh) (es':!Ho) (ans:V) (row:!Int) (hR:RH A B G r z l f g tks [(inl 0,.int 5)] made' S' es') (hk:∀c o,H c>o->B c≠none->G c>o) (h1:G kp>(.tup ((k2 (kn e) y).map kV))) (h2:G sp>(.tup tv)) (h3:G fa>(.tup [.str "ok",ans])) (hN:∀u9,0<=u9->(∀s∈S,τ s.n < u9)->∃τ',Nx g S es (kn e) y u9 S' es' (if nb then iD kvs (k2 (kn e) y) (.int u9) else kvs) τ' row) (hv:(v=none/\ans=.int ((AD g S e y).getD b.toNat 0)/\row=AD g S e y)\/∃j,v>j/\ans=.non/\row=(AD g S e y).set b.toNat j)
section
variable {G0 B H H':Hp} {r:Ro} {z:Hz} {l f g:Int} {tks:!Tk} {made made':Int} {S S':!Sh} {es es':!Ho} {ps:!Pw} {ms:!Mp} {pd td md:Addr} {kvs kvs':!(!Key×V)} {τ τ':Int->Int} {u i:Int}
theorem Bk.ans {t:Tk} {e p:Ho} {n x y b ab:Int} {v:Option Int} {nb:Bool} {kp sp:Addr} {c7:!V} {us:Nat} {Q:VK} {c9:XK} (D:Bk A G0 B H r N l f g tks made S es ps ms pd td md kvs τ u i) (c0:∀bd,Builtin.bitAnd 3 bd=bd->pJ A bd B H r N l f g tks [(inl 0,.int 5)] made S es t n ab e) (b1:ab / pw g=x) (bm:ab % pw g=b) (am:pD t x=(e.k,(e.n,y))) (J:e∈es) (c2:p∈es) (cx:p.k=false) (d1:p.n=n) (cm:p=e\/kD p x=none) (d2:t.n=n) (hi:i<=60) (c1:H kp>(.tup ((k2 (kn e) y).map kV))) (c3:H sp>(.tup c7)) (ad:nb=true↔KC kvs (k2 (kn e) y)=none\/(v≠none/\1 < us)) (b9:us=MO kvs (KC kvs (k2 (kn e) y))) (c5:∀a9 ac,nb=true->r.most<=(S.length:Int)->OC H a9->a9 ac>(.tup [.str "no",.int 1])->Q (.ref ac) a9) (c6:∀a9 ac,Af A B H a9 r N l f g tks S es kvs τ e y b v nb kp sp ac c7->Q (.ref ac) a9):Zg A [.ref r.p,.int n,.int ab,vO v] H Q c9:=by
 let(ch,ck):=D.rh.s.me;let b2:=(GJ D.rh.nd).nd;let sl:=D.sl;let dl:=D.ml p c2;let a0:=D.tn.get D.nn J (D.rh.ux e J) y;let bt:∀{bh bl:Hp},Fb S r es bh bl->∀c o,bh c>o->B c≠none->bl c>o:=λfr c o h cw=>let ⟨m0,⟨m1,m2,_⟩,m7,m8⟩:=D.rh.no (D.rh.nb cw);fr c o h m0 m1 m2 m7 m8
 let ah:∀F,(∀s∈S,τ s.n < F)->Tn S es kvs τ F:=λF Z=>(D.tn.nk,D.tn.mem,D.tn.inj,λs U=>⟨(D.tn.lt s U).1,Z s U⟩)
 show(r.p,ch,_,n,ab,v,rfl,ck,sF ∅,sF ∅,λbb=>?_,λj bb=>?_)
 .subst bb;let EF:∀{made' S' es'} (H':Hp) (w:Int),RH A B H' r N l f g tks [(inl 0,.int 5)] made' S' es'->(∀c o,H c>o->B c≠none->H' c>o)->(∀c vs,H c>(.tup vs)->H' c>(.tup vs))->(nb=true->(S.length:Int) < r.most)->w=(AD g S e y).getD b.toNat 0->(∀F,0<=F->(∀s∈S,τ s.n < F)->∃be,Nx g S es (kn e) y F S' es' (if nb then iD kvs (k2 (kn e) y) (.int F) else kvs) be (AD g S e y))->SS Q (.int w) H':=λ{made' S' es'} H' w b3 k c4 b5 cs a2 t b0 Y _ a6=>c6 _ _ (b5,made',S',es',_,_,b3.same Y,λc o h1 h2=>Y _ _ (k c o h1 h2),Y _ _ (c4 _ _ c1),Y _ _ (c4 _ _ c3),a6,a2,.inl (rfl,by rw[cs],rfl));show(B,r,N,l,f,g,tks,_,made,S,es,t,n,_,e,rfl,c0 1 (by decide),?_);rw[b1,bm,am];cases L:kD e y with
  |some k=>
   let(s,U,a5):=D.pc.liv e J _ ((QF (D.rh.ux e J)).mp L);let a5:s.n=k:=a5;subst a5;let a3:=WS (g:=g) D.rh.s.nn U L;rw[L] at a0;let W:nb=false:=by
    cases nb with
    |false=>rfl
    |true=>
     let c||c:=ad.mp rfl
     .rw[a0] at c;cases c
     .show absurd rfl c.1
   show .inl (s,U,rfl,λH' a1=>EF H' _ (D.rh.same a1) (λc o h ο=>a1 _ _ h) (λc vs h=>a1 _ _ h) (by rw[W];show λN=>nomatch N) (by rw[a3]) λF h0 Z=>⟨τ,?_⟩);rw[W];show Nx.same (ah F Z) D.pc D.bo J (D.rh.ux e J) L (λs U=>(s,U,rfl)) rfl λbo b4 c8=>?_;by_cases c:kn bo=kn e/\c8=y
   .rw[iA c,c.2,NE D.nn b4 J c.1]
   .rw[gA c]
  |none=>
   rw[L] at a0;let W:nb=true:=ad.mpr (.inl a0);let a3:AD g S e y=List.replicate (pw g).toNat 0:=by unfold AD;rw[L];rfl
   by_cases a4:(S.length:Int) < r.most
   .show .inr (.inr (rfl,a4,λa' H' O fr=>EF H' 0 O (bt fr) (λc vs h=>D.rh.tup fr h) (λο=>a4) (by rw[a3,cX]) λF h0 Z=>⟨fH τ made F,?_⟩));let a2:=Nx.newp (g:=g) (a':=a') (zs:=List.replicate (pw g).toNat 0) (ah F Z) D.pc D.bo b2 D.nn D.rh.ux D.rh.s.b J L h0 O.s.nn (O.ux _ (FL J));rw[W,a3];show a2
   .show .inr (.inl (rfl,⋯,λH' a1=>⟨rfl,λt b0 Y ο a6=>c5 _ _ W ⋯ (a1.trans Y) a6⟩))
 .subst bb;let EF:∀{made' S' es'} (H':Hp),RH A B H' r N l f g tks [(inl 0,.int 5)] made' S' es'->Fb S r es H H'->(nb=true->(S.length:Int) < r.most)->(∀F,0<=F->(∀s∈S,τ s.n < F)->∃be,Nx g S es (kn e) y F S' es' (if nb then iD kvs (k2 (kn e) y) (.int F) else kvs) be ((AD g S e y).set b.toNat j))->SS Q .non H':=λ{made' S' es'} H' b3 fr b5 a2 t b0 Y _ a6=>c6 _ _ (b5,made',S',es',_,_,b3.same Y,λc o h1 h2=>Y _ _ (bt fr c o h1 h2),Y _ _ (D.rh.tup fr c1),Y _ _ (D.rh.tup fr c3),a6,a2,.inr (j,rfl,rfl,rfl));let bn:∀{H'},OC H H'->nb=true->r.most<=(S.length:Int)->UW A Q (.ref A.Ae) none H':=λa1 ca cd=>⟨rfl,λt b0 Y ο a6=>c5 _ _ ca cd (a1.trans Y) a6⟩
  show(B,r,N,l,f,g,tks,_,made,S,es,t,n,_,j,e,p,rfl,c0 2 (by decide),c2,cx,d1,⋯,by rw[b1];show cm,?_);rw[b1,bm,am];cases L:kD e y with
  |none=>
   rw[L] at a0;let W:nb=true:=ad.mpr (.inl a0);let a3:AD g S e y=List.replicate (pw g).toNat 0:=by unfold AD;rw[L];rfl
   by_cases a4:(S.length:Int) < r.most
   .show .inr (.inr (.inr (.inr (rfl,a4,λa' H' O fr=>EF H' O fr (λο=>a4) λF h0 Z=>⟨fH τ made F,?_⟩))));rw[Tr D.rh.s.b] at O ⊢;let a2:=Nx.newp (g:=g) (a':=a') (zs:=(List.replicate (pw g).toNat (0:Int)).set b.toNat j) (ah F Z) D.pc D.bo b2 D.nn D.rh.ux D.rh.s.b J L h0 O.s.nn (O.ux _ (FL J));rw[W,a3];show a2
   .show .inr (.inr (.inr (.inl (rfl,⋯,λH' a1=>bn a1 W ⋯))))
  |some k=>
   let(s,U,a5):=D.pc.liv e J _ ((QF (D.rh.ux e J)).mp L);let a5:s.n=k:=a5;subst a5;rw[L] at a0;let a0:KC kvs (k2 (kn e) y)>(V.int (τ s.n)):=a0;let dd:=D.tn.alike D.pc D.nn D.rh.ux U;rw[a0] at b9;let b9:us=kvs.countP λkv=>decide (kv.2=V.int (τ s.n)):=b9;let a3:=WS (g:=g) D.rh.s.nn U L;by_cases h2:1 < us
   .let W:nb=true:=ad.mpr (.inr ⟨nofun,h2⟩);let al:e.k=false:=by
     cases c:e.k with
     |false=>rfl
     |true=>
      have:=D.tn.bank1 D.pc D.bo (q:=k2 (kn e) y) (k:=s.n) ⟨y,by unfold kn;rw[c];rfl⟩ (e,J,_,(QF (D.rh.ux e J)).mp L,rfl,rfl);omega
    let(bc,_):=og (t:=t) (x:=x) (by rw[am];show al);rw[am] at bc;let cl:e.n=n:=(congrArg (λN=>N.2.1) bc).trans d2;let cv:y=x:=congrArg (λN=>N.2.2) bc;subst cv;by_cases a4:(S.length:Int) < r.most
    .show .inr (.inr (.inl (s,U,rfl,⋯,al,a4,λa' H' O fr=>EF H' O fr (λο=>a4) λF h0 Z=>⟨fH τ made F,?_⟩)));rw[<-al,<-cl] at O ⊢;let a2:=Nx.copyp (g:=g) (a':=a') (zs:=s.xs.set b.toNat j) (ah F Z) D.pc D.bo b2 D.nn D.rh.ux D.rh.s.b D.rh.s.nn J U L ⋯ h0 O.s.nn (O.ux _ (FL J));rw[W,a3];show a2
    .show .inr (.inl (s,U,rfl,⋯,al,⋯,λH' a1=>bn a1 W ⋯))
   .let W:nb=false:=by
     cases nb with
     |false=>rfl
     |true=>
      let c||c:=ad.mp rfl
      .rw[a0] at c;cases c
      .show absurd c.2 h2
    show .inl (s,U,rfl,.inl ⋯,λH' O fr=>EF H' O fr (by rw[W];show λN=>nomatch N) λF h0 Z=>⟨τ,?_⟩);rw[W];show Nx.same (ah F Z) D.pc.box D.bo J (D.rh.ux e J) L (λs' co=>Ur co) (dA ..) λbo b4 c8=>?_;rw[a3];show sr D.rh.s.nn U D.pc J D.nn D.rh.ux L (λd3 h2 dm N=>D.tn.only D.nn D.rh.ux J L ⋯ h2 N) b4
end
inductive xh (A:sD) (vs:!V) (H:Hp) (Q:VK) (E:XK):Prop where
 |mk (G0 B:Hp) (r:Ro) (z:Hz) (l f g:Int) (tks:!Tk) (made:Int) (S:!Sh) (es:!Ho) (ps:!Pw) (ms:!Mp) (pd td md:Addr) (kvs:!(!Key×V)) (τ:Int->Int) (u i n x b:Int) (v:Option Int) (sp:Addr) (m:Mp) (_:vs=[.ref r.p,.ref pd,.ref td,.int r.most,.int n,.ref sp,vO v]) (_:Bk A G0 B H r z l f g tks made S es ps ms pd td md kvs τ u i) (_:H sp>(.tup [.int x,.int (x * pw g+b),.int b])) (_:m∈ms) (_:m.n=n) (_:x∈m.xs) (_:(0<=b/\b < pw g)) (_:0<=i) (_:i<=60) (_:13<=pw (l * f)) (_:∀B' made' S' es' ps' kvs' τ' u' H',Bk A G0 B' H' r z l f g tks made' S' es' ps' ms pd td md kvs' τ' u' (i+1)->Q (.bl true) H'):xh A vs H Q E
def Vr (A:sD):Sp:=xh A
theorem VN (T:JD K mg A):qE P w K mg base "_law_access" 12 ["_law_rooms","_law_plain","_law_sheets","_law_most","_law_task","_law_spot","_law_value"] [] (Vr A):=by
 show T.K3.have BO (λvs H Q h6 J=>?_) ?_
 .let(h7,B,r,J,l,f,g,c4,made,S,es,ps,kc,pd,L,ka,kvs,τ,u,i,n,x,b,v,sp,m,rfl,_):=J;rfl
 .intro f l1 l0 lw s H vs Q h6 W J;let(h7,B,r,J,l,dd,g,c4,made,S,es,ps,kc,pd,L,ka,kvs,τ,u,i,n,x,b,v,sp,m,rfl,F,g4,ef,g1,g7,(hp,hq),hs,hi,hf,q):=J;let(t,ls,e,b3,p,co,ky,kk,kt,fx,hw,hx,_,hb,hc,hh):=F.ask ef g1 g7 hp hq hf ⋯;let en:=F.sh;let g2:n=0\/n=1:=by
   let dp:n∈c4.map Tk.n:=by rw[<-F.mn,<-g1];show aA.mpr (m,ef,rfl)
   let q||q:=F.tk<;>rw[q] at dp<;>simp at dp
   .show .inl dp
   .show dp
  show(_,(fD (ZD (i:=7) BO.nd rfl (Or.inr rfl) (kE (GL T) (-W) qD (IC (GC 4) (IC (pE QE (GC 5) ZC (λο ο=>rfl)) MC))))
   (oI (lU (ZD (i:=8) BO.nd rfl (Or.inl rfl) (fG uc rfl T.Bj PySem.boot_len (IC (lI (rc rfl) rfl T.Nk PyProof.Rows.boot_set (IC (PK rfl (pS (GC 2)) (x:="_law_other") (fs:=["_law_sheets"]) (ix:=[2]) rfl rfl (λο ο ο ο ο ο=>(SF (i:=0) (show (["_law_other","_law_sheets"]:!Str).Nodup by decide+kernel) rfl (Or.inl rfl))) (λο ο ο ο ο ο=>MK) (λο ο ο ο ο ο=>(BE (KD W) (GC 1) (GC 0) (λο ο=>rfl)))) MC)) MC))))
   (oI (lU (dU (i:=9) BO.nd rfl rfl rfl (pS (GC 2)) (x:="_law_other") (fs:=["_law_sheets","_law_key_here"]) (ix:=[2,7]) rfl rfl (λο ο ο ο ο ο=>(SF (i:=0) (show (["_law_other","_law_sheets","_law_key_here"]:!Str).Nodup by decide+kernel) rfl (Or.inl rfl))) (λο ο ο ο ο ο=>(jS (PW.pt (oO (yJ (OP (KD W) (GC 2) (GC 1))) (nO (dF jI (BE (KD W) (GC 1) (GC 0) (λο ο=>rfl)) (BE (KD W) (GC 1) (GC 2) (λο ο=>rfl)) (UC _))))))) (λο ο ο ο ο ο=>(GC 0))))
   (oI (ZD (i:=10) BO.nd rfl (Or.inl rfl) (gP (RL (wO (KD W) (GC 7) (GC 2))) (tK (zJ (zI P9 (GC 6) IG (UC _)) (tK (zI gM (fG rO rfl T.Bj PySem.boot_len (IC (GC 9) MC)) ZC (UC _)))))))
   (oI (ZD (i:=11) BO.nd rfl (Or.inl rfl) (kE (QN T) (-W) qD (IC (GC 0) (IC (GC 4) (IC (pE QE (GC 5) ZC (λο ο=>rfl)) (IC (GC 6) MC))))))
   (oI (yE (PW.pt (oO (iH (GC 10)) (nO (dF uT (GC 8) (GC 3) (UC _))))) (gD (RD (zI (YT (n:=4) (iS W)) (GC 11) (lG (IC kG (IC ZC MC))) (UC _)))) FE)
   (oI (yE (iH (GC 10)) (fD (CG (KD W) (GC 2) (GC 7) (jE KG ZC (ln rfl rfl T.Nj (IC (yr (PK rfl (pS (GC 2)) (x:="_law_other") (fs:=["_law_sheets"]) (ix:=[2]) rfl rfl (λο ο ο ο ο ο=>(SF (i:=0) (show (["_law_other","_law_sheets"]:!Str).Nodup by decide+kernel) rfl (Or.inl rfl))) (λο ο ο ο ο ο=>MK) (λο ο ο ο ο ο=>(BE (KD W) (GC 1) (GC 0) (λο ο=>rfl))))) MC) ZC)) rfl)
   (gD (CG (KD W) (GC 1) (GC 7) (lI mS rfl T.Gd PyProof.Rows.boot_dict (IC (ZR (KD W) (GC 1) (GC 7) NI (rfl,rfl,rfl,rfl)) MC)) rfl))) FE)
   (fD (yE (dF KI (GC 6) IG (UC _)) (gD (RD (zJ (zI jI (pE QE (GC 11) ZC (λο ο=>rfl)) kG (UC _)) (tK (kE (TW T) (-W) qD (IC (pE QE (GC 11) ZC (λο ο=>rfl)) (IC (ZR (KD W) (BE (KD W) (GC 1) (GC 7) (λο ο=>rfl)) (pE QE (GC 5) ZC (λο ο=>rfl)) ZC (rfl,rfl,rfl,rfl)) MC))))))) FE)
   (fD (CG (KD W) (BE (KD W) (GC 1) (GC 7) (λο ο=>rfl)) (pE QE (GC 5) ZC (λο ο=>rfl)) (GC 6) rfl)
   (gD (RD (zI (YT (n:=4) (iS W)) (GC 11) (lG (IC kG (IC IG MC))) (UC _))))))))))))),?_)
  rfl';show(_,HD.of g4,_,rfl,n,x,rfl,g2,λkp f0 ac l9 hu=>?_);let i2:=ac _ _ g4;let F:=F.same ac;let a9:f0 kp>(.tup ((k2 (kn e) (cF n x).2).map kV)):=by rw[fx];show hu
  generalize k8:(cF n x).2=y at *;generalize a6:k2 (kn e) y=kq at *;let fv:=F.kl ⋯;let hr:=F.tn.get F.nn b3 (F.rh.ux e b3) y;rw[a6] at hr;let g0:=F.tn.live F.pc F.rh.s.nn F.nn F.rh.ux;let ff:=F.tn.ints;let lk:=F.sl;let er:kp≠L:=λJ=>by rw[J,F.sh] at a9;cases a9
  let hz:=PySem.sizeLine_eq;show(λa1 N=>a1=[↑r.p,↑pd,↑L,some (.int r.most),some (.int n),↑sp,some (vO v),↑kp,some (.int (S.length:Int)),none,none,none]/\OC f0 N,?_,λly b0=>?_)
  .show(L,(by intro o u;rw[LO,en];show λJ=>nomatch J),?_);unfold oG pG;rfl';show(kvs,F.sh,λo D b1=>dX F.sh F.tn.nk ff fv b1 λH' hk a5 al bl dl=>(kvs.map (λkv=>tI kv.2),BD.of al,by rw[dA];omega,λa4 c0=>(_,rfl,by rw[g0];omega,by rw[g0],?_)));let bc:=(kF (o:=wH a4 (cH (kvs.map λkv=>tI kv.2))) c0).1;rw[oS (bc _ _ a5)];intro b u h;by_cases U:b=L
   .rw[U,F.sh] at h;rw[U,nD];show h
   .rw[WC U];show bc _ _ (hk b u h U)
  rintro⟨rfl,cw⟩;let a9:=cw _ _ a9;let ih:=cw _ _ i2;let F:=F.same cw;show(λa1 N=>∃bd us,a1=[↑r.p,↑pd,↑L,some (.int r.most),some (.int n),↑sp,some (vO v),↑kp,some (.int (S.length:Int)),↑bd,none,none]/\OC b0 N/\N bd>(.lst us)/\us.length=MO kvs (KC kvs kq),?_,λlz h8=>?_)
  .show(L,(by intro o u;rw[LO,en];show λJ=>nomatch J),?_);unfold oG pG nI DD;rfl';show(kvs,F.sh,λo D b1=>?_);let fl:∀b u,b0 b>u->b≠L->JC b0 L (.frz o (.dT kvs)) b>u:=λb u h U=>by rw[WC U];show h
   let f9:JC b0 L (.frz o (.dT kvs)) L>(.frz o (.dT kvs)):=nD;generalize JC b0 L (.frz o (.dT kvs))=F2 at *;let bl:D≠L:=λJ=>by rw[J,f9] at b1;cases b1
   let dl:b0 D=none:=by
    cases e:b0 D with
    |none=>rfl
    |some u=>rw[fl D u e bl] at b1;cases b1
   show qc (λi ys a1 H'=>∃ew,a1=[ew,↑L,↑kp]/\(∀b u,b0 b>u->b≠L->H' b>u)/\H' L>(.frz o (.dT kvs))/\ys.length=MO (kvs.take i) (KC kvs kq)/\H' D>(.lst ys)) (_,rfl,λb u h U=>?_,?_,?_,nD) (λi ys a1 H' _ ey=>by let(_,ey):=ey;show ey.2.2.1) (λi k ad a3 ys a1 H' hi ec=>?_) (λys a1 H'=>?_)
   .rw[WC (FD h dl)];show fl b u h U
   .rw[WC (Ne.symm bl)];show f9
   .unfold MO;cases KC kvs kq<;>rfl
   .rintro⟨ew,rfl,hk,a5,b9,al⟩;let l2:=(JA.mp hi).1;let iv:kvs.take (i+1)=kvs.take i++[(k,ad)]:=by rw[bB,hi];rfl
    let fn:=hk _ _ a9 er;let k5:=F.tn.ints _ (QA hi);let k1:KC kvs k>ad:=(yH F.tn.nk).mpr (QA hi);rfl';show(_,.inr (kvs,kq,kp,.inr ⟨o,a5⟩,rfl,fn,rfl),?_);cases ch:KC kvs kq with
    |none=>rw[ch] at b9;show ND (hk,a5,b9,al)
    |some a0=>
     rw[ch] at b9;let lv:ys.length<=6000:=by
      rw[b9];show FB List.countP_le_length ?_;rw[cB];omega
     let js:=F.tn.ints _ ((yH F.tn.nk).mp ch);show WD (ad,.inr (kvs,k,a3,.inr ⟨o,a5⟩,rfl,ec,k1.symm),a0,.inr (kvs,kq,kp,.inr ⟨o,a5⟩,rfl,fn,ch.symm),by rw[show ad=V.int (tI ad) from k5,show a0=V.int (tI a0) from js];rfl,?_);let bt:MO (kvs.take (i+1)) (some a0)=ys.length+if ad=a0 then 1 else 0:=by
      rw[b9,iv];unfold MO;change List.countP _ (_++_)=_;rw[List.countP_append];by_cases be:ad=a0
      .rw[iA be,List.countP_cons_of_pos (p:=λkv:!Key×V=>decide (kv.2=a0)) (a:=(k,ad)) (qA be)];rfl
      .rw[gA be,List.countP_cons_of_neg (p:=λkv:!Key×V=>decide (kv.2=a0)) (a:=(k,ad)) (by simpa using be)];rfl
     by_cases be:ad=a0
     .rw[iA be] at bt ⊢;show(al,⋯,λb u h U=>?_,?_,by rw[xA,bt];rfl)
      .rw[WC (FD h dl)];show hk b u h U
      .rw[WC (Ne.symm bl)];show a5
     .rw[gA be] at bt ⊢;show(hk,a5,bt.symm,al)
   .rintro⟨ew,rfl,hk,a5,b9,al⟩;rw[iB] at b9;rw[oS a5];show(λb u h=>?_,_,by rw[WC bl];show al,b9);by_cases U:b=L
    .rw[U,F.sh] at h;rw[U,nD];show h
    .rw[WC U];show hk b u h U
  rintro⟨bd,us,rfl,et,bt,j0⟩;let a9:=et _ _ a9;let ir:=et _ _ ih;let F:=F.same et;show(λa1 N=>∃nb:Bool,a1=[↑r.p,↑pd,↑L,some (.int r.most),some (.int n),↑sp,some (vO v),↑kp,some (.int (S.length:Int)),↑bd,some (.bl nb),none]/\OC h8 N/\(nb=true↔KC kvs kq=none\/(v≠none/\1 < us.length)),?_,λm0 c6=>?_)
  .unfold UE;rfl';show(_,.inr (kvs,kq,kp,.inl F.sh,rfl,a9,rfl),?_);cases ch:KC kvs kq with
   |none=>show WD ⟨mE,⟨λο=>.inl rfl,λο=>trivial⟩⟩
   |some a0=>
    show ND ?_;cases v with
    |none=>
     rw[show vO none=V.non from rfl,qA rfl];show ND ⟨mE,⟨nofun,λJ=>J.elim nofun λJ=>absurd rfl J.1⟩⟩
    |some j=>
     rw[HA (show ¬vO (some j)=V.non from λJ=>nomatch J)];show WD (_,.inl (_,BD.of bt,rfl),mE,⟨λJ=>.inr ⟨nofun,⋯⟩,λJ=>J.elim nofun λJ=>by have:=J.2;omega⟩)
  rintro⟨nb,rfl,ev,g3⟩;let a9:=ev _ _ a9;let g5:=ev _ _ ir;let F:=F.same ev;let hj:∀d1,Builtin.bitAnd 3 d1=d1->pJ A d1 B c6 r J l dd g c4 [(inl 0,.int 5)] made S es t n (x * pw g+b) e:=λd1 k3=>⟨F.rh,(hh d1 k3).2⟩
  obtain⟨h5,e6⟩:∃C:Hp->Addr->Prop,∀N a2,C N a2↔((nb=true/\r.most<=(S.length:Int)/\OC c6 N/\N a2>(.tup [.str "no",.int 1]))\/Af A B c6 N r J l dd g c4 S es kvs τ e y b v nb kp sp a2 [.int x,.int (x * pw g+b),.int b]):=⟨_,λο ο=>Iff.rfl⟩
  show(λa1 N=>∃a2,a1=[↑r.p,↑pd,↑L,some (.int r.most),some (.int n),↑sp,some (vO v),↑kp,some (.int (S.length:Int)),↑bd,some (.bl nb),↑a2]/\h5 N a2,?_,λm1 f1=>?_)
  .rfl';show(_,HD.of g5,_,rfl,F.ans hj hb hc hw b3 co kk kt hx ky hi (by rw[a6];show a9) g5 (by rw[a6];show g3) (by rw[a6];show j0) (λN a2 c8 c9 ca cd=>(a2,rfl,(e6 _ _).mpr (.inl (c8,c9,ca,cd)))) λN a2 c=>(a2,rfl,(e6 _ _).mpr (.inr c)))
  rintro⟨a2,rfl,ah⟩;let ah:=(e6 _ _).mp ah;show(λa1 N=>a1=[↑r.p,↑pd,↑L,some (.int r.most),some (.int n),↑sp,some (vO v),↑kp,some (.int (S.length:Int)),↑bd,some (.bl nb),↑a2]/\N=f1/\Af A B c6 f1 r J l dd g c4 S es kvs τ e y b v nb kp sp a2 [.int x,.int (x * pw g+b),.int b],?_,λm2 d2=>?_)
  .let(c8,c9,ca,cd)||ah:=ah
   .rfl';rw[c8];show WD ?_;rw[iA c9];intro ab am;let(bc,bn):=kF (o:=.tup [V.str "no",V.int 1]) am;show uh (bc _ _ cd) bn rfl (q _ _ _ _ _ _ _ _ _ (F.same (ca.trans bc)).up)
   .let h1:nb=true->(S.length:Int) < r.most:=by cases ah with|mk h=>show h
    rfl';cases nb with
    |false=>show ND ah
    |true=>
     show WD ?_;rw[gA (show ¬r.most<=(S.length:Int) by have:=h1 rfl;omega)];show ah
  rintro⟨rfl,rfl,ah⟩;let(ld,k9,c7,ck,ans,kw,eb,bm,b4,dr,dm,e9,k0):=ah;rw[a6] at b4 e9;obtain⟨ez,e7⟩:∃C:Hp->Prop,∀N,C N↔∃d O eq c5 gs,RH A B N r J l dd g c4 [(inl 0,.int 5)] k9 c7 ck/\Nx g S es (kn e) y gs c7 ck eq c5 kw/\N L>(.dT eq)/\N pd>(.dT (iD (sE ps) kq (.ref d)))/\N d>(.dK O)/\((∃p∈ps,p.q=kq/\p.d=d)\/(B d=none/\¬yG r J c7 ck d))/\(∀b:Nat,(b:Int) < pw g->(AD g S e y).getD b 0=eI O b)/\(∀b v,KC O b>v->∃i:Int,v=.int i)/\(O.length:Int)<=i/\(∀c o,c6 c>o->B c≠none->c≠L->c≠pd->N c>o)/\N kp>(.tup (kq.map kV))/\N sp>(.tup [.int x,.int (x * pw g+b),.int b])/\N a2>(.tup [.str "ok",ans]):=⟨_,λο=>Iff.rfl⟩
  let e0:=λ{p:Pw} (co:p∈ps)=>F.ow p.d (xF.mpr (.inr (p,co,rfl)));let ge:B pd≠none:=F.ow pd (cA ..);let gr:B L≠none:=F.ow L (kA _ (cA ..));let((ga,_),_):=IL (sJ.mp F.nd).2.1;let eh:=bm _ _ F.hd ge;let b5:=bm _ _ F.sh gr;show(λa1 N=>a1=[↑r.p,↑pd,↑L,some (.int r.most),some (.int n),↑sp,some (vO v),↑kp,some (.int (S.length:Int)),↑bd,some (.bl nb),↑a2]/\ez N,?_,λm3 d3=>?_)
  .cases nb with
   |false=>
    rfl';show ND ?_;let el:∃a0,KC kvs kq>a0:=by
     cases c:KC kvs kq with
     |none=>show absurd (g3.mpr (.inl c)) nofun
     |some a0=>show⟨a0,rfl⟩
    let(a0,el):=el;let(k,hk,_):=F.tn.nb.mp el;let(Z,Y,bh):=(F.pq kq).mpr ⟨k,hk⟩;let(c5,e8):=e9 (max u 0) ⋯ λs i1=>by have:=(F.tn.lt s i1).2;omega
    show (e7 _).mpr (Z.d,Z.kv,kvs,c5,_,eb,e8,b5,by rw[zr (by rw[bX];show F.pk) (by rw[<-bh];show TQ F.pk Y)];show eh,bm _ _ (F.px Z Y) (e0 Y),.inl (Z,Y,bh,rfl),F.pv Z Y e b3 y (bh.trans a6.symm),F.pi Z Y,F.pl Z Y,λc o h1 h2 ο ο=>bm c o h1 h2,b4,dr,dm)
   |true=>
    unfold lE fI pG YG tDNewK;rfl';show(L,(by intro o u;rw[LO,en];show λJ=>nomatch J),kvs,b5,λo D b1=>dX b5 F.tn.nk ff fv b1 λH' hk a5 al bl dl=>?_)
    .rw[oS a5];let c1:OC d2 (JC H' L (.dT kvs)):=λb u h=>by
      by_cases U:b=L
      .rw[U,b5] at h;rw[U,nD];show h
      .rw[WC U];show hk b u h U
     let hm:JC H' L (.dT kvs) D>(.lst ((kvs.map λkv=>tI kv.2).map V.int)):=by rw[WC bl];show al
     generalize JC H' L (.dT kvs)=G7 at *;show(kvs.map (λkv=>tI kv.2),BD.of hm,λM hn=>?_);let f5:=F.max hn;let(c5,e8):=e9 (1+M) f5.1 f5.2;let bb:=JE (d:=L) (H:=G7) (o:=.dT (iD kvs kq (.int (1+M))));let cl:JC G7 L (.dT (iD kvs kq (.int (1+M)))) L>(.dT (iD kvs kq (.int (1+M)))):=nD;show(_,.inr (kvs,kq,kp,c1 _ _ b5,rfl,c1 _ _ b4,⋯,rfl),?_);let bo:=(eb.same c1).kd (c1 _ _ b5) ((eb.same c1).nb gr) (.inr (.inl ⟨_,rfl⟩)) bb cl;generalize JC G7 L (.dT (iD kvs kq (.int (1+M))))=G8 at *;let cv:∀c o,d2 c>o->c≠L->G8 c>o:=λc o h n=>bb _ _ (c1 _ _ h) n;let ej:=cv _ _ eh ga;let f2:∀(ab:Addr) (O:Kvs),G8 ab=none->(∀b:Nat,(b:Int) < pw g->(AD g S e y).getD b 0=eI O b)->(∀b v,KC O b>v->∃i:Int,v=.int i)->(O.length:Int)<=i->∀a4,JC G8 ab (.dK []) a4=none->∃gt,qH (JC (JC G8 ab (.dK [])) a4 (.dK O)) pd (.ref kp) (.ref a4) gt/\ez gt:=λab O am h1 h2 cm a4 c0=>by
      let(ac,f3):=kF (o:=.dK []) am;let(cw,f4):=kF (o:=.dK O) c0;let c3:=ac.trans cw;let hl:B a4=none/\¬yG r J c7 ck a4:=⟨(bo.same ac).dm _ c0,(bo.same ac).ex c0⟩
      generalize JC (JC G8 ab (.dK [])) a4 (.dK O)=G9 at *;let ek:=c3 _ _ ej;let hv:=c3 _ _ (cv _ _ b4 er);show(_,.inr (sE ps,kq,kp,ek,rfl,hv,?_,rfl),?_)
      .have:=F.psl;omega
      let dy:=JE (d:=pd) (H:=G9) (o:=.dT (iD (sE ps) kq (.ref a4)));let bn:JC G9 pd (.dT (iD (sE ps) kq (.ref a4))) pd>(.dT (iD (sE ps) kq (.ref a4))):=nD;let ho:=(bo.same c3).kd ek ((bo.same c3).nb ge) (.inr (.inl ⟨_,rfl⟩)) dy bn;generalize JC G9 pd (.dT (iD (sE ps) kq (.ref a4)))=G10 at *;let dv:∀c o,d2 c>o->c≠L->c≠pd->G10 c>o:=λc o h n1 ke=>dy _ _ (c3 _ _ (cv c o h n1)) ke;let c2:∀{c vs},d2 c>(.tup vs)->c≠L/\c≠pd:=λh=>⟨uD h b5 nofun,uD h eh nofun⟩
      show (e7 _).mpr (a4,O,_,c5,_,ho,e8,dy _ _ (c3 _ _ cl) ga.symm,bn,dy _ _ f4 (uD f4 ek nofun),.inr hl,h1,h2,cm,λc o c8 c9 ca cd=>dv c o (bm c o c8 c9) ca cd,dv _ _ b4 (c2 b4).1 (c2 b4).2,dv _ _ dr (c2 dr).1 (c2 dr).2,dv _ _ dm (c2 dm).1 (c2 dm).2)
     show⟨.inr ⟨_,.inl ej⟩,λab am=>?_⟩;let(ac,f3):=kF (o:=.dK []) am;show(KC (sE ps) kq,.inr (_,kq,kp,.inl (ac _ _ ej),rfl,ac _ _ (cv _ _ b4 er),rfl),?_);cases e3:KC (sE ps) kq with
     |none=>
      show(ab,rfl,[],.inl f3,f2 ab [] am (λa3 ο=>?_) (λa3 cx h'=>by cases h') hs);let e2:kD e y=none:=by
       cases e2:kD e y with
       |none=>rfl
       |some k=>
        let(Z,Y,bh):=(F.pq kq).mpr (k,e,b3,_,(QF (F.rh.ux e b3)).mp e2,a6.symm,rfl);rw[<-bh,TQ F.pk Y] at e3;cases e3
      let hy:AD g S e y=List.replicate (pw g).toNat 0:=by unfold AD;rw[e2];rfl
      rw[hy,cX];rfl
     |some a0=>
      let(Z,Y,bh,rfl):=XS F.pk e3;show(Z.d,rfl,Z.kv,.inl (ac _ _ (cv _ _ (bm _ _ (F.px Z Y) (e0 Y)) (uD (bm _ _ (F.px Z Y) (e0 Y)) b5 nofun))),f2 ab Z.kv am (F.pv Z Y e b3 y (bh.trans a6.symm)) (F.pi Z Y) (F.pl Z Y))
  rintro⟨rfl,hd⟩;let(d,O,eq,c5,gs,ea,f8,eo,cs,b2,ed,em,ee,l3,g9,fy,g6,dn):=(e7 _).mp hd;let fb:∀{e1:Hp},e1 pd>(.dT (iD (sE ps) kq (.ref d)))->e1 kp>(.tup (kq.map kV))->tE e1 pd (.ref kp) (↑d):=λh1 h2=>.inr (_,kq,kp,.inl h1,rfl,h2,by rw[oM,iA rfl]);let lf:=mJ F.rh.gd;let g8:kn e≠2->0<=y/\y < 9:=by
   rw[fx,<-k8];show TN g2 ((F.mx m ef).2.2 x g7).1
  let(rfl,rfl,rfl)||(j,rfl,rfl,rfl):=k0
  .rw[show vO none=V.non from rfl];unfold YG DD;rfl';show(_,HD.of dn,_,rfl,rfl,?_);rw[iA rfl];show(_,HD.of dn,_,rfl,.ref d,fb cs fy,d,rfl,.inl ⟨_,.inl b2⟩,_,HD.of g6,_,rfl,KC O (inl b),.inl (O,inl b,.inl b2,rfl,rfl),?_);rw[qh ee];let(h3,e5):=F.on (e:=e) (y:=y) f8 g8 ea (by rw[a6];show cs) b2 eo (λc o h1 h2 cm e4 ο=>g9 c o h1 h2 cm e4) (by rw[a6];show ed) em ee ⋯;let fa:=em b.toNat ⋯;rw[show ((b.toNat:Nat):Int)=b by omega] at fa;show(_,_,rfl,?_);rw[qA fa];show q _ _ _ _ _ _ _ _ _ e5
  .rw[show vO (some j)=V.int j from rfl];unfold lE DD;rfl';rw[gA nofun];let kf:¬yG r J c7 ck d:=ed.elim (λ⟨p,co,_,he⟩=>ea.nb (he ▸ e0 co)) λh=>h.2;let bb:=JE (d:=d) (H:=d3) (o:=.dK (iD O (inl b) (.int j)));let cl:JC d3 d (.dK (iD O (inl b) (.int j))) d>(.dK (iD O (inl b) (.int j))):=nD;show(.ref d,fb cs fy,_,HD.of g6,_,rfl,d,rfl,JC d3 d (.dK (iD O (inl b) (.int j))),.inl (O,inl b,b2,rfl,⋯,rfl),λab am=>?_);generalize JC d3 d (.dK (iD O (inl b) (.int j)))=H8 at *;let bo:=ea.kd b2 kf (.inl ⟨_,rfl⟩) bb cl;let(bc,bn):=kF (o:=.tup [V.str "ok",V.non]) am;let c0:=Qr (kv:=O) (k:=inl b) (u:=.int j);let k4:∀a3:Nat,(a3:Int) < pw g->((AD g S e y).set b.toNat j).getD a3 0=eI (iD O (inl b) (.int j)) a3:=λa3 ec=>by
    rw[Pr,xB,List.getElem?_set];let le:=vh (y:=y) F.rh F.pc b3;by_cases c:b.toNat=a3
    .rw[iA c,iA ⋯,iA ⋯];rfl
    .rw[gA c,gA ⋯,<-xB];show em a3 ec
   let ht:∀a3 cx,KC (iD O (inl b) (.int j)) a3>cx->∃i:Int,cx=.int i:=λa3 cx h'=>by
    rw[oM] at h'
    split at h'
    .show⟨j,(yA h').symm⟩
    .show ee a3 cx h'
   let(h3,e5):=F.on (e:=e) (y:=y) f8 g8 bo (by rw[a6];show bb _ _ cs (uD cs b2 nofun)) cl (bb _ _ eo (uD eo b2 nofun)) (λc o h1 h2 cm e4 hg=>bb _ _ (g9 c o h1 h2 cm e4) hg) (by rw[a6];show ed) k4 ht ⋯;show uh (bc _ _ (bb _ _ dn (uD dn b2 nofun))) bn rfl (q _ _ _ _ _ _ _ _ _ (e5.same bc))
structure Fk (k n:Int) (dn:!(!Key)) (kvs ks:!(!Key×V)):Prop where
 i:∀y,k2 n y∈dn->KC ks (k2 k y)=KC kvs (k2 n y)
 o:∀y,k2 n y∉dn->KC ks (k2 k y)=none
 e:∀q,(∀y,q≠k2 k y)->KC ks q=KC kvs q
theorem Fk.step {k n y:Int} {J:!(!Key)} {kvs ks:!(!Key×V)} {v:V} (h:Fk k n J kvs ks) (N:KC kvs (k2 n y)>v):Fk k n (J++[k2 n y]) kvs (iD ks (k2 k y) v):=by
 show(λD F=>?_,λD F=>?_,λq L=>?_)
 .rw[oM];by_cases c:D=y
  .rw[c,iA rfl,N]
  .rw[gA λj=>c (yF j).2];let h1||h1:=jA.mp F
   .show h.i D h1
   .show absurd (yF (bA.mp h1)).2 c
 .let c:D≠y:=λj=>F (uA _ (by rw[j];show bA.mpr rfl));rw[oM,gA λj=>c (yF j).2];show h.o D λj=>F (CA _ j)
 .rw[oM,gA (L y)];show h.e q L
theorem Fk.skip {k n J y:Int} {F:!(!Key)} {kvs ks:!(!Key×V)} (h:Fk k n F kvs ks) (L:J≠n):Fk k n (F++[k2 J y]) kvs ks:=by
 show(λD j=>?_,λD j=>h.o D λN=>j (CA _ N),h.e);let h1||h1:=jA.mp j
 .show h.i D h1
 .show absurd (yF (bA.mp h1)).1.symm L
structure Fw (ps:!Pw) (dn:!(!Key)) (nw:!Pw):Prop where
 a:∀x'∈nw,∃y,x'.q=k2 1 y/\k2 0 y∈dn/\∃x∈ps,x.q=k2 0 y/\x'.kv=x.kv
 b:∀y,k2 0 y∈dn->∃x'∈nw,x'.q=k2 1 y
 k:(nw.map Pw.q).Nodup
 n:(nw.map Pw.d).Nodup
theorem Fw.step {ps J:!Pw} {N:!(!Key)} {x:Pw} {y:Int} {d:Addr} (h:Fw ps N J) (a0:x∈ps) (Z:x.q=k2 0 y) (Y:k2 0 y∉N) (hd:d∉J.map Pw.d):Fw ps (N++[k2 0 y]) (J++[(k2 1 y,d,x.kv)])/\∀w∈J,w.q≠k2 1 y:=by
 let nx:∀w∈J,w.q≠k2 1 y:=λw F j=>by
  let(L,O,D,_):=h.a w F;rw[(yF (O.symm.trans j)).2] at D;show Y D
 show⟨(λw F=>?_,λL a1=>?_,?_,?_),nx⟩
 .let q||q:=jA.mp F
  .let(L,O,D,W):=h.a w q;show(L,O,CA _ D,W)
  .rw[bA.mp q];show(y,rfl,uA _ (bA.mpr rfl),x,a0,Z,rfl)
 .let q||q:=jA.mp a1
  .let(a2,h',D):=h.b L q;show(a2,CA _ h',D)
  .show(_,uA _ (bA.mpr rfl),by rw[(yF (bA.mp q)).2])
 .rw[nA];show EA.mpr (h.k,zB .., λU h1 V h2 j=>by
   let(w,F,rfl):=aA.mp h1;rw[bA.mp h2] at j;show nx w F j)
 .rw[nA];show EA.mpr (h.n,zB .., λU h1 V h2 j=>by
   rw[bA.mp h2] at j;let j:U=d:=j;rw[j] at h1;show hd h1)
theorem Fw.skip {ps F:!Pw} {D:!(!Key)} {c y:Int} (h:Fw ps D F) (J:c≠0):Fw ps (D++[k2 c y]) F:=
 (λw L=>let ⟨j,e1,e2,e3⟩:=h.a w L;(j,e1,CA _ e2,e3),λj N=>(jA.mp N).elim (h.b j) λq=>absurd (yF (bA.mp q)).1.symm J,h.k,h.n)
theorem Fw.nk {ps j:!Pw} {D:!(!Key)} (h:Fw ps D j) (O:(ps.map Pw.q).Nodup) (N:∀x∈ps,∀y,x.q≠k2 1 y):((ps++j).map Pw.q).Nodup:=by
 rw[nA];show EA.mpr (O,h.k,λW h1 Y h2 V=>by
  let(x,J,rfl):=aA.mp h1;let(U,L,rfl):=aA.mp h2;let(y,F,_):=h.a U L;show N x J y (V.trans F))
section
variable {G0 B H H':Hp} {r:Ro} {z:Hz} {l f g:Int} {tks:!Tk} {made made':Int} {S S':!Sh} {es es':!Ho} {ps:!Pw} {ms:!Mp} {pd td md:Addr} {kvs kvs':!(!Key×V)} {τ τ':Int->Int} {u i:Int}
theorem Bk.n1 (h:Bk A G0 B H r j l f g tks made S es ps ms pd td md kvs τ u i) (O:tks.map Tk.n=[0]):(∀D∈es,kn D≠1)/\(∀x∈ps,∀y,x.q≠k2 1 y)/\∀y,KC kvs (k2 1 y)=none:=by
 let n1:∀D∈es,kn D≠1:=λD J j=>by
  let q||q:=h.ek D J
  .unfold kn at j;rw[q.1] at j;cases j
  .unfold kn at j;rw[q.1] at j;let j:D.n=1:=j;have:D.n∈(iF es).map Ho.n:=aA.mpr (D,DA.mpr ⟨J,by rw[q.1];rfl⟩,rfl);rw[h.rh.nm,O,j] at this;simp at this
 let L:∀{y k},¬Nb es (k2 1 y) k:=λ{y k} ⟨F,h0,V,_,N,_⟩=>n1 F h0 (yF N).1.symm;show(n1,λx U y j=>let ⟨k,hk⟩:=(h.pq _).mp (x,U,j);L hk,λy=>by
  cases F:KC kvs (k2 1 y) with
  |none=>rfl
  |some v=>
   let(k,hk,_):=h.tn.nb.mp F;show absurd hk L)
theorem Bk.forked {am a0:Hp} {d c8:Addr} {t:Tk} {e:Ho} {b4:!Pw} {ks:!(!Key×V)} {D N:Mp} (h:Bk A G0 B H r j l f g tks made S es ps [D] pd td md kvs τ u i) (b2:tks.map Tk.n=[0]) (bm:t∈tks) (ah:e∈es) (cd:e.k=false) (ch:e.n=0) (ca:RH A am a0 r j l f g (tks++[(1,c8,t.rs)]) [(inl 0,.int 5)] made (iE e.m S) (es++[(false,1,d,e.m)])) (hd:a0 pd>(.dT (sE (ps++b4)))) (b3:∀p∈b4,a0 p.d>(.dK p.kv)/\B p.d=none/\am p.d≠none) (a6:Fw ps (kvs.map (·.1)) b4) (co:a0 td>(.dT ks)) (hk:Fk 1 0 (kvs.map (·.1)) kvs ks) (nk:(ks.map (·.1)).Nodup) (ck:a0 md>(.dK (wF [D,N]))) (a5:a0 N.d>(.dK (vF D.xs))/\B N.d=none/\am N.d≠none/\N.n=1/\N.xs=D.xs) (nm:∀p∈b4,p.d≠N.d) (kp:∀c o,H c>o->B c≠none->am c≠none/\(c≠pd->c≠td->c≠md->a0 c>o)):
  Bk A G0 am a0 r j l f g (tks++[(1,c8,t.rs)]) made (iE e.m S) (es++[(false,1,d,e.m)]) (ps++b4) [D,N] pd td md ks τ u i:=by
 let bb:kn e=0:=by unfold kn;rw[cd];show ch
 let(n1,c6,dm):=h.n1 b2;let dl:kn ((false,1,d,e.m):Ho)=1:=rfl;let c3:(1:Int)∉es.map kn:=λq=>by
  let(W,U,F):=aA.mp q;show n1 W U F
 let al:∀{q k},Nb (es++[(false,1,d,e.m)]) q k↔Nb es q k\/∃y∈e.m,q=k2 1 y.1/\k=y.2:=λ{q k}=>by
  constructor
  .rintro⟨W,U,y,O,F,L⟩;let Y||Y:=jA.mp U
   .show .inl (W,Y,y,O,F,L)
   .rw[bA.mp Y] at O F;show .inr (y,O,F,L)
  .rintro (⟨W,U,y,O,F,L⟩|⟨y,O,F,L⟩)
   .show(W,CA _ U,y,O,F,L)
   .show(_,uA _ (bA.mpr rfl),y,O,F,L)
 let bo:∀{y:Int×Int},y∈e.m->Nb es (k2 0 y.1) y.2:=λ{y} O=>(e,ah,y,O,by rw[bb],rfl)
 let c4:∀{q k},Nb es q k->q∈kvs.map (·.1):=λcm=>aA.mpr (_,(yH h.tn.nk).mp (h.tn.nb.mpr (_,cm,rfl)),rfl);let d1:∀y,KC ks (k2 1 y)=KC kvs (k2 (kn e) y):=λy=>by
  rw[bb];by_cases c:k2 0 y∈kvs.map (·.1)
  .show hk.i y c
  .rw[hk.o y c];cases a1:KC kvs (k2 0 y) with
   |none=>rfl
   |some v=>
    let(k,a9,_):=h.tn.nb.mp a1;show absurd (c4 a9) c
 let(cx,c5,bc):=sJ.mp h.nd;let((b5,d2,d3),be,dd):=IL c5;let bd:∀{c},c∈OD pd td md [D]->B c≠none:=λa3=>h.ow _ (xF.mpr (.inl a3));let pb:∀{p},p∈ps->B p.d≠none:=λJ=>h.ow _ (xF.mpr (.inr (_,J,rfl)));let cv:∀p∈ps,a0 p.d>(.dK p.kv):=λp J=>(kp _ _ (h.px p J) (pb J)).2 (λj=>bc p J (j ▸ cA ..)) (λj=>bc p J (j ▸ kA _ (cA ..))) (λj=>bc p J (j ▸ SH));let Z:D∈[D]:=bA.mpr rfl;let cl:=(kp _ _ (h.mx D Z).1 (bd (nK Z))).2 (be D Z).1 (be D Z).2.1 (be D Z).2.2;let bl:D.n=0:=by
  have:=h.mn;rw[b2] at this;show List.head_eq_of_cons_eq this
 let c7:∀t'∈tks,t'.n=0:=λt' b1=>by
  have:t'.n∈tks.map Tk.n:=aA.mpr (t',b1,rfl);rw[b2] at this;show bA.mp this
 show(ca,h.pc.fork ah,h.tn.fork h.nn ah c3 d1 hk.e nk,λq Y k b h1 h2=>?_,λc y k a9 a3=>?_,λW U=>?_,?_,?_,.inr ?_,λt' b1=>?_,ck,?_,λm bh=>?_,λm bh t' b1 F y=>?_,hd,λp J=>?_,a6.nk h.pk c6,λq=>?_,λp J W U y F b c2=>?_,λp J=>?_,λp J=>?_,co,?_,λW U=>?_,sJ.mpr (?_,?_,λp J=>?_),λc a3=>?_,h.g0,λc o a3=>?_)
 .let ad:Nb es q k:=(al.mp h1).elim id λ⟨y,O,F,L⟩=>by
   let(a4,j):=b;have:=(yF (F.symm.trans j)).1;omega
  let c9||(y,O,F,L):=al.mp h2
  .show h.bo q Y k b ad c9
  .have:=h.bo q _ k b ad (by rw[L];show bo O);let(a4,j):=b;have:=(yF (this.trans j)).1;omega
 .let ad||(a4,O,F,L):=al.mp a9
  .show h.pr c y k ad a3
  .rw[(yF F).2];show h.pr 0 a4.1 _ (bo O) (by decide)
 .let q||q:=jA.mp U
  .show h.ek W q
  .rw[bA.mp q];show .inr ⟨rfl,.inr rfl⟩
 .rw[nA];show EA.mpr (h.nn,zB .., λb5 h1 c0 h2 j=>c3 (by rw[bA.mp h2] at j;rw[<-show b5=1 from j];show h1))
 .rw[xA,xA];have:=h.el;change es.length+1<=tks.length+1+1;omega
 .rw[nA,b2];rfl
 .let q||q:=jA.mp b1
  .show h.tl t' q
  .rw[bA.mp q];show h.tl t bm
 .rw[nA,b2];change [D.n,N.n]=[0,1];rw[bl,a5.2.2.2.1]
 .let rfl||q:=pA.mp bh
  .show⟨cl,(h.mx m Z).2⟩
  .obtain rfl:=bA.mp q;rw[a5.2.2.2.2];show⟨a5.1,(h.mx D Z).2⟩
 .let L:∀y,pm t'.rs y=if y∈D.xs then some (3,XE y) else none:=by
   let q||q:=jA.mp b1
   .show h.mt D Z t' q ((c7 t' q).trans bl.symm)
   .rw[bA.mp q];show h.mt D Z t bm ((c7 t bm).trans bl.symm)
  let rfl||q:=pA.mp bh
  .show L y
  .obtain rfl:=bA.mp q;rw[a5.2.2.2.2];show L y
 .let q||q:=jA.mp J
  .show cv p q
  .show (b3 p q).1
 .constructor
  .rintro⟨p,J,rfl⟩;let q||q:=jA.mp J
   .let(k,a9):=(h.pq _).mp (p,q,rfl);show⟨k,al.mpr (.inl a9)⟩
   .let(y,F,_,ab,h0,L,_):=a6.a p q;let(k,W,U,a4,cw,b0,a2):=(h.pq _).mp (ab,h0,L);let(b9,ac):=yF b0;obtain rfl:=NE h.nn U ah (b9.symm.trans bb.symm);show⟨k,al.mpr (.inr (a4,cw,by rw[F,ac],a2))⟩
  .rintro⟨k,a9⟩;let ad||(y,O,F,L):=al.mp a9
   .let(p,J,b0):=(h.pq q).mpr ⟨k,ad⟩;show(p,CA _ J,b0)
   .let(bt,bn,a2):=a6.b y.1 (c4 (bo O));show(bt,uA _ bn,a2.trans F.symm)
 .rw[nr];let q||q:=jA.mp J
  .let Y||Y:=jA.mp U
   .show h.pv p q W Y y F b c2
   .rw[bA.mp Y] at F;show absurd F (c6 p q y)
  .let(a4,L,_,ab,h0,b0,a2):=a6.a p q;let(z1,z2):=yF (L.symm.trans F);let Y||Y:=jA.mp U
   .show absurd z1.symm (n1 W Y)
   .rw[bA.mp Y,a2,<-z2];show h.pv ab h0 e ah a4 (by rw[bb];show b0) b c2
 .let q||q:=jA.mp J
  .show h.pi p q
  .let(a4,_,_,ab,h0,_,a2):=a6.a p q;rw[a2];show h.pi ab h0
 .let q||q:=jA.mp J
  .show h.pl p q
  .let(a4,_,_,ab,h0,_,a2):=a6.a p q;rw[a2];show h.pl ab h0
 .unfold iE;rw[dA];show h.sl
 .let q||q:=jA.mp U
  .show h.ml W q
  .rw[bA.mp q];show h.ml e ah
 .rw[nA];show EA.mpr (cx,a6.n,λb5 h1 c0 h2 j=>?_);let(x,cs,rfl):=aA.mp h1;let(bt,bn,rfl):=aA.mp h2;show pb cs (j ▸ (b3 bt bn).2.1)
 .let a1:OD pd td md [D,N]=OD pd td md [D]++[N.d]:=rfl;rw[a1];show EA.mpr (c5,zB .., λb5 h1 c0 h2 j=>bd h1 (by rw[j,bA.mp h2];show a5.2.1))
 .let a1:OD pd td md [D,N]=OD pd td md [D]++[N.d]:=rfl;rw[a1];intro j;let q||q:=jA.mp J<;>let j||j:=jA.mp j
  .show bc p q j
  .show pb q (by rw[bA.mp j];show a5.2.1)
  .show bd j (b3 p q).2.1
  .show nm p q (bA.mp j)
 .let q||(p,J,rfl):=xF.mp a3
  .let a1:OD pd td md [D,N]=OD pd td md [D]++[N.d]:=rfl;rw[a1] at q;let q||q:=jA.mp q
   .let ex:∃o,H c>o:=by
     unfold OD at q;simp only[pA,rA,EB,WA,BC] at q;let rfl||rfl||rfl||rfl:=q
     .show⟨_,h.hd⟩
     .show⟨_,h.sh⟩
     .show⟨_,h.hm⟩
     .show⟨_,(h.mx D Z).1⟩
    let(o,ho):=ex;show (kp c o ho (bd q)).1
   .rw[bA.mp q];show a5.2.2.1
  .let q||q:=jA.mp J
   .show (kp _ _ (h.px p q) (pb q)).1
   .show (b3 p q).2.2
 .let(b9,ac,c1):=h.k0 c o a3;let no:=λ(a3:c∈OD pd td md [D])=>c1 (xF.mpr (.inl a3));show((kp c o b9 ac).2 (λj=>no (j ▸ cA ..)) (λj=>no (j ▸ kA _ (cA ..))) (λj=>no (j ▸ SH)),(kp c o b9 ac).1,λj=>?_);let q||(p,J,F):=xF.mp j
  .let a1:OD pd td md [D,N]=OD pd td md [D]++[N.d]:=rfl;rw[a1] at q;let q||q:=jA.mp q
   .show no q
   .show ac (by rw[bA.mp q];show a5.2.1)
  .let q||q:=jA.mp J
   .show c1 (xF.mpr (.inr (p,q,F)))
   .show ac (by rw[<-F];show (b3 p q).2.1)
end
theorem UQ {j:!Tk} {k:Nat} (h:j.map Tk.n=[0]) (D:CI (TD (bE j)) k):k=1:=by
 let e:TD (bE j)=(j.map Tk.n).map inl:=by unfold TD bE;rw[wA,wA];rfl
 rw[e,h] at D;let c||c||c:=Nat.lt_trichotomy k 1
 .obtain rfl:k=0:=⋯;show absurd (cA ..) D.1
 .show c
 .have:=D.2 1 c;simp at this
inductive yh (A:sD) (vs:!V) (H:Hp) (Q:VK) (E:XK):Prop where
 |mk (G0 B H1:Hp) (r:Ro) (z:Hz) (l f g:Int) (tks:!Tk) (made:Int) (S:!Sh) (es:!Ho) (ps:!Pw) (pd td md:Addr) (kvs:!(!Key×V)) (τ:Int->Int) (u i:Int) (m0 m1:Mp) (_:vs=[.ref r.p,.ref pd,.ref td]) (_:Bk A G0 B H1 r z l f g tks made S es ps [m0] pd td md kvs τ u i) (_:tks.map Tk.n=[0]) (_:Kd md H1 H) (_:H md>(.dK (wF [m0,m1]))) (_:H1 m1.d>(.dK (vF m0.xs))) (_:m1.n=1) (_:m1.xs=m0.xs) (_:¬yG r z S es m1.d) (_:B m1.d=none) (_:i<=60) (_:∀B' tks' S' es' ps' kvs' H',Bk A G0 B' H' r z l f g tks' made S' es' ps' [m0,m1] pd td md kvs' τ u i->Q (.bl true) H'):yh A vs H Q E
def Wr (A:sD):Sp:=yh A
theorem Xr (T:JD K mg A):qE P w K mg base "_law_fork" 7 ["_law_rooms","_law_plain","_law_sheets"] [] (Wr A):=by
 show T.Mf.have Xd (λvs H Q f1 D=>?_) ?_
 .let(f2,B,dp,r,D,l,f,g,c9,made,S,es,ps,pd,W,bd,kvs,τ,u,i,eo,c4,rfl,_):=D;rfl
 .intro f hl hh hu s H vs Q f1 b3 D;let(f2,B,dp,r,D,l,e4,g,c9,made,S,es,ps,pd,W,bd,kvs,τ,u,i,eo,c4,rfl,L,c2,b5,ee,ed,g8,g9,et,bm,hi,q):=D;show(_,(fD (AI jB rfl (yI (lI (km rfl) rfl T.Cv aC (IC (GC 2) MC))) (SF (i:=3) Xd.nd rfl (Or.inl rfl)) (gD (yE (dF jI (pE QE (GC 3) ZC (λο ο=>rfl)) ZC (UC _)) (fD (CG (KD b3) (GC 2) (lG (IC ZC (IC (pE QE (GC 3) ZC (λο ο=>rfl)) MC))) (BE (KD b3) (GC 2) (GC 3) (λο ο=>rfl)) rfl)
   (gD (CG (KD b3) (GC 1) (lG (IC ZC (IC (pE QE (GC 3) ZC (λο ο=>rfl)) MC))) (lI mS rfl T.Gd PyProof.Rows.boot_dict (IC (BE (KD b3) (GC 1) (GC 3) (λο ο=>rfl)) MC)) rfl))) FE)))
   (gD (RD (kE (TW T) (-b3) qD (IC (VD (GC 0) T.Ac (Wq T) (-b3) qD (IC ZC MC)) (IC ZC MC)))))),?_)
  let(ht,hb,hc):=sJ.mp L.nd;let((ew,ev,ey),hj,_):=IL hb;let a5:∀{c},c∈OD pd W bd [eo]->B c≠none:=λg2=>L.ow _ (xF.mpr (.inl g2));let pb:∀{p:Pw},p∈ps->B p.d≠none:=λN=>L.ow _ (xF.mpr (.inr (_,N,rfl)));let fn:=L.rh.kd L.hm (L.rh.nb (a5 SH)) (.inl ⟨_,rfl⟩) b5 ee;let el:=b5 _ _ L.sh ey;let ge:=b5 _ _ L.hd ev;let gt:∀p∈ps,H p.d>(.dK p.kv):=λp N=>b5 _ _ (L.px p N) λD=>hc p N (D ▸ SH);let hz:=PySem.sizeLine_eq;let hm:=L.kl ⋯;let hq:=L.psl;let(n1,ez,hg):=L.n1 c2;unfold lE DD;rfl';show(kvs,el,λkl us g6 bn=>?_);let(ac,bl):=kF (o:=.lst us) g6;let bn:MG (JC H kl (.lst us)) (kvs.map (·.1)) us:=Paired.mapP bn λ_ _ ⟨a,e,h⟩=>(a,e,ac _ _ h)
  let fx:=fn.same ac;let em:=ac _ _ el;let ej:=ac _ _ ge;generalize JC H kl (.lst us)=G5 at *;let b9:∀{a:Addr} {o:HO},G5 a>o->(∀ks,o≠.dT ks)->a≠W/\a≠pd:=λho n=>⟨λD=>(by rw[D,em] at ho;show n _ (yA ho).symm),λD=>(by rw[D,ej] at ho;show n _ (yA ho).symm)⟩
  obtain⟨dr,b1⟩:∃C:Nat->!(!Key×V)->!Pw->Hp->Prop,∀j ks J O,C j ks J O↔((∀c o,G5 c>o->c≠W->c≠pd->O c>o)/\RH A B O r D l e4 g c9 [(inl 0,.int 5)] made S es/\O W>(.dT ks)/\Fk 1 0 ((kvs.map (·.1)).take j) kvs ks/\(ks.map (·.1)).Nodup/\ks.length<=kvs.length+j/\O pd>(.dT (sE (ps++J)))/\Fw ps ((kvs.map (·.1)).take j) J/\J.length<=j/\∀p∈J,O p.d>(.dK p.kv)/\B p.d=none/\¬yG r D S es p.d/\G5 p.d=none):=⟨_,λο ο ο ο=>Iff.rfl⟩
  show⟨⟨_,BD.of bl⟩,yM (K:=K) (xs:=us) (λj ca O=>∃dm ks J,ca=[↑r.p,↑pd,↑W,dm]/\dr j ks J O) (_,kvs,[],rfl,(b1 _ _ _ _).mpr (λc o h ο ο=>h,fx,em,(λy D=>(by rw[List.take_zero] at D;cases D),λy ο=>hg y,λο ο=>rfl),L.tn.nk,⋯,by rw[MB];show ej,((λο h=>by cases h),(λy D=>by rw[List.take_zero] at D;cases D),List.nodup_nil,List.nodup_nil),vA _,λο h=>by cases h)) (λj ca O _ dn=>by let(_,_,_,dn):=dn;show BD.of (((b1 _ _ _ _).mp dn.2).1 _ _ bl (b9 bl (λο D=>nomatch D)).1 (b9 bl (λο D=>nomatch D)).2)) (λj v ca O g4=>?_) (λca O=>?_)⟩
  .rintro⟨dm,ks,J,rfl,cm⟩;let(fr,a3,ab,b0,bo,g7,bc,b2,eh,Z):=(b1 _ _ _ _).mp cm;let(hv,c1,a,rfl,eb):=YW bn g4;let((he,v),h6,rfl):=aA.mp (QA c1);let c3:=(yH L.tn.nk).mpr h6;let(k,(a0,g3,F,h7,al,bh),hs):=L.tn.nb.mp c3;let al:he=k2 (kn a0) F.1:=al;subst al;let c6:=b9 eb (λο D=>nomatch D);let a4:O a>(.tup ((k2 (kn a0) F.1).map kV)):=fr _ _ eb c6.1 c6.2;let b4:(kvs.map (·.1)).take (j+1)=(kvs.map (·.1)).take j++[k2 (kn a0) F.1]:=by rw[bB,c1];rfl
   let g5:=(JA.mp c1).1;rw[dA] at g5;let stay:kn a0≠0->dr (j+1) ks J O:=λc=>(b1 _ _ _ _).mpr (fr,a3,ab,by rw[b4];show b0.skip c,bo,⋯,bc,by rw[b4];show b2.skip c,⋯,Z);rfl';by_cases a9:kn a0=2
   .let ch:(k2 (kn a0) F.1).map kV=[.str "bank",.int F.1]:=by rw[a9];rfl
    rw[ch] at a4;show(_,HD.of a4,_,rfl,rfl,?_);rw[gA nofun];show(ks,J,stay ⋯)
   .let ch:(k2 (kn a0) F.1).map kV=[.int (kn a0),.int F.1]:=by unfold k2;rw[gA a9];rfl
    rw[ch] at a4;show(_,HD.of a4,_,rfl,rfl,?_);by_cases c:kn a0=0
    .rw[c,iA rfl];rw[c] at a4 b4 c3 c1;let(Y,cx,e2):=(L.pq (k2 0 F.1)).mpr (k,a0,g3,F,h7,by rw[c],bh);let h5:KC ks (k2 0 F.1)>v:=by rw[b0.e (k2 0 F.1) λy D=>absurd (yF D).1 (by decide)];show c3
     let ec:=b2.nk L.pk ez;let gs:KC (sE (ps++J)) (k2 0 F.1)=↑Y.d:=by rw[<-e2];show TQ ec (CA _ cx)
     let h3:k2 0 F.1∉(kvs.map (·.1)).take j:=λD=>by
      let h1:((kvs.map (·.1)).take (j+1)).Nodup:=L.tn.nk.sublist (pC _ _);rw[b4,EA] at h1;show h1.2.2 _ D _ (bA.mpr rfl) rfl
     show(v,.inr (ks,k2 0 F.1,a,.inl ab,rfl,a4,h5.symm),_,HD.of a4,_,rfl,λbb h4=>?_);let(c7,f9):=kF (o:=.tup [V.int 1,V.int F.1]) h4;let ea:=a3.same c7;generalize JC O bb (.tup [V.int 1,V.int F.1])=G7 at *;show(_,.inr (ks,k2 1 F.1,bb,c7 _ _ ab,rfl,f9,⋯,rfl),?_);let en:=JE (d:=W) (H:=G7) (o:=.dT (iD ks (k2 1 F.1) v));let cl:JC G7 W (.dT (iD ks (k2 1 F.1) v)) W>(.dT (iD ks (k2 1 F.1) v)):=nD;let cs:=ea.kd (c7 _ _ ab) (ea.nb (a5 (kA _ (cA ..)))) (.inr (.inl ⟨_,rfl⟩)) en cl;generalize JC G7 W (.dT (iD ks (k2 1 F.1) v))=G8 at *;let ad:∀c o,O c>o->c≠W->G8 c>o:=λc o h n=>en _ _ (c7 _ _ h) n;let bt:=ad _ _ bc ew;let c0:=ac _ _ (gt Y cx);let ga:=ad _ _ (fr _ _ c0 (b9 c0 (λο D=>nomatch D)).1 (b9 c0 (λο D=>nomatch D)).2) (b9 c0 (λο D=>nomatch D)).1;show(.ref Y.d,.inr (_,k2 0 F.1,a,.inl bt,rfl,ad _ _ a4 c6.1,gs.symm),Y.d,rfl,Y.kv,.inl ga,λU a1=>?_);let(c8,e7):=kF (o:=.dK Y.kv) a1;let fy:=cs.same c8;let er:B U=none/\¬yG r D S es U:=⟨cs.dm _ a1,cs.ex a1⟩
     let g1:=c8 _ _ (ad _ _ a4 c6.1);let fa:G5 U=none:=by
      cases e:G5 U with
      |none=>rfl
      |some o=>
       by_cases ah:U=W
       .rw[ah,cl] at a1;cases a1
       .by_cases a9:U=pd
        .rw[a9,bt] at a1;cases a1
        .rw[ad _ _ (fr _ _ e ah a9) ah] at a1;cases a1
     let dl:∀p∈J,G8 p.d>(.dK p.kv):=λp N=>ad _ _ (Z p N).1 (uD (Z p N).1 ab nofun);let(g0,nx):=b2.step (d:=U) cx e2 h3 λD=>by
      let(p,N,e):=aA.mp D;have:=dl p N;rw[e,a1] at this;cases this
     generalize JC G8 U (.dK Y.kv)=G9 at *;show(_,HD.of g1,_,rfl,λt2 ek=>?_);let(be,f8):=kF (o:=.tup [V.int 1,V.int F.1]) ek;let e9:=fy.same be;let d1:=be _ _ (c8 _ _ bt);generalize JC G9 t2 (.tup [V.int 1,V.int F.1])=G10 at *;let hp:(sE (ps++J)).length=(sE ps).length+J.length:=by unfold sE;rw[dA,dA,xA]
     show(_,.inr (sE (ps++J),k2 1 F.1,t2,d1,rfl,f8,⋯,rfl),iD ks (k2 1 F.1) v,J++[(k2 1 F.1,U,Y.kv)],?_);let gr:iD (sE (ps++J)) (k2 1 F.1) (.ref U)=sE (ps++(J++[(k2 1 F.1,U,Y.kv)])):=by
      rw[FK,<-ZA]
      .unfold sE;rw[nA (l₁:=ps++J)];rfl
      .cases e:KC (sE (ps++J)) (k2 1 F.1) with
       |none=>rfl
       |some hx=>
        let(p,N,e3,_):=XS ec e;let a6||a6:=jA.mp N
        .show absurd e3 (ez p a6 _)
        .show absurd e3 (nx p a6)
     rw[gr];let d3:=JE (d:=pd) (H:=G10) (o:=.dT (sE (ps++(J++[(k2 1 F.1,U,Y.kv)]))));let e6:JC G10 pd (.dT (sE (ps++(J++[(k2 1 F.1,U,Y.kv)])))) pd>(.dT (sE (ps++(J++[(k2 1 F.1,U,Y.kv)])))):=nD;let fv:=e9.kd d1 (e9.nb (a5 (cA ..))) (.inr (.inl ⟨_,rfl⟩)) d3 e6;generalize JC G10 pd (.dT (sE (ps++(J++[(k2 1 F.1,U,Y.kv)]))))=G11 at *;let ck:∀c o,G8 c>o->c≠pd->G11 c>o:=λc o h n=>d3 _ _ (be _ _ (c8 _ _ h)) n;let lp:=IP ks (k2 1 F.1) v;show (b1 _ _ _ _).mpr (λc o h n1 c5=>ck _ _ (ad _ _ (fr c o h n1 c5) n1) c5,fv,ck _ _ cl ew.symm,by rw[b4];show b0.step c3,dh.2 bo,⋯,e6,by rw[b4];show g0,by rw[xA];show Nat.succ_le_succ eh,λp N=>?_);let a6||a6:=jA.mp N
     .show⟨ck _ _ (dl p a6) (uD (dl p a6) bt nofun),(Z p a6).2⟩
     .rw[bA.mp a6];show(d3 _ _ (be _ _ e7) (uD (be _ _ e7) d1 nofun),er.1,er.2,fa)
    .rw[gA (λD=>c (by injection D))];show(ks,J,stay c)
  .rintro⟨dm,ks,J,rfl,cm⟩;let(fr,a3,ab,b0,bo,g7,bc,b2,eh,Z):=(b1 _ _ _ _).mp cm;rw[<-Paired.length bn,iB] at b0 b2;rfl';let hf:(0:Int)∈c9.map Tk.n:=by rw[c2];show bA.mpr rfl
   let(t,d2,bb):=aA.mp hf;let(e,cv,al,bh,_):=L.rh.pv d2;let(f4,h1):=a3.s.me;let(cd,co,fb):=a3.rebase;let hn:=L.ml e cv;let hr:=L.sl;let ek:=L.t2;let a2:∀{c o},¬yG r D S es c->O c>o->cd c≠none:=λno h=>by rw[fb _ no,h];show λD=>nomatch D
   show(f4,_,h1,sF ∅,cd,r,D,l,e4,g,c9,_,made,S,es,0,t,e,rfl,co,L.pc,⋯,d2,bb,cv,al,bh.trans bb,⋯,⋯,λk hw d H' ff hd fl f5=>?_);obtain rfl:=UQ c2 ff;let am:∀{c o},cd c≠none->O c>o->H' c>o:=λdd h=>let ⟨_,⟨_,m2,m3,_,m5,_⟩,_,_⟩:=co.no (co.nb dd);f5 _ _ h m5 m3 m2
   let e5:∀c o,dp c>o->c≠pd->c≠W->c≠bd->O c>o:=λc o h n1 c5 ha=>fr _ _ (ac _ _ (b5 _ _ h ha)) c5 n1;let ef:=fr _ _ (ac _ _ ee) ey.symm ev.symm;let eq:c4.d≠bd:=λD=>a5 SH (D ▸ bm);let h8:c4.d≠pd:=λD=>a5 (cA ..) (D ▸ bm);let h9:c4.d≠W:=λD=>a5 (kA _ (cA ..)) (D ▸ bm);let cw:=e5 _ _ ed h8 h9 eq;let dy:=a2 (a3.nb (a5 (cA ..))) bc;let e0:=a2 (a3.nb (a5 (kA _ (cA ..)))) ab;let dv:=a2 (a3.nb (a5 SH)) ef;show(1,1,rfl,?_);rw[qA rfl];show q _ _ _ _ _ _ H' (L.forked c2 d2 cv al (bh.trans bb) fl (am dy bc) (λp N=>(am (a2 (Z p N).2.2.1 (Z p N).1) (Z p N).1,(Z p N).2.1,a2 (Z p N).2.2.1 (Z p N).1)) b2 (am e0 ab) b0 bo (am dv ef) (am (a2 et cw) cw,bm,a2 et cw,g8,g9) (λp N D=>?_) (λc o h dd=>?_))
   .let e8:=(Z p N).2.2.2;rw[D,ac _ _ (b5 _ _ ed eq)] at e8;cases e8
   .let no:=a3.nb dd;by_cases ah:c=pd
    .rw[ah];show⟨dy,λD=>absurd rfl D⟩
    .by_cases a9:c=W
     .rw[a9];show⟨e0,λο D=>absurd rfl D⟩
     .by_cases e1:c=bd
      .rw[e1];show⟨dv,λο ο D=>absurd rfl D⟩
      .let h2:=e5 c o h ah a9 e1;show⟨a2 no h2,λο ο ο=>am (a2 no h2) h2⟩
theorem zh:∀{L:!Rn} {a e:Int},jD L->a<=e->(∀x∈L,a<=x.f/\bD x<=e)->(L.length:Int)<=e - a
 |[],a,e,_,h,_=>by change (0:Int)<=_;omega
 |r::L,a,e,o,h,hb=>by
  let h1:=hb r (cA ..);let h2:=o.2 r (cA ..);let h3:=zh (L:=L) (a:=bD r) (e:=e) o.tail h1.2 (λx hx=>⟨o.head x hx,(hb x (kA _ hx)).2⟩);let h4:bD r=r.f+r.m:=rfl;rw[gB]
  push_cast
  omega
theorem Yr {rs:!Rn} {x r:Int} {t:Option (Int×Int)} (o:jD rs) (l:dE rs) (h:pm rs x=none):gF rs x 1=[]/\jD (vI rs x 1 r t)/\dE (vI rs x 1 r t)/\∀p,pm (vI rs x 1 r t) p=if p=x then some (r,t) else pm rs p:=by
 let(h1,h2,j):=Qe (parts:=[(x,1,r,t)]) (a:=x) (n:=1) o l (by decide) (CS (by change (0:Int) < 1;decide)) (λy D=>by rw[bA.mp D];show⟨QB _,QB _⟩);show((Pp o (by decide)).mpr λp h1 h2=>?_,h1,h2,λp=>?_)
 .rw[show p=x by omega];show h
 .change pm (uE rs x 1 [(x,1,r,t)]) p=_;rw[j];by_cases c:p=x
  .subst c;rw[iA ⋯,iA rfl];change (if p<=p/\p < bD (p,1,r,t) then some (r,tf (p,1,r,t) p) else none)=_;rw[iA ⟨QB _,by change p < p+1;omega⟩,show tf (p,1,r,t) p=t from eW (r:=(p,1,r,t))]
  .rw[gA ⋯,gA c]
theorem Ph {rs:!Rn} {a e:Int} (o:jD rs) (h:∀p,pm rs p≠none->a<=p/\p < e) (F:a<=e):(rs.length:Int)<=e - a:=by
 show zh o F λx j=>?_;let h0:=o.2 x j;let J:bD x=x.f+x.m:=rfl;let h1:=h x.f (by rw[cN o j (QB _) ⋯];show λD=>nomatch D);let h2:=h (bD x - 1) (by rw[cN o j ⋯ ⋯];show λD=>nomatch D);omega
theorem Zr {rs:!Rn} {x:Int} (o:jD rs) (l:dE rs) (h:pm rs x≠none):((gF rs x 1).map (·.m)).sum=1/\jD (uE rs x 1 [])/\dE (uE rs x 1 [])/\∀p,pm (uE rs x 1 []) p=if p=x then none else pm rs p:=by
 let(h1,h2,j):=Qe (parts:=[]) (a:=x) (n:=1) o l (by decide) ⟨.nil,λr D=>by simp at D⟩ (λy F=>by simp at F);show((yp o (by decide)).mpr λp a b=>by rw[show p=x by omega];show h,h1,h2,λp=>?_);rw[j];by_cases c:p=x
 .rw[iA ⋯,iA c];rfl
 .rw[gA ⋯,gA c]
structure Pu (g:Int) (S:!Sh) (es:!Ho) (ps:!Pw) (kvs:!(!Key×V)) (τ:Int->Int) (u i:Int):Prop where
 pc:PC S es
 tn:Tn S es kvs τ u
 bo:Bo es
 pr:∀c y k,Nb es (k2 c y) k->c≠2->0<=y/\y < 9
 ek:∀e∈es,(e.k=true/\e.n=0)\/(e.k=false/\(e.n=0\/e.n=1))
 nn:(es.map kn).Nodup
 pk:(ps.map Pw.q).Nodup
 pq:∀q,(∃p∈ps,p.q=q)↔∃k,Nb es q k
 pv:∀p∈ps,∀e∈es,∀y,p.q=k2 (kn e) y->∀b:Nat,(b:Int) < pw g->(AD g S e y).getD b 0=eI p.kv b
 pi:∀p∈ps,∀b v,KC p.kv b>v->∃i:Int,v=.int i
 pl:∀p∈ps,(p.kv.length:Int)<=i
 sl:(S.length:Int)<=i
 ml:∀e∈es,(e.m.length:Int)<=i
theorem VQ {es:!Ho} {e:Ho} {y k:Int} (L:(es.map kn).Nodup) (j:e∈es) (N:(e.m.map (·.1)).Nodup):Nb es (k2 (kn e) y) k↔kD e y>k:=by
 rw[QF N];constructor
 .rintro⟨O,F,U,J,D,rfl⟩;let(z1,z2):=yF D;obtain rfl:=NE L j F z1;rw[z2];show J
 .show λh=>(e,j,_,h,rfl,rfl)
section
variable {G0 B H H':Hp} {r:Ro} {z:Hz} {l f g:Int} {tks:!Tk} {made made':Int} {S S':!Sh} {es es':!Ho} {ps:!Pw} {ms:!Mp} {pd td md:Addr} {kvs kvs':!(!Key×V)} {τ τ':Int->Int} {u i:Int}
variable {ps':!Pw} {ms':!Mp} {tks':!Tk}
theorem Bk.pu (h:Bk A G0 B H r z l f g tks made S es ps ms pd td md kvs τ u i):Pu g S es ps kvs τ u i:=(h.pc,h.tn,h.bo,h.pr,h.ek,h.nn,h.pk,h.pq,h.pv,h.pi,h.pl,h.sl,h.ml)
theorem Pu.drop {D:!Key->Prop} (h:Pu g S es ps kvs τ u i) (bc:∀e∈es,(e.m.map (·.1)).Nodup) (sn:(S.map Sh.n).Nodup) (al:∀e∈es',(e.m.map (·.1)).Nodup) (bb:(S'.map Sh.n).Nodup) (ah:PC S' es') (nb:∀q k,Nb es' q k↔Nb es q k/\¬D q) (a5:∀j∈es',∃e∈es,j.k=e.k/\j.n=e.n/\j.m.length<=e.m.length) (ad:(es'.map kn).Nodup) (a1:∀s'∈S',∃s∈S,s.n=s'.n/\s.xs=s'.xs) (sl:S'.length<=S.length) (nk:(kvs'.map (·.1)).Nodup) (bd:∀q,D q->KC kvs' q=none) (be:∀q,¬D q->KC kvs' q=KC kvs q) (b4:(ps'.map Pw.q).Nodup) (W:∀p,p∈ps'↔p∈ps/\¬D p.q):Pu g S' es' ps' kvs' τ u i:=by
 show(ah,(nk,λq v=>?_,λs Y s' a2 N=>?_,λs Y=>?_),λq b5 k b h1 h2=>h.bo q b5 k b ((nb _ _).mp h1).1 ((nb _ _).mp h2).1,λc y k hk=>h.pr c y k ((nb _ _).mp hk).1,λj O=>?_,ad,b4,λq=>?_,λp U j O y N b b3=>?_,λp U=>h.pi p ((W p).mp U).1,λp U=>h.pl p ((W p).mp U).1,by have:=h.sl;omega,λj O=>?_)
 .let am:(∃e∈es',∃y∈e.m,q=k2 (kn e) y.1/\v=V.int (τ y.2))↔∃k,Nb es' q k/\v=V.int (τ k):=⟨λ⟨e,J,y,a6,N,F⟩=>(y.2,(e,J,y,a6,N,rfl),F),λ⟨k,⟨e,J,y,a6,N,F⟩,L⟩=>(e,J,y,a6,N,by rw[L,F])⟩
  rw[am];by_cases c:D q
  .rw[bd q c];show⟨nofun,λ⟨k,hk,_⟩=>absurd c ((nb _ _).mp hk).2⟩
  .rw[be q c,h.tn.nb];show⟨λ⟨k,hk,e⟩=>(k,(nb _ _).mpr ⟨hk,c⟩,e),λ⟨k,hk,e⟩=>(k,((nb _ _).mp hk).1,e)⟩
 .let(ab,h0,F,_):=a1 s Y;let(b9,h1,L,_):=a1 s' a2;rw[<-F,<-L] at N ⊢;show h.tn.inj ab h0 b9 h1 N
 .let(ab,h0,F,_):=a1 s Y;rw[<-F];show h.tn.lt ab h0
 .let(e,J,a3,a4,_):=a5 j O;rw[a3,a4];show h.ek e J
 .constructor
  .rintro⟨p,U,rfl⟩;let(h1,h2):=(W p).mp U;let(k,hk):=(h.pq _).mp (p,h1,rfl);show⟨k,(nb _ _).mpr ⟨hk,h2⟩⟩
  .rintro⟨k,hk⟩;let(h1,h2):=(nb _ _).mp hk;let(p,U,rfl):=(h.pq q).mpr ⟨k,h1⟩;show(p,(W p).mpr ⟨U,h2⟩,rfl)
 .let(h1,h2):=(W p).mp U;let(e,J,a3,a4,_):=a5 j O;let a9:kn j=kn e:=HJ a3 a4;let ac:∀k,kD j y>k↔kD e y>k:=λk=>by
   rw[<-VQ ad O (al j O),<-VQ h.nn J (bc e J),nb,a9];show⟨λZ=>Z.1,λZ=>⟨Z,by rw[<-a9,<-N];show h2⟩⟩
  let b2:AD g S' j y=AD g S e y:=by
   cases F:kD e y with
   |none=>
    let L:kD j y=none:=by
     cases L:kD j y with
     |none=>rfl
     |some k=>rw[(ac k).mp L] at F;cases F
    unfold AD;rw[F,L];rfl
   |some k=>
    let L:=(ac k).mpr F;let(s',a2,a0):=ah.liv j O _ ((QF (al j O)).mp L);let a0:s'.n=k:=a0;let(s,Y,b0,b1):=a1 s' a2;rw[WS bb a2 (by rw[a0];show L),WS sn Y (by rw[b0,a0];show F),b1]
  rw[b2];show h.pv p h1 e J y (by rw[<-a9];show N) b b3
 .let(e,J,_,_,bh):=a5 j O;have:=h.ml e J;omega
theorem Bk.of (h:Bk A G0 B H r J l f g tks made S es ps ms pd td md kvs τ u i) (D:Pu g S' es' ps' kvs' τ u i) (ab:RH A B H' r J l f g tks' [(inl 0,.int 5)] made S' es') (a9:es'.length<=tks'.length+1) (b3:tks'.map Tk.n=[0]\/tks'.map Tk.n=[0,1]) (b4:∀t∈tks',dE t.rs) (N:∀p∈ps',p∈ps) (b1:(ps'.map Pw.d).Nodup) (al:ms'.map Mp.n=tks'.map Tk.n) (b0:∀m∈ms',H' m.d>(.dK (vF m.xs))/\m.xs.Nodup/\∀x∈m.xs,0<=x/\x < 13) (am:∀m∈ms',∀t∈tks',t.n=m.n->∀y,pm t.rs y=if y∈m.xs then some (3,XE y) else none) (Y:∀m∈ms',∃O∈ms,O.d=m.d) (ah:(ms'.map Mp.d).Nodup) (ac:H' md>(.dK (wF ms'))) (hd:H' pd>(.dT (sE ps'))) (ad:H' td>(.dT kvs')) (kp:∀c o,H c>o->B c≠none->((∃kv,o=.dK kv)\/∃us,o=.lst us)->c∉OD pd td md ms->H' c>o):
  Bk A G0 B H' r J l f g tks' made S' es' ps' ms' pd td md kvs' τ u i:=by
 let(b9,b2,Z):=sJ.mp h.nd;let((a2,a3,a4),a5,b5):=IL b2;let a0:∀c,c∈OD pd td md ms'->c∈OD pd td md ms:=λc j=>by
  unfold OD at j ⊢;simp only[pA] at j ⊢;let j||j||j||j:=j
  .show .inl j
  .show .inr (.inl j)
  .show .inr (.inr (.inl j))
  .let(m,F,rfl):=aA.mp j;let(O,h0,e):=Y m F;show .inr (.inr (.inr (aA.mpr (O,h0,e))))
 let a1:∀c,c∈gH pd td md ps' ms'->c∈gH pd td md ps ms:=λc j=>xF.mpr ((xF.mp j).elim (λq=>.inl (a0 c q)) λ⟨p,L,e⟩=>.inr (p,N p L,e));show(ab,D.pc,D.tn,D.bo,D.pr,D.ek,D.nn,a9,b3,b4,ac,al,b0,am,hd,λp L=>?_,D.pk,D.pq,D.pv,D.pi,D.pl,ad,D.sl,D.ml,sJ.mpr (b1,?_,λp L J=>Z p (N p L) (a0 _ J)),λc j=>h.ow c (a1 c j),h.g0,λc o j=>?_)
 .show kp _ _ (h.px p (N p L)) (h.ow _ (xF.mpr (.inr (p,N p L,rfl)))) (.inl ⟨_,rfl⟩) (Z p (N p L))
 .let U:∀m∈ms',m.d≠pd/\m.d≠td/\m.d≠md:=λm F=>by
   let(O,h0,e):=Y m F;rw[<-e];show a5 O h0
  unfold OD;simp only[NA,pA,not_or,aA,not_exists,not_and];show((a2,a3,λm F=>(U m F).1),⟨a4,λm F=>(U m F).2.1⟩,λm F=>(U m F).2.2,ah)
 .let(a6,V,W):=h.k0 c o j;show(kp c o a6 V (.inr (h.g0 c o j)) λJ=>W (xF.mpr (.inl J)),V,λJ=>W (a1 c J))
end
def uG (ks:!(!Key)) (ps:!Pw):!Pw:=ks.foldl (λps q=>ps.filter λp=>decide (p.q≠q)) ps
theorem JJ:∀{ks:!(!Key)} {ps:!Pw},(∀p,p∈uG ks ps↔p∈ps/\p.q∉ks)/\(uG ks ps).Sublist ps/\sE (uG ks ps)=PD ks (sE ps)
 |[],ps=>(λp=>⟨λh=>⟨h,WA⟩,λh=>h.1⟩,List.Sublist.refl _,rfl)
 |q::ks,ps=>by
  let(h1,h2,h3):=JJ (ks:=ks) (ps:=ps.filter λp=>decide (p.q≠q));show(λp=>(h1 p).trans ?_,h2.trans dC,h3.trans ?_)
  .rw[DA,UA,pA,not_or,and_assoc]
  .change PD ks _=PD ks (dD (sE ps) q);congr 1;unfold sE dD;rw[gC]
   rfl
theorem eX:∀{ks:!(!Key)} {kvs:!(!Key×V)},(PD ks kvs).Sublist kvs
 |[],kvs=>List.Sublist.refl _
 |q::ks,kvs=>(eX (ks:=ks) (kvs:=dD kvs q)).trans dC
def wI (n:Int) (xs:!Int) (ms:!Mp):!Mp:=ms.map λm=>if m.n=n then {m with xs:=xs} else m
theorem fX {J:Type} {j:Mp->J} {n:Int} {xs:!Int} {D:!Mp} (F:∀m:Mp,j {m with xs:=xs}=j m):(wI n xs D).map j=D.map j:=by
 unfold wI;rw[wA];show IA λm ο=>?_;change j (if m.n=n then {m with xs:=xs} else m)=j m
 split
 .show F m
 .rfl
theorem WQ {j:!Mp} {m:Mp} (J:(j.map Mp.n).Nodup) (D:m∈j):KC (wF j) (inl m.n)=↑m.d:=by
 unfold KC wF;rw[List.find?_map];have:j.find? ((λkv:Key×V=>decide (kv.1=inl m.n)) ∘ λm=>((inl m.n:Key),V.ref m.d))>m:=by
  cases e:j.find? ((λkv:Key×V=>decide (kv.1=inl m.n)) ∘ λm=>((inl m.n:Key),V.ref m.d)) with
  |none=>show absurd (qA rfl) (uB.mp e m D)
  |some F=>
   let h1:=NB e;let h2:F.n=m.n:=kB (VA h1);rw[NE J (YA e) D h2]
 rw[this];rfl
theorem XQ {xs:!Int} {x:Int}:KC (vF xs) (inl x)=if x∈xs then some (.bl true) else none:=by
 unfold KC vF;rw[List.find?_map];by_cases c:x∈xs
 .rw[iA c];cases e:xs.find? ((λkv:Key×V=>decide (kv.1=inl x)) ∘ λx=>((inl x:Key),V.bl true)) with
  |none=>show absurd (qA rfl) (uB.mp e x c)
  |some j=>rfl
 .rw[gA c];cases e:xs.find? ((λkv:Key×V=>decide (kv.1=inl x)) ∘ λx=>((inl x:Key),V.bl true)) with
  |none=>rfl
  |some j=>
   let h1:=NB e;let h2:j=x:=kB (VA h1);show absurd (h2 ▸ YA e) c
theorem Ps {xs:!Int} {x:Int}:dD (vF xs) (inl x)=vF (xs.filter λy=>decide (y≠x)):=by
 unfold dD vF;rw[gC];congr 2;funext y;change decide (¬(inl y:Key)=inl x)=decide (y≠x);by_cases c:y=x
 .simp[c]
 .simp[c]
theorem Qs {es:!Ho} {e:Ho} {n x:Int} (W:(es.map kn).Nodup) (V:e∈es) (hk:e.k=false) (O:e.n=n) (a2:n≠2) (q:!Key) (k:Int):Nb (LD false n (e.m.filter λy=>decide (y.1≠x)) es) q k↔Nb es q k/\¬q=k2 n x:=by
 let Y:kn e=n:=by unfold kn;rw[hk];show O
 constructor
 .rintro⟨D,J,y,L,j,F⟩;let(a0,h0,(U,Z,rfl)||(U,rfl)):=SN J
  .obtain rfl:=NE W h0 V (HJ (U.trans hk.symm) (Z.trans O.symm));let(h1,h2):=DA.mp L;show⟨(a0,h0,y,h1,j,F),λN=>VA h2 (yF (j.symm.trans N)).2⟩
  .show⟨(D,h0,y,L,j,F),λN=>?_⟩;obtain rfl:=NE W h0 V ((yF (j.symm.trans N)).1.trans Y.symm);show U ⟨hk,O⟩
 .rintro⟨⟨D,J,y,L,j,F⟩,a1⟩;by_cases c:D.k=false/\D.n=n
  .obtain rfl:=NE W J V (HJ (c.1.trans hk.symm) (c.2.trans O.symm));show(_,aA.mpr (D,J,iA c),y,DA.mpr ⟨L,qA λN=>a1 (by rw[j,Y,N])⟩,j,F)
  .show(D,aA.mpr (D,J,gA c),y,L,j,F)
theorem RH.kd2 {A:sD} {B H H':Hp} {r:Ro} {D:Hz} {l f g:Int} {J:!Tk} {bk:Kvs} {made:Int} {S:!Sh} {es:!Ho} (h:RH A B H r D l f g J bk made S es) {a b:Addr} {Y Z j a0:!(!Key×V)} (N:H a>(.dT Y)) (O:H b>(.dT Z)) (U:¬yG r D S es a) (nb:¬yG r D S es b) (h1:H' a>(.dT j)) (h2:H' b>(.dT a0)) (W:a≠b) (k:∀c o,H c>o->c≠a->c≠b->H' c>o):RH A B H' r D l f g J bk made S es:=by
 let k1:=JE (d:=a) (H:=H) (o:=.dT j);let F:JC H a (.dT j) a>(.dT j):=nD;let L:=h.kd N U (.inr (.inl ⟨_,rfl⟩)) k1 F;show L.kd (k1 _ _ O W.symm) nb (.inr (.inl ⟨_,rfl⟩)) (λc o h n=>?_) h2;by_cases e:c=a
 .rw[e,F] at h;rw[e,h1];show h
 .rw[WC e] at h;show k c o h e n
theorem Bk.both {D B H:Hp} {r:Ro} {U:Hz} {l f g:Int} {O:!Tk} {made:Int} {S:!Sh} {es:!Ho} {ps:!Pw} {L:!Mp} {pd N J:Addr} {kvs:!(!Key×V)} {τ:Int->Int} {u i:Int} (h:Bk A D B H r U l f g O made S es ps L pd N J kvs τ u i) (q:!Key):KC (sE ps) q=none↔KC kvs q=none:=by
 constructor
 .intro h1;cases e:KC kvs q with
  |none=>rfl
  |some v=>
   let(k,hk,_):=h.tn.nb.mp e;let(p,j,rfl):=(h.pq q).mpr ⟨k,hk⟩;rw[TQ h.pk j] at h1;cases h1
 .intro h1;cases e:KC (sE ps) q with
  |none=>rfl
  |some v=>
   let(p,j,F,_):=XS h.pk e;let(k,hk):=(h.pq q).mp (p,j,F);rw[h.tn.nb.mpr (k,hk,rfl)] at h1;cases h1
inductive Qh (A:sD) (vs:!V) (H:Hp) (Q:VK) (E:XK):Prop where
 |mk (G0 B:Hp) (r:Ro) (z:Hz) (l f g:Int) (tks:!Tk) (made:Int) (S:!Sh) (es:!Ho) (ps:!Pw) (ms:!Mp) (pd td md:Addr) (kvs:!(!Key×V)) (τ:Int->Int) (u i n x:Int) (m:Mp) (_:vs=[.ref r.p,.ref pd,.ref td,.ref md,.int n,.int x]) (_:Bk A G0 B H r z l f g tks made S es ps ms pd td md kvs τ u i) (_:m∈ms) (_:m.n=n) (_:(0<=x/\x < 13)) (_:13<=pw (l * f)) (_:i<=60) (_:∀tks' S' es' ps' ms' kvs' H',Bk A G0 B H' r z l f g tks' made S' es' ps' ms' pd td md kvs' τ u i->ms'.length=ms.length->Q .non H'):Qh A vs H Q E
def Rh (A:sD):Sp:=Qh A
theorem YQ (T:JD K mg A):qE P w K mg base "_law_lift" 11 ["_law_rooms","_law_plain","_law_sheets","_law_mapped","_law_task","_law_page"] [] (Rh A):=by
 show T.Mg.have gp (λvs H Q dl J=>?_) ?_
 .let(f8,B,r,J,l,f,g,b1,made,S,es,ps,a5,pd,ad,b0,kvs,τ,u,i,n,x,m,rfl,_):=J;rfl
 .intro f hh hg hr s H vs Q dl ab J;let(f8,B,r,J,l,co,g,b1,made,S,es,ps,a5,pd,ad,b0,kvs,τ,u,i,n,x,m,rfl,F,U,bo,(ge,gr),hl,hi,q):=J;let c9:n∈b1.map Tk.n:=by rw[<-F.mn,<-bo];show aA.mpr (m,U,rfl)
  let(t,b4,d2):=aA.mp c9;let hn:n=0\/n=1:=by
   let q||q:=F.tk<;>rw[q] at c9<;>simp at c9
   .show .inl c9
   .show c9
  let et:(a5.map Mp.n).Nodup:=by rw[F.mn];show F.rh.h.nk
  let(h6,h7,hq):=sJ.mp F.nd;let((ew,h8,h9),ah,ee):=IL h7;let ac:∀{c},c∈OD pd ad b0 a5->B c≠none:=λg6=>F.ow _ (xF.mpr (.inl g6));let ea:pd∈OD pd ad b0 a5:=cA ..;let eb:ad∈OD pd ad b0 a5:=kA _ (cA ..);let(e,Y,c5,fv,_):=F.rh.pv b4;let c6:e.n=n:=fv.trans d2;let(he,g9,eo,hp):=F.rh.h.st t b4;let ca:∃b2,H t.p>(.ins A.Aa b2 (AH he)):=let ⟨b2,_,h1,_⟩:=g9;⟨b2,h1⟩
  let(hj,ca):=ca;let c8:=(F.mx m U).1;let hm:=F.ml e Y;let ho:=F.sl;let cx:=F.mt m U t b4 (d2.trans bo.symm);let er:kn e=n:=by unfold kn;rw[c5];show c6
  let e0:∀(c2:!Rn) (am:!Int) Z W O d1 e9,dE c2->(∀y,pm c2 y=if y∈am then some (3,XE y) else none)->am.Nodup->(∀x∈am,0<=x/\x < 13)->Pu g W O d1 e9 τ u i->RH A B Z r J l co g (ME n c2 b1) [(inl 0,.int 5)] made W O->O.length=es.length->d1.Sublist ps->Z m.d>(.dK (vF am))->(∀c o,H c>o->B c≠none->((∃kv,o=.dK kv)\/∃us,o=.lst us)->c≠m.d->c≠pd->c≠ad->Z c>o)->Z pd>(.dT (sE d1))->Z ad>(.dT e9)->Q .non Z:=λc2 am Z W O d1 e9 N a0 dn dp dr dv dy ck al dm ff fl=>by
   let e7:∀{a2},a2∈wI n am a5->(a2={m with xs:=am})\/(a2∈a5/\a2.n≠n):=λh=>by
    let(gt,h0,rfl):=aA.mp h;by_cases c:gt.n=n
    .rw[iA c,NE et h0 U (c.trans bo.symm)];show .inl rfl
    .rw[gA c];show .inr ⟨h0,c⟩
   let eq:∀{t'},t'∈ME n c2 b1->(t'.n=n/\t'.rs=c2)\/(t'∈b1/\t'.n≠n):=λh=>by
    let(hd,h0,rfl):=aA.mp h;by_cases c:hd.n=n
    .rw[iA c];show .inl ⟨c,rfl⟩
    .rw[gA c];show .inr ⟨h0,c⟩
   show q _ _ _ _ (wI n am a5) _ Z (F.of dr dv (by rw[dy];unfold ME;rw[dA];show F.el) (by rw[KS];show F.tk) (λt' e5=>?_) (λp a9=>ck.subset a9) ((ck.map _).nodup h6) (by rw[KS,fX λο=>rfl];show F.mn) (λa2 c7=>?_) (λa2 c7 t' e5 b3=>?_) (λa2 c7=>?_) (by rw[fX λο=>rfl];show ee) (by rw[show wF (wI n am a5)=wF a5 from fX λο=>rfl];show dm _ _ F.hm (ac SH) (.inl ⟨_,rfl⟩) (ah m U).2.2.symm h8.symm h9.symm) ff fl λc o h1 h2 a1 a6=>dm c o h1 h2 a1 (λJ=>a6 (J ▸ nK U)) (λJ=>a6 (J ▸ ea)) λJ=>a6 (J ▸ eb)) (by unfold wI;rw[dA])
   .let(_,fn)||(h1,_):=eq e5
    .rw[fn];show N
    .show F.tl t' h1
   .let rfl||(h1,h2):=e7 c7
    .show(al,dn,dp)
    .show⟨dm _ _ (F.mx a2 h1).1 (ac (nK h1)) (.inl ⟨_,rfl⟩) (λJ=>h2 (by rw[NE ee h1 U J];show bo)) (ah a2 h1).1 (ah a2 h1).2.1,(F.mx a2 h1).2⟩
   .let rfl||(h1,h2):=e7 c7<;>let(be,c4)||(be,c4):=eq e5
    .rw[c4];show a0
    .show absurd (b3.trans bo) c4
    .show absurd (b3.symm.trans be) h2
    .show F.mt a2 h1 t' be b3
   .let rfl||(h1,_):=e7 c7
    .show(m,U,rfl)
    .show(a2,h1,rfl)
  let bb:∀{c:Addr} {o:HO},H c>o->((∃kv,o=.dK kv)\/∃us,o=.lst us)->c≠t.p:=λh1 h2=>by
   let(_,rfl)||(_,rfl):=h2<;>show uD h1 ca nofun
  let ev:pd≠t.p:=uD F.hd ca nofun;let ey:ad≠t.p:=uD F.sh ca nofun;let e2:∀{Z:Hp},Z b0>(.dK (wF a5))->tE Z b0 (.int n) (↑m.d):=λh=>.inl (wF a5,inl n,.inl h,rfl,by rw[<-bo];show (WQ et U).symm);let(b2,h1):=F.rh.s.me;let b5:=(F.mx m U).2;let hz:=PySem.sizeLine_eq;let hs:m.xs.length<=13:=by
   let bl:=b5.1.length_le_of_subset (l₂:=(List.range 13).map λj:Nat=>(j:Int)) λy c1=>aA.mpr (y.toNat,yB.mpr (by have:=b5.2 y c1;omega),by have:=b5.2 y c1;omega);rw[dA,BB] at bl;show bl
  show(_,(gD (yE (yJ (OP (KD ab) (GC 5) (BE (KD ab) (GC 3) (GC 4) (λο ο=>rfl)))) (fD (vE (VD (GC 0) T.Ac (SQ T) (-ab) qD (IC (GC 4) (IC (GC 5) (IC ZC MC)))))
   (fD (vE (sM (BE (KD ab) (GC 3) (GC 4) (λο ο=>rfl)) (GC 5) (rfl,rfl,rfl,rfl)))
   (gD (yE (dF fM (GC 5) ZC (UC _)) (gD (vE (kE (HL T) (-ab) qD (IC (GC 1) (IC (GC 2) (IC (UJ (IC (lG (IC (GC 4) (IC (GC 5) MC))) MC)) MC)))))) FE)))) (gD (yE (dF fM (GC 5) ZC (UC _)) (fD (vE (VD (GC 0) T.Ac (Sg T) (-ab) qD (IC (GC 4) (IC (GC 5) (IC ZC (IC ZC MC))))))
   (gD (CG (KD ab) (BE (KD ab) (GC 3) (GC 4) (λο ο=>rfl)) (GC 5) xJ rfl))) (fD (vE (VD (GC 0) T.Ac (Rg T) (-ab) qD (@IC _ _ _ _ _ (GC 4) (@IC _ _ _ _ _ (GC 5) (@IC _ _ _ _ _ ZC (@IC _ _ _ _ _ ZC (@IC _ _ _ _ _ ZC (@IC _ _ _ _ _ (jE AJ (GC 5) ZC) MC rfl) rfl) rfl) rfl) rfl) rfl)))
   (gD (CG (KD ab) (BE (KD ab) (GC 3) (GC 4) (λο ο=>rfl)) (GC 5) xJ rfl))))))),?_)
  unfold nI NF lE DD;rfl';show(_,e2 F.hm,_,rfl,_,.inl (_,inl x,.inl c8,rfl,rfl),?_);rw[XQ];by_cases c:x∈m.xs
  .rw[iA c];show WD ?_;let(ed,c3,cd,dd):=Zr eo (F.tl t b4) (by rw[cx,iA c];show λJ=>nomatch J);let cv:∀y,y∈(m.xs.filter λy=>decide (y≠x))↔y∈m.xs/\y≠x:=λy=>by rw[DA,UA]
   let bt:∀y,pm (uE t.rs x 1 []) y=if y∈(m.xs.filter λy=>decide (y≠x)) then some (3,XE y) else none:=λy=>by
    rw[dd];by_cases N:y=x
    .rw[iA N,gA λJ=>((cv y).mp J).2 N]
    .rw[gA N,cx];by_cases a0:y∈m.xs
     .rw[iA a0,iA ((cv y).mpr ⟨a0,N⟩)]
     .rw[gA a0,gA λJ=>a0 ((cv y).mp J).1]
   let c0:∀y∈(m.xs.filter λy=>decide (y≠x)),0<=y/\y < 13:=λy c1=>b5.2 y ((cv y).mp c1).1;let e3:(uE t.rs x 1 []).length<=10000:=Int.ofNat_le.mp (Int.le_trans (Ph (a:=0) (e:=13) c3 (λp a9=>by
    rw[bt] at a9;by_cases N:p∈(m.xs.filter λy=>decide (y≠x))
    .show c0 p N
    .rw[gA N] at a9;show absurd rfl a9) ⋯) (show (13:Int) - 0<=((10000:Nat):Int) by omega))
   let rest:∀W O L,(x < 9->Pu g W O (uG [k2 n x] ps) (PD [k2 n x] kvs) τ u i)->(¬x < 9->Pu g W O ps kvs τ u i)->RH A B L r J l co g (ME n (uE t.rs x 1 []) b1) [(inl 0,.int 5)] made W O->O.length=es.length->(∀c o,H c>o->B c≠none->c≠t.p->L c>o)->∃f1,tE L b0 (V.int n) (some f1)/\∃a,f1=V.ref a/\pM L a/\∃kvs,L a>(HO.dK kvs)/\∃bd,V.int x=kV bd/\∃d3,KC kvs bd>d3/\if x < 9 then ∀(p:Addr),JC L a (HO.dK (dD kvs bd)) p=none->∀(ec:Addr),JC (JC L a (HO.dK (dD kvs bd))) p (HO.tup [V.int n,V.int x]) ec=none->sp_lgo [V.ref pd,V.ref ad,V.ref ec] (JC (JC (JC L a (HO.dK (dD kvs bd))) p (HO.tup [V.int n,V.int x])) ec (HO.lst [V.ref p])) (λx L=>Q V.non L) (λc x H'=>dl c none H') else Q V.non (JC L a (HO.dK (dD kvs bd))):=λW O L ha hb a4 ej e8=>by
    let bn:=e8 _ _ c8 (ac (nK U)) (bb c8 (.inl ⟨_,rfl⟩));show(_,e2 (e8 _ _ F.hm (ac SH) (bb F.hm (.inl ⟨_,rfl⟩))),_,rfl,.inl ⟨_,.inl bn⟩,_,bn,inl x,rfl,_,by rw[XQ,iA c],?_);rw[Ps];let b9:=JE (d:=m.d) (H:=L) (o:=.dK (vF (m.xs.filter λy=>decide (y≠x))));let bh:JC L m.d (.dK (vF (m.xs.filter λy=>decide (y≠x)))) m.d>(.dK (vF (m.xs.filter λy=>decide (y≠x)))):=nD;let cs:=a4.kd bn (a4.nb (ac (nK U))) (.inl ⟨_,rfl⟩) b9 bh;generalize JC L m.d (.dK (vF (m.xs.filter λy=>decide (y≠x))))=H2 at *;let cw:∀c o,H c>o->B c≠none->c≠t.p->c≠m.d->H2 c>o:=λc o h1 h2 a1 a6=>b9 _ _ (e8 c o h1 h2 a1) a6;let e4:=cw _ _ F.hd (ac ea) ev (ah m U).1.symm;let e6:=cw _ _ F.sh (ac eb) ey (ah m U).2.1.symm;let el:=b5.1.sublist (dC (p:=λy=>decide (y≠x)));by_cases al:x < 9
    .rw[iA al];intro p a9 ez g7;let(hc,fx):=kF (o:=.tup [V.int n,V.int x]) a9;let(f0,g0):=kF (o:=.lst [V.ref p]) g7;let bc:=hc.trans f0;let fy:=f0 _ _ fx;let e1:=cs.same bc;generalize JC (JC H2 p (.tup [V.int n,V.int x])) ez (.lst [V.ref p])=H4 at *;show(pd,ad,ez,sE ps,kvs,[k2 n x],[.ref p],rfl,bc _ _ e4,bc _ _ e6,g0,.cons (p,rfl,?_) .nil,ew,F.both,λZ h1 h2 fr=>?_)
     .unfold k2;rw[gA ⋯];show fy
     .let g2:=e1.kd2 (bc _ _ e4) (bc _ _ e6) (e1.nb (ac ea)) (e1.nb (ac eb)) h2 h1 ew fr;show e0 _ _ Z W O (uG [k2 n x] ps) (PD [k2 n x] kvs) cd bt el c0 (ha al) g2 ej JJ.2.1 (fr _ _ (bc _ _ bh) (ah m U).1 (ah m U).2.1) (λc o h1 h2 a1 a6 ef eh=>fr _ _ (bc _ _ (cw c o h1 h2 (bb h1 a1) a6)) ef eh) (by rw[JJ.2.2];show h2) h1
    .rw[gA al];show e0 _ _ H2 W O ps kvs cd bt el c0 (hb al) cs ej (List.Sublist.refl _) bh (λc o h1 h2 a1 a6 ef eh=>cw c o h1 h2 (bb h1 a1) a6) e4 e6
   let pu:∀{W O},(∀e∈O,(e.m.map (·.1)).Nodup)->(W.map Sh.n).Nodup->PC W O->(∀q k,Nb O q k↔Nb es q k/\¬q=k2 n x)->(∀a3∈O,∃e∈es,a3.k=e.k/\a3.n=e.n/\a3.m.length<=e.m.length)->(O.map kn).Nodup->(∀s'∈W,∃s∈S,s.n=s'.n/\s.xs=s'.xs)->W.length<=S.length->Pu g W O (uG [k2 n x] ps) (PD [k2 n x] kvs) τ u i:=λN a0 dn dp dr dv dy ck=>F.pu.drop (D:=λq=>q=k2 n x) F.rh.ux F.rh.s.nn N a0 dn dp dr dv dy ck ((eX.map _).nodup F.tn.nk) (λq h=>nh (by rw[h];show bA.mpr rfl)) (λq h=>VS λJ=>h (bA.mp J)) ((JJ.2.1.map _).nodup F.pk) λp=>by rw[JJ.1,bA]
   show(b2,_,h1,sF ∅,B,r,J,l,co,g,b1,_,made,S,es,n,x,t,e,rfl,F.rh,F.pc,b4,d2,Y,c5,c6,qA ⋯,ed,c3,e3,⋯,?_);cases cl:kD e x with
   |none=>
    show .inl ⟨rfl,λL a4 bu=>rest S es L (λο=>pu F.rh.ux F.rh.s.nn F.pc (λq k=>⟨λh=>⟨h,λJ=>?_⟩,λh=>h.1⟩) (λa3 h=>(a3,h,rfl,rfl,vA _)) F.nn (λs' h=>(s',h,rfl,rfl)) (vA _)) (λο=>F.pu) a4 rfl λc o h1 ο h2=>bu c o h1 h2⟩;rw[J,<-er,VQ F.nn Y (F.rh.ux e Y),cl] at h;cases h
   |some k=>
    let(s,en,b3):=F.pc.liv e Y _ ((QF (F.rh.ux e Y)).mp cl);let b3:s.n=k:=b3;subst b3;let g1:=(GJ F.rh.nd).nd;let un:∀a3∈es,a3.k=e.k->a3.n=e.n->a3=e:=λa3 h1 h2 a1=>NE F.nn h1 Y (HJ h2 a1);let gs:x < 9:=(F.pr n x s.n (by rw[<-er];show (VQ F.nn Y (F.rh.ux e Y)).mpr cl) ⋯).2;let em:=F.pc.gone g1 un Y (F.rh.ux e Y) F.rh.s.nn en ((QF (F.rh.ux e Y)).mp cl);let ek:=aX (e:=e) (m:=e.m.filter λy=>decide (y.1≠x)) (es:=es);rw[c5,c6] at em ek;show .inr (s,en,rfl,λL a4 fr=>rest _ _ L (λο=>pu a4.ux a4.s.nn em (Qs F.nn Y c5 c6 ⋯) (λa3 h=>?_) (by rw[ek];show F.nn) (λs' h=>?_) ?_) (λJ=>absurd gs J) a4 (by unfold LD;rw[dA]) λc o h1 h2 a1=>?_)
    .let(cm,bl,(be,c4,rfl)||(be,rfl)):=SN h
     .obtain rfl:=un cm bl (be.trans c5.symm) (c4.trans c6.symm);show(cm,bl,rfl,rfl,qB _ _)
     .show(a3,bl,rfl,rfl,vA _)
    .let(hf,ga,fa,_,fb,_):=RS h;show(hf,ga,fa.symm,fb.symm)
    .unfold dI
     split
     .unfold tF;show qB _ _
     .unfold CD;rw[dA];show vA _
    .let(_,(h3,h4,_),h5,_):=F.rh.no (F.rh.nb h2);show fr c o h1 a1 (λJ=>h5 (aA.mpr (e,Y,J.symm))) h3 h4
  .rw[gA c];show ND ?_;let g8:pm t.rs x=none:=by rw[cx,gA c]
   let laid:∀(b:Option Int) (st:Int),dG b st=XE x->(∀ch,b>ch->∃i:Int,KC ([(inl 0,.int 5)]:Kvs) (inl ch)>(.int i)/\0<=st/\st<=i - 1)->OQ A [.ref r.p,.int n,.int x,.int 1,.int 3,bV b,.int st] H (λbd L=>∃d3,tE L b0 (V.int n) (some d3)/\∃a,d3=V.ref a/\∃f2,qH L a (V.int x) (V.bl true) f2/\Q V.non f2) (λc x H'=>dl c none H'):=λb st bm g5=>by
    let(ed,c3,cd,dd):=Yr (r:=3) (t:=dG b st) eo (F.tl t b4) g8;rw[bm] at c3 cd dd;let c0:∀y∈m.xs++[x],0<=y/\y < 13:=λy c1=>(jA.mp c1).elim (b5.2 y) λh=>by rw[bA.mp h];show⟨ge,gr⟩
    let bt:∀y,pm (vI t.rs x 1 3 (XE x)) y=if y∈m.xs++[x] then some (3,XE y) else none:=λy=>by
     rw[dd];by_cases N:y=x
     .rw[iA N,iA (by rw[N];show uA _ (bA.mpr rfl)),N]
     .rw[gA N,cx];by_cases a0:y∈m.xs
      .rw[iA a0,iA (CA _ a0)]
      .rw[gA a0,gA λJ=>(jA.mp J).elim a0 λh=>N (bA.mp h)]
    let e3:(vI t.rs x 1 3 (XE x)).length<=10000:=Int.ofNat_le.mp (Int.le_trans (Ph (a:=0) (e:=13) c3 (λp a9=>by
     rw[bt] at a9;by_cases N:p∈m.xs++[x]
     .show c0 p N
     .rw[gA N] at a9;show absurd rfl a9) ⋯) (show (13:Int) - 0<=((10000:Nat):Int) by omega))
    show(B,r,J,l,co,g,b1,_,made,S,es,n,x,1,3,st,b,t,rfl,F.rh,b4,d2,qA ⋯,⟨by decide,by decide⟩,g5,ed,by rw[bm];show c3,by rw[bm];show e3,λL a4 bu=>?_);rw[bm] at a4;let bn:=bu _ _ c8 (bb c8 (.inl ⟨_,rfl⟩));show(_,e2 (bu _ _ F.hm (bb F.hm (.inl ⟨_,rfl⟩))),_,rfl,_,.inl (_,inl x,bn,rfl,by unfold vF;rw[dA];omega,rfl),?_);let cm:iD (vF m.xs) (inl x) (.bl true)=vF (m.xs++[x]):=by
     rw[FK _ (by rw[XQ,gA c])];unfold vF;rw[nA];rfl
    rw[cm];let b9:=JE (d:=m.d) (H:=L) (o:=.dK (vF (m.xs++[x])));let bh:JC L m.d (.dK (vF (m.xs++[x]))) m.d>(.dK (vF (m.xs++[x]))):=nD;let cs:=a4.kd bn (a4.nb (ac (nK U))) (.inl ⟨_,rfl⟩) b9 bh;show e0 _ (m.xs++[x]) _ S es ps kvs cd bt (EA.mpr (b5.1,zB .., λa g3 b bm J=>c (by rw[<-bA.mp bm,<-J];show g3))) c0 F.pu cs rfl (List.Sublist.refl _) bh (λc o h1 h2 a1 a6 ο ο=>b9 _ _ (bu _ _ h1 (bb h1 a1)) a6) (b9 _ _ (bu _ _ F.hd ev) (ah m U).1.symm) (b9 _ _ (bu _ _ F.sh ey) (ah m U).2.1.symm)
   by_cases al:x < 9
   .rw[iA al];show(b2,_,h1,sF ∅,laid none 0 (by unfold XE;rw[gA ⋯];rfl) (λch J=>nomatch J))
   .rw[gA al];show(b2,_,h1,sF ∅,laid (some 0) (x - 9) (by unfold XE;rw[iA ⋯];rfl) (λch g4=>by cases g4;show(5,rfl,⋯,⋯)))
theorem Th {i:Int}:GP (.int i) (.int i)=true:=WT rfl
def xI (xs:!Int):!Dv:=xs.map λi=>Dv.leaf (.int i)
theorem Uh:∀xs:!Int,vD (xI xs) (xI xs)=true/\zD (xI xs) (xI xs)=true/\ID (xI xs)=0
 |[]=>(by simp[xI,vD],by simp[xI,zD],by simp[xI,ID])
 |x::xs=>by
  let(h1,h2,h3):=Uh xs;unfold xI at h1 h2 h3 ⊢;rw[rA];show(by simp[vD,alike,h1],by simp[zD,EE,Th,h2],by simp[ID,uH,h3])
theorem Vh {H:Hp}:∀xs:!Int,rD K H (xI xs) (xs.map V.int)
 |[]=>by unfold xI rD;rfl
 |x::xs=>by
  unfold xI;rw[rA,rA];unfold rD;show(_,_,rfl,by unfold XD;show⟨rfl,rfl⟩,Vh xs)
def tJ (x:Int) (xs:!Int):!Dv:=[.leaf (.int x),.leaf (.int 3),.seq false (xI xs)]
theorem WN {H:Hp} {a c:Addr} {x:Int} {xs:!Int} (h1:H a>(.tup [.int x,.int 3,.ref c])) (h2:H c>(.lst (xs.map V.int))):XD K H (.seq true (tJ x xs)) (.ref a):=by
 unfold XD;show(a,_,rfl,by rw[iA rfl];show HD.of h1,?_);unfold tJ rD;show(_,_,rfl,by unfold XD;show⟨rfl,rfl⟩,?_);unfold rD;show(_,_,rfl,by unfold XD;show⟨rfl,rfl⟩,?_);unfold rD;show(_,_,rfl,?_,by unfold rD;rfl);unfold XD;show(c,_,rfl,by rw[gA zA];show BD.of h2,Vh xs)
def GI (ps:!(Int×!Int)):!Dv:=ps.map λp=>.seq true (tJ p.1 p.2)
def gX (H:Hp) (v:V) (p:Int×!Int):Prop:=∃a c,v=.ref a/\H a>(.tup [.int p.1,.int 3,.ref c])/\H c>(.lst (p.2.map V.int))
theorem iX {H:Hp}:∀{us:!V} {ps:!(Int×!Int)},Paired (gX H) us ps->rD K H (GI ps) us
 |_,_,.nil=>by unfold GI rD;rfl
 |_,_,.cons ⟨a,c,e,h1,h2⟩ t=>by
  unfold GI;rw[rA];unfold rD;show(_,_,rfl,by rw[e];show WN h1 h2,iX t)
theorem Wh:∀ps:!(Int×!Int),vD (GI ps) (GI ps)=true/\zD (GI ps) (GI ps)=true/\ID (GI ps)<=3
 |[]=>(by simp[GI,vD],by simp[GI,zD],by simp[GI,ID])
 |p::ps=>by
  let(h1,h2,h3):=Wh ps;let(e1,e2,e3):=Uh p.2;unfold GI at h1 h2 h3 ⊢;rw[rA];let w1:vD (tJ p.1 p.2) (tJ p.1 p.2)=true:=by simp[tJ,vD,alike,e1]
  let w2:zD (tJ p.1 p.2) (tJ p.1 p.2)=true:=by simp[tJ,zD,EE,Th,e2]
  let w3:ID (tJ p.1 p.2)<=1:=by simp[tJ,ID,uH,e3]
  show(by simp[vD,alike,w1,h1],by simp[zD,EE,w2,h2],by simp only[ID,uH];omega)
theorem Xh {α β γ:Type} {R:α->β->Prop} {S:α->γ->Prop} {f:β->γ}:∀{us:!α} {ps:!β},Paired R us ps->(∀v p,p∈ps->R v p->S v (f p))->Paired S us (ps.map f)
 |_,_,.nil,_=>.nil
 |_,_,.cons r t,k=>.cons (k _ _ (cA ..) r) (Xh t λv p hp=>k v p (kA _ hp))
theorem Yh:∀{l m:!Int},l.Pairwise (· < ·)->m.Pairwise (· < ·)->(∀x,x∈l↔x∈m)->l=m
 |[],[],_,_,_=>rfl
 |[],y::m,_,_,h=>absurd ((h y).mpr (cA ..)) WA
 |x::l,[],_,_,h=>absurd ((h x).mp (cA ..)) WA
 |x::l,y::m,hl,hm,h=>by
  let(h1,h2):=List.pairwise_cons.mp hl;let(h3,h4):=List.pairwise_cons.mp hm;let exy:x=y:=by
   let e||e:=pA.mp ((h x).mp (cA ..))
   .show e
   .have:=h3 x e;let e'||e':=pA.mp ((h y).mpr (cA ..))
    .omega
    .have:=h1 y e';omega
  subst exy;rewrite[Yh h2 h4 λz=>⟨λhz=>?_,λhz=>?_⟩];rfl
  .let e||e:=pA.mp ((h z).mp (kA _ hz))
   .have:=h1 z hz;omega
   .show e
  .let e||e:=pA.mp ((h z).mpr (kA _ hz))
   .have:=h3 z hz;omega
   .show e
theorem Zh:∀{rs:!Rn},jD rs->(xG rs).Pairwise (λa b=>a.1 < b.1)
 |[],_=>.nil
 |r::rs,o=>by
  change (FO r++xG rs).Pairwise _;show DB.mpr (?_,Zh o.tail,λa ha b hb=>?_)
  .unfold FO;show CB.mpr (List.pairwise_lt_range.imp λh=>by change r.f+_ < r.f+_;omega)
  .let(j,hj,rfl):=aA.mp ha;let hj:=yB.mp hj;let(L,hL,hb):=yC.mp hb;let(r',hr',rfl):=aA.mp hL;let(j',hj',rfl):=aA.mp hb;let h1:=o.head r' hr';let h2:bD r=r.f+r.m:=rfl;change r.f+(j:Int) < r'.f+(j':Int);omega
theorem jX {rs:!Rn} (o:jD rs) {p:Pg}:p∈xG rs↔pm rs p.1>(p.2.1,p.2.2):=by
 constructor
 .intro h;let(L,O,U):=yC.mp h;let(r,D,rfl):=aA.mp O;let(j,F,rfl):=aA.mp U;let F:=yB.mp F;show cN o D (by change r.f<=r.f+(j:Int);omega) (by change r.f+(j:Int) < r.f+r.m;omega)
 .intro h;let(r,D,h1,h2,e):=je h;injection e with J N;let h2:p.1 < r.f+r.m:=h2;show yC.mpr (_,aA.mpr (r,D,rfl),aA.mpr ((p.1 - r.f).toNat,yB.mpr ⋯,?_));rw[show r.f+((p.1 - r.f).toNat:Int)=p.1 by omega,<-J,<-N]
def oK (ps:!Pw) (q:!Key):Kvs:=((ps.find? λx=>decide (x.q=q)).map Pw.kv).getD []
def FG (ps:!Pw) (g:Int) (q:!Key):!Int:=(List.range (pw g).toNat).map λb:Nat=>eI (oK ps q) b
section
variable {G0 B H H':Hp} {r:Ro} {z:Hz} {l f g:Int} {tks:!Tk} {made made':Int} {S S':!Sh} {es es':!Ho} {ps:!Pw} {ms:!Mp} {pd td md:Addr} {kvs kvs':!(!Key×V)} {τ τ':Int->Int} {u i:Int}
theorem Bk.rowp {e:Ho} (h:Bk A G0 B H r z l f g tks made S es ps ms pd td md kvs τ u i) (j:e∈es) (y:Int):FG ps g (k2 (kn e) y)=AD g S e y:=by
 let O:=vh (y:=y) h.rh h.pc j;let V:∀b:Nat,(b:Int) < pw g->(AD g S e y).getD b 0=eI (oK ps (k2 (kn e) y)) b:=λb N=>by
  unfold oK;cases D:ps.find? λx=>decide (x.q=k2 (kn e) y) with
  |some w=>
   let h1:=NB D;show h.pv w (YA D) e j y (VA h1) b N
  |none=>
   have:kD e y=none:=by
    cases J:kD e y with
    |none=>rfl
    |some k=>
     let(x,U,L):=(h.pq _).mpr ⟨k,(VQ h.nn j (h.rh.ux e j)).mpr J⟩;show absurd (qA L) (uB.mp D _ U)
   unfold AD;rw[this];show cX
 unfold FG;show List.ext_getElem (by rw[dA,BB,O]) λb h1 h2=>?_;rw[List.getElem_map,List.getElem_range];let F:=V b ⋯;rw[xB,GA h2] at F;show F.symm
end
inductive ai (A:sD) (vs:!V) (H:Hp) (Q:VK) (E:XK):Prop where
 |mk (G0 B:Hp) (r:Ro) (z:Hz) (l f g:Int) (tks:!Tk) (made:Int) (S:!Sh) (es:!Ho) (ps:!Pw) (ms:!Mp) (pd td md:Addr) (kvs:!(!Key×V)) (τ:Int->Int) (u i:Int) (_:vs=[.ref r.p,.ref pd,.ref md,.int (pw g)]) (_:Bk A G0 B H r z l f g tks made S es ps ms pd td md kvs τ u i) (_:13<=pw (l * f)) (_:i<=100) (_:∀H',OC H H'->Q (.bl true) H'):ai A vs H Q E
def Rs (A:sD):Sp:=ai A
theorem XN (T:JD K mg A):qE P w K mg base "_law_seen" 7 ["_law_rooms","_law_plain","_law_mapped","_law_size"] [] (Rs A):=by
 show T.Mh.have nQ (λvs H Q ej F=>?_) ?_
 .let(ek,B,r,F,l,f,g,ck,made,S,es,ps,al,pd,eh,a1,kvs,τ,u,i,rfl,_):=F;rfl
 .intro f h4 gt hf s H vs Q ej a0 F;let(ek,B,r,F,l,et,g,ck,made,S,es,ps,al,pd,eh,a1,kvs,τ,u,i,rfl,J,ez,hi,q):=F;let(hc,g6,g7):=sJ.mp J.nd;let((hd,e9,he),en,h3):=IL g6;let gr:∀{c},c∈OD pd eh a1 al->B c≠none:=λc2=>J.ow _ (xF.mpr (.inl c2));let g9:(al.map Mp.n).Nodup:=by rw[J.mn];show J.rh.h.nk
  let hz:=PySem.sizeLine_eq;let h9:=mJ J.rh.gd;let c5:=J.hm;show(_,(fD (Tb (AI jB rfl (Yl (GC 2)) (SF (i:=4) nQ.nd rfl (Or.inl rfl)) (fD (ZD (i:=5) nQ.nd rfl (Or.inl rfl) (UJ MC))
   (fD (AI jB rfl (yI (fG (Wl rfl) rfl T.Mb PyProof.Rows.boot_sorted (IC (BE (KD a0) (GC 2) (GC 4) (λο ο=>rfl)) MC))) (SF (i:=6) nQ.nd rfl (Or.inl rfl)) (fD (ZD (i:=7) nQ.nd rfl (Or.inr rfl) (ZR (KD a0) (GC 1) (kE (GL T) (-a0) qD (IC (GC 4) (IC (GC 6) MC))) NI (rfl,rfl,rfl,rfl)))
   (gD (vE (TR PySem.F.plainAttrs_list PySem.F.slot_list_append PySem.F.type_list_append UR (GC 5) (IC (lG (IC (GC 6) (IC ZC (IC (PK rfl (OR rfl T.Ce (IC (GC 3) MC)) (x:="_law_box") (fs:=["_law_mine"]) (ix:=[7]) rfl rfl (λο ο ο ο ο ο=>(SF (i:=0) (show (["_law_box","_law_mine"]:!Str).Nodup by decide+kernel) rfl (Or.inl rfl))) (λο ο ο ο ο ο=>MK) (λο ο ο ο ο ο=>(ZR (KD a0) (GC 1) (GC 0) ZC (rfl,rfl,rfl,rfl)))) MC)))) MC))))))
   (gD (yE (dF (CM (n:=4) (iS a0)) (VD (GC 0) T.Ac (QQ T) (-a0) qD (IC (GC 4) MC)) (GC 5) (UC _)) (gD (RD xJ)) FE))))))
   (gD (RD xJ))),?_)
  unfold YG DD;rfl';show(a1,(by intro o u;rw[LO,c5];show λF=>nomatch F),?_);unfold WH WK;rfl';show(wF al,c5,λo=>?_);show Zl (λj W N=>∃cm co a9 ab,W=[↑r.p,↑pd,↑a1,some (.int (pw g)),cm,co,a9,ab]/\Kd a1 H N/\N a1>(.frz o (.dK (wF al)))) (_,_,_,_,rfl,JE,nD) (λj W N _ ac=>by let(_,_,_,_,ac):=ac;show ac.2.2) (λj k v W N c4=>?_) (λW N=>?_)
  .rintro⟨cm,co,a9,ab,rfl,k1,b3⟩;let(m,ah,g0):=aA.mp (QA c4);obtain rfl:inl m.n=k:=congrArg Prod.fst g0;let b4:m.n∈ck.map Tk.n:=by rw[<-J.mn];show aA.mpr (m,ah,rfl)
   let(t,c8,ef):=aA.mp b4;let fn:m.n=0\/m.n=1:=by
    let q||q:=J.tk<;>rw[q] at b4<;>simp at b4
    .show .inl b4
    .show b4
   let dp:=J.rh.kd J.hm (J.rh.nb (gr SH)) (.inl ⟨_,rfl⟩) k1 b3;let(fl,e5,bl):=J.mx m ah;let hn:m.xs.length<=13:=by
    let Z:=e5.length_le_of_subset (l₂:=(List.range 13).map λj:Nat=>(j:Int)) λy e6=>aA.mpr (y.toNat,yB.mpr (by have:=bl y e6;omega),by have:=bl y e6;omega);rw[dA,BB] at Z;show Z
   rfl';intro D bd;let(b0,d2):=kF (o:=.lst []) bd;let c6:=b0 _ _ (k1 _ _ J.hd e9);let ff:=b0 _ _ (k1 _ _ fl (en m ah).2.2);let f3:=dp.same b0;let ey:=b0 _ _ b3;let e2:∀p∈ps,JC N D (.lst []) p.d>(.dK p.kv)/\p.d≠D:=λp U=>by
    let Z:=k1 _ _ (J.px p U) (λF=>g7 p U (F ▸ SH));show⟨b0 _ _ Z,FD Z bd⟩
   let ga:pd≠D:=FD (k1 _ _ J.hd e9) bd;generalize JC N D (.lst [])=G2 at *;show(.ref m.d,.inl (wF al,inl m.n,.inr ⟨o,ey⟩,rfl,(WQ g9 ah).symm),m.d,rfl,vF m.xs,.inl ff,m.xs,by unfold vF;rw[wA];rfl,⋯,λca L dv bh g2=>?_);let(b9,d3):=kF (o:=.lst (L.map V.int)) dv;let c6:=b9 _ _ c6;let h8:=f3.same b9;let ew:=b9 _ _ d2;let e3:∀p∈ps,JC G2 ca (.lst (L.map V.int)) p.d>(.dK p.kv)/\p.d≠D:=λp U=>⟨b9 _ _ (e2 p U).1,(e2 p U).2⟩
   let g8:ca≠D:=(FD d2 dv).symm;generalize JC G2 ca (.lst (L.map V.int))=G3 at *;show⟨⟨_,BD.of d3⟩,yM (K:=K) (xs:=L.map V.int) (λj W N=>∃a9 ab us,W=[↑r.p,↑pd,↑a1,some (.int (pw g)),some (.int m.n),↑D,a9,ab]/\Kd D G3 N/\N D>(.lst us)/\Paired (λv p=>∃a c,v=.ref a/\N a>(.tup [.int p.1,.int 3,.ref c])/\N c>(.lst (p.2.map V.int))/\c≠D) us ((L.take j).map λx=>(x,FG ps g (k2 (cF m.n x).1 (cF m.n x).2)))) (_,_,[],rfl,λο ο h ο=>h,ew,.nil) (λj W N _ ac=>by let(_,_,_,ac):=ac;show BD.of (ac.2.1 _ _ d3 g8)) (λj v W cs c4=>?_) (λW cs=>?_)⟩
   .rintro⟨a9,ab,us,rfl,b5,be,a3⟩;let(x,e4,rfl):=(pB ..).symm.trans c4 |> GB.mp;let g4:=Paired.length a3;let e0:=b5 _ _ c6 ga;let f1:=bh.length_eq;rw[dA,cB] at g4;rfl';show(.inr ⟨_,.inl e0⟩,m.n,x,rfl,fn,λg5 cv a6 hb f9 bn fv=>?_);let ha:=(JA.mp e4).1;let g3:L.take (j+1)=L.take j++[x]:=by rw[bB,e4];rfl
    generalize fb:k2 (cF m.n x).1 (cF m.n x).2=kq at *;let(ec,ev):=kF (o:=.dK []) fv;let bo:=a6.trans ec;let c0:=bo _ _ be;let c2:∃c,(KC (sE ps) kq).getD (.ref bn)=.ref c/\JC cv bn (.dK []) c>(.dK (oK ps kq)):=by
     unfold oK;cases O:ps.find? λx=>decide (x.q=kq) with
     |some w=>
      let h1:=NB O;let h1:w.q=kq:=VA h1;let c9:=YA O;show(w.d,by rw[<-h1,TQ J.pk c9];rfl,bo _ _ (b5 _ _ (e3 w c9).1 (e3 w c9).2))
     |none=>
      show(bn,?_,ev);cases Y:KC (sE ps) kq with
      |none=>rfl
      |some hm=>
       let(hh,fy,a2,_):=XS J.pk Y;show absurd (qA a2) (uB.mp O _ fy)
    let f8:∀b v,KC (oK ps kq) b>v->∃i:Int,v=.int i:=by
     unfold oK;cases O:ps.find? λx=>decide (x.q=kq) with
     |some w=>show J.pi w (YA O)
     |none=>show λb v h=>by cases h
    let(c,bc,b2):=c2;show(_,.inr (sE ps,kq,g5,.inl (bo _ _ e0),rfl,ec _ _ f9,rfl),.inl (rfl,_,BD.of c0),⋯,⋯,λad bt=>?_);rw[bc];let e8:ad≠D:=(FD c0 bt).symm;generalize JC cv bn (.dK [])=G6 at *;show bU (λb ys W b1=>∃cl,W=[cl,↑c]/\OC G6 b1/\b1 ad>(.lst ys)/\ys=((List.range b).map λb:Nat=>eI (oK ps kq) b).map V.int) (_,rfl,wE mE bt,nD,rfl) (λb ys W b1 f4=>?_) (λys W b1=>?_)
    .rintro⟨cl,rfl,bb,c1,rfl⟩;rfl';show(.inl ⟨_,.inl (bb _ _ b2)⟩,_,.inl (oK ps kq,inl (0+(b:Int)),.inl (bb _ _ b2),rfl,rfl),c1,by rw[dA,dA,BB];omega,?_,?_)
     .show λcx ge h'=>by rw[WC (FD h' bt)];show bb _ _ h'
     .rw[qh f8,List.range_succ,nA,nA,Int.zero_add];rfl
    .rintro⟨cl,rfl,bb,c1,rfl⟩;intro ea fx;let(ee,dd):=kF (o:=.tup [V.int x,V.int 3,V.ref ad]) fx;let ed:=bb.trans ee;let dm:=ed _ _ c0;let f0:=ee _ _ c1;generalize JC b1 ea (.tup [V.int x,V.int 3,V.ref ad])=G8 at *;let cd:=bo.trans ed;show(us,dm,⋯,λh6 ge h' n1=>by rw[WC n1];show cd _ _ (b5 _ _ h' n1),_,rfl,?_);rw[g3,nA];show GO (lK a3 λv p ⟨a,cx,O,Y,a2,d1⟩=>(a,O,cx,by rw[WC (uD Y be nofun)];show cd _ _ Y,by rw[WC d1];show cd _ _ a2,d1)) (.cons (ea,rfl,ad,by rw[WC (uD dd dm nofun)];show dd,by
      rw[WC e8];change G8 ad>(.lst ((FG ps g (k2 (cF m.n x).1 (cF m.n x).2)).map V.int));rw[fb];show f0,e8) .nil)
   .rintro⟨a9,ab,us,rfl,b5,be,a3⟩;let f1:=bh.length_eq;rw[dA,iB] at a3;rfl';let ch:OC N cs:=λc o h=>b5 _ _ (b9 _ _ (b0 _ _ h)) (λF=>by rw[F,bd] at h;cases h);let dr:=dp.same ch;let(er,h1):=dr.s.me;let(hj,_,a5,_):=J.rh.h.st t c8;let e7:=J.mt m ah t c8 ef;let bm:∀y,pm t.rs y≠none↔y∈m.xs:=λy=>by
     rw[e7];by_cases c:y∈m.xs
     .rw[iA c];show⟨λο=>c,(λο F=>nomatch F)⟩
     .rw[gA c];show⟨λF=>absurd rfl F,λF=>absurd F c⟩
    let e1:(xG t.rs).map (·.1)=L:=by
     show Yh (CB.mpr (Zh a5)) ((g2.and (bh.nodup_iff.mpr e5)).imp λh=>by have:=h.1;have:=h.2;omega) λx=>?_;rw[bh.mem_iff,<-bm,aA];constructor
     .rintro⟨p,U,rfl⟩;rw[(jX a5).mp U];show λF=>nomatch F
     .intro h;cases e:pm t.rs x with
      |none=>show absurd e h
      |some y=>show((x,(y.1,y.2)),(jX a5).mpr e,rfl)
    let dy:∀p∈xG t.rs,p.1∈m.xs/\p.2.1=3/\p.2.2=XE p.1:=λp U=>by
     let Z:=(jX a5).mp U;let dl:=(bm p.1).mp (by rw[Z];show λF=>nomatch F);rw[e7,iA dl] at Z;injection Z with Z;injection Z with O Y;show(dl,O.symm,Y.symm)
    show(er,_,h1,sF ∅,B,r,F,l,et,g,ck,_,made,S,es,m.n,t,λp=>FG ps g (k2 (cF m.n p.1).1 (cF m.n p.1).2),rfl,dr,J.pc,c8,ef,λam c7=>?_,?_,λp U=>?_,λb hl cw a6 f4 f5 f2=>?_)
    .let h0:=a5.2 am c7;let O:bD am=am.f+am.m:=rfl;let h2:=bl _ ((bm am.f).mp (by rw[cN a5 c7 (QB _) ⋯];show λF=>nomatch F));let h7:=bl _ ((bm (bD am - 1)).mp (by rw[cN a5 c7 ⋯ ⋯];show λF=>nomatch F));omega
    .have:=congrArg List.length e1;rw[dA] at this;omega
    .let(gs,hg,eb):=dy p U;let(_,_,e,c3,_,_,_,_,_,fa,_,_,(bc,b2),_):=J.ask (b:=0) ah rfl gs (QB _) ⋯ ez hi;let a0:=J.rowp c3 (cF m.n p.1).2;rw[fa] at a0;by_cases c:p.1 < 9
     .let a4:EI m.n p=(false,(m.n,p.1)):=by unfold EI;rw[eb];unfold XE;rw[gA ⋯]
      let hk:(cF m.n p.1).2=p.1:=by unfold cF;rw[gA ⋯]
      show(e,c3,by rw[a4];show (bc c).1,by rw[a4];show (bc c).2,by rw[a4];show a0.trans (by rw[hk]))
     .let a4:EI m.n p=(true,(0,p.1 - 9)):=by unfold EI;rw[eb];unfold XE;rw[iA ⋯]
      let hk:(cF m.n p.1).2=p.1 - 9:=by unfold cF;rw[iA ⋯]
      show(e,c3,by rw[a4];show (b2 ⋯).1,by rw[a4];show (b2 ⋯).2,by rw[a4];show a0.trans (by rw[hk]))
    .let dn:=Xh (S:=gX cw) (f:=λp:Pg=>(p.1,FG ps g (k2 (cF m.n p.1).1 (cF m.n p.1).2))) f2 λv p U ⟨a,c,O,Y,a2,_⟩=>(a,c,O,by rw[(dy p U).2.1] at Y;show Y,a2)
     let g1:(xG t.rs).map (λp:Pg=>(p.1,FG ps g (k2 (cF m.n p.1).1 (cF m.n p.1).2)))=L.map λx=>(x,FG ps g (k2 (cF m.n x).1 (cF m.n x).2)):=by
      rw[<-e1,wA];rfl
     rw[g1] at dn;let a3:Paired (gX cw) us (L.map λx=>(x,FG ps g (k2 (cF m.n x).1 (cF m.n x).2))):=lK a3 λv p ⟨a,c,O,Y,a2,_⟩=>(a,c,O,a6 _ _ Y,a6 _ _ a2)
     let(eo,eq,h5):=Wh (L.map λx=>(x,FG ps g (k2 (cF m.n x).1 (cF m.n x).2)));show(false,_,_,?_,?_,eo,⋯,?_)
     .unfold XD;show(b,_,rfl,by rw[gA zA];show BD.of f5,iX dn)
     .unfold XD;show(D,_,rfl,by rw[gA zA];show BD.of (a6 _ _ be),iX a3)
     .rw[eq];show(_,rfl,ND ⟨λc o h n=>a6 _ _ (ch _ _ (k1 _ _ h n)),a6 _ _ (ch _ _ b3)⟩)
  .rintro⟨cm,co,a9,ab,rfl,k1,b3⟩;rfl';rw[Rb b3];show q _ λc o h=>?_;by_cases e:c=a1
   .rw[e,c5] at h;rw[e,nD];show h
   .rw[WC e];show k1 _ _ h e
theorem bi {α:Type} {f:α->Int} {a:Int}:∀{l:!α},l.map f=[a]->∃x,l=[x]/\f x=a
 |[x],h=>(x,rfl,List.head_eq_of_cons_eq h)
 |[],h=>by cases h
 |_::_::_,h=>by cases h
theorem two_of {α:Type} {f:α->Int} {a b:Int}:∀{l:!α},l.map f=[a,b]->∃x y,l=[x,y]/\f x=a/\f y=b
 |x::l,h=>by
  let(y,rfl,e):=bi (List.tail_eq_of_cons_eq h);show(x,y,rfl,List.head_eq_of_cons_eq h,e)
 |[],h=>by cases h
inductive ci (A:sD) (vs:!V) (H:Hp) (Q:VK) (E:XK):Prop where
 |mk (G0 B:Hp) (r:Ro) (z:Hz) (l f g:Int) (tks:!Tk) (made:Int) (S:!Sh) (es:!Ho) (ps:!Pw) (ms:!Mp) (pd td md:Addr) (kvs:!(!Key×V)) (τ:Int->Int) (u i c:Int) (_:vs=[.ref r.p,.ref pd,.ref td,.ref md,.int r.most,.int (pw g),.int c]) (_:Bk A G0 B H r z l f g tks made S es ps ms pd td md kvs τ u i) (_:0<=i) (_:i<=60) (_:13<=pw (l * f)) (_:∀B' tks' made' S' es' ps' ms' kvs' τ' u' H',Bk A G0 B' H' r z l f g tks' made' S' es' ps' ms' pd td md kvs' τ' u' (i+1)->Q (.bl true) H'):ci A vs H Q E
def YN (A:sD):Sp:=ci A
theorem ZQ (T:JD K mg A):qE P w K mg base "_law_turn" 13 ["_law_rooms","_law_plain","_law_sheets","_law_mapped","_law_most","_law_size","_law_cell"] [] (YN A):=by
 let be:=@PN P w K mg base A T;show T.Mi.have WM (λvs H Q dr L=>?_) ?_
 .let(bh,B,r,L,l,f,g,a5,made,S,es,ps,a4,pd,O,N,kvs,τ,u,i,c,rfl,_):=L;rfl
 .intro f h9 h5 hp s H vs Q dr Y L;let(bh,B,r,L,l,bn,g,a5,made,S,es,ps,a4,pd,O,N,kvs,τ,u,i,bl,rfl,F,fx,hi,e5,q):=L;let hd:=mJ F.rh.gd;show(_,(fD (ZD (i:=7) WM.nd rfl (Or.inl rfl) (kE be (-Y) qD (IC (GC 6) (IC ZC (IC ZC MC)))))
   (fD (ZD (i:=8) WM.nd rfl (Or.inl rfl) (kE be (-Y) qD (IC (GC 6) (IC ZC (IC (fG RP rfl T.Bj PySem.boot_len (IC (GC 3) MC)) MC)))))
   (fD (ZD (i:=9) WM.nd rfl (Or.inl rfl) (kE be (-Y) qD (IC (GC 6) (IC ZC (IC ZC MC)))))
   (oI (yE (PW.pt (oO (dF jI (GC 7) ZC (UC _)) (nO (dF jI (fG RP rfl T.Bj PySem.boot_len (IC (GC 3) MC)) ZC (UC _))))) (fD (CG (KD Y) (GC 3) ZC (lI mS rfl T.Gd PyProof.Rows.boot_dict (IC (BE (KD Y) (GC 3) ZC (λο ο=>rfl)) MC)) rfl)
   (gD (RD (kE (Xr T) (-Y) qD (IC (GC 0) (IC (GC 1) (IC (GC 2) MC))))))) FE)
   (oI (yE (PW.pt (oO (dF jI (GC 7) ZC (UC _)) (nO (dF jI (fG RP rfl T.Bj PySem.boot_len (IC (GC 3) MC)) ZC (UC _))))) (fD (vE (sM (GC 3) ZC (rfl,rfl,rfl,rfl)))
   (fD (vE (kE (HL T) (-Y) qD (IC (GC 1) (IC (GC 2) (IC (PK rfl (OR rfl T.Ce (IC ZC MC)) (x:="_law_k") (fs:=[]) (ix:=[]) rfl rfl (λο ο ο ο ο ο=>(SF (i:=0) (show (["_law_k"]:!Str).Nodup by decide+kernel) rfl (Or.inl rfl))) (λο ο ο ο ο ο=>MK) (λο ο ο ο ο ο=>(lG (IC ZC (IC (GC 0) MC))))) MC)))))
   (gD (RD (zI KI (VD (GC 0) T.Ac (KN T) (-Y) qD (IC ZC MC)) IG (UC _)))))) FE)
   (oI (yE (PW.pt (qK (dF fM (GC 7) ZC (UC _)) (W8 (yJ (wO (KD Y) (GC 9) (BE (KD Y) (GC 3) (GC 8) (λο ο=>rfl))))))) (fD (vE (kE (YQ T) (-Y) qD (@IC _ _ _ _ _ (GC 0) (@IC _ _ _ _ _ (GC 1) (@IC _ _ _ _ _ (GC 2) (@IC _ _ _ _ _ (GC 3) (@IC _ _ _ _ _ (GC 8) (@IC _ _ _ _ _ (GC 9) MC rfl) rfl) rfl) rfl) rfl) rfl)))
   (gD (RD xJ))) FE)
   (fD (ZD (i:=10) WM.nd rfl (Or.inl rfl) (kE be (-Y) qD (IC (GC 6) (IC ZC (IC (GC 5) MC)))))
   (fD (ZD (i:=11) WM.nd rfl (Or.inl rfl) IG)
   (oI (yE (dF gM (GC 7) ZC (UC _)) (gD (ZD (i:=11) WM.nd rfl (Or.inl rfl) (jE TJ (GC 6) (jE cM ZC ZC)))) FE)
   (gD (RD (kE (VN T) (-Y) qD (@IC _ _ _ _ _ (GC 0) (@IC _ _ _ _ _ (GC 1) (@IC _ _ _ _ _ (GC 2) (@IC _ _ _ _ _ (GC 4) (@IC _ _ _ _ _ (GC 8) (@IC _ _ _ _ _ (lG (IC (GC 9) (IC (jE KG (jE tP (GC 9) (GC 5)) (GC 10)) (IC (GC 10) MC)))) (@IC _ _ _ _ _ (GC 11) MC rfl) rfl) rfl) rfl) rfl) rfl) rfl))))))))))))),?_)
  unfold sp_part;rfl';intro c3 dv hg hh dn;let g2:(wF a4).length=a5.length:=by
   have:=congrArg List.length F.mn;rw[dA,dA] at this;unfold wF;rw[dA,this]
  let hf:a5.length=1\/a5.length=2:=by
   let h||h:=F.tk<;>have:=congrArg List.length h<;>rw[dA] at this<;>simp at this<;>omega
  show(wF a4,dn _ _ F.hm,⋯,λZ h6 hj hl er a1 dy g5 g6 et=>?_);let F:=F.same (dn.trans (er.trans et));let b0:∃m∈a4,m.n=Z:=by
   have:Z∈a4.map Mp.n:=by
    rw[F.mn];let h||h:=F.tk<;>let e:=congrArg List.length h<;>rw[dA] at e<;>simp at e<;>rw[h]
    .rw[show Z=0 by omega];show cA ..
    .let h||h:=(show Z=0\/Z=1 by omega)<;>rw[h]
     .show cA ..
     .show kA _ (cA ..)
   show aA.mp this
  let(m,b0,ck):=b0;clear dn er et;let hz:=PySem.sizeLine_eq;let(gr,gs,ho):=sJ.mp F.nd;let((em,el,en),c5,h8):=IL gs;let ac:∀{c},c∈OD pd O N a4->B c≠none:=λfv=>F.ow _ (xF.mpr (.inl fv));let dd:(a4.map Mp.n).Nodup:=by rw[F.mn];show F.rh.h.nk
  show(λa3 U=>a3=[↑r.p,↑pd,↑O,↑N,some (.int r.most),some (.int (pw g)),some (.int bl),some (.int c3),some (.int Z),some (.int a1),none,none]/\U=dy,?_,λhu b4=>?_)
  .unfold lE DD;rfl';show rH (λf3=>(_,F.hm,rH (λf4=>?_) λο=>trivial)) λο=>trivial;let bc:a5.map Tk.n=[0]:=F.tk.resolve_right λh=>by
    have:=congrArg List.length h;rw[dA] at this;simp at this;omega
   let(J,rfl,h0):=bi (F.mn.trans bc);let a2:J∈[J]:=bA.mpr rfl;let fy:=(F.mx J a2).1;show(.ref J.d,.inl (wF [J],inl 0,.inl F.hm,rfl,by rw[<-h0];show (WQ dd a2).symm),J.d,rfl,vF J.xs,.inl fy,λb1 ch=>?_);let(gt,bo):=kF (o:=.dK (vF J.xs)) ch;let e8:=F.same gt;let ek:B b1=none/\¬yG r L S es b1:=⟨F.rh.dm _ ch,F.rh.ex ch⟩
   generalize JC dy b1 (.dK (vF J.xs))=ah at *;show(_,.inl (wF [J],inl 1,e8.hm,rfl,⋯,rfl),?_);let c7:iD (wF [J]) (inl 1) (.ref b1)=wF [J,(1,b1,J.xs)]:=by
    rw[qL (by unfold TD wF;simp[h0])]
    rfl
   rw[c7];show(bh,B,ah,r,L,l,bn,g,a5,made,S,es,ps,pd,O,N,kvs,τ,u,i,J,(1,b1,J.xs),rfl,e8,bc,JE,nD,bo,rfl,rfl,ek.2,ek.1,hi,λew h4 e0 e1 eq ef H' h=>q _ _ _ _ _ _ _ _ _ _ H' h.up)
  rintro⟨rfl,rfl⟩;show(λa3 U=>a3=[↑r.p,↑pd,↑O,↑N,some (.int r.most),some (.int (pw g)),some (.int bl),some (.int c3),some (.int Z),some (.int a1),none,none]/\U=b4,?_,λhv ah=>?_)
  .unfold NF;rfl';show rH (λf3=>(_,F.hm,rH (λf4=>?_) λο=>trivial)) λο=>trivial;let bc:a5.map Tk.n=[0,1]:=F.tk.resolve_left λh=>by
    have:=congrArg List.length h;rw[dA] at this;simp at this;omega
   let(J,ab,rfl,h0,h1):=two_of (F.mn.trans bc);let(b2,b3,rfl,cm,co):=two_of bc;let a2:J∈[J,ab]:=cA ..;let g9:ab∈[J,ab]:=kA _ (cA ..);let ev:b3∈[b2,b3]:=kA _ (cA ..);show(.inl ⟨_,.inl F.hm⟩,wF [J,ab],F.hm,inl 1,rfl,_,by rw[<-h1];show WQ dd g9,?_);let c7:dD (wF [J,ab]) (inl 1)=wF [J]:=by unfold dD wF;simp[h0,h1]
   rw[c7];let k5:=JE (d:=N) (H:=b4) (o:=.dK (wF [J]));let bo:JC b4 N (.dK (wF [J])) N>(.dK (wF [J])):=nD;let ff:=F.rh.kd F.hm (F.rh.nb (ac SH)) (.inl ⟨_,rfl⟩) k5 bo;generalize JC b4 N (.dK (wF [J]))=ah at *;intro D e9;obtain⟨ks,cd⟩:∃ks,ks=(List.range 9).map λk:Nat=>k2 1 (k:Int):=⟨_,rfl⟩
   show bU (λj ys a3 U=>∃dp,a3=[dp]/\OC ah U/\U D>(.lst ys)/\MG U ((List.range j).map λk:Nat=>k2 1 (k:Int)) ys) (_,rfl,wE mE e9,nD,.nil) (λj ys a3 U hc=>?_) (λys a3 U=>?_)
   .rintro⟨dp,rfl,ad,bt,b9⟩;let g8:=Paired.length b9;rw[dA,BB] at g8;rfl';intro p a9;let(bd,e4):=kF (o:=.tup [V.int 1,V.int (0+(j:Int))]) a9;let ea:=bd _ _ bt;rw[Int.zero_add] at *;show(ea,⋯,λc o h=>by rw[WC (FD h e9)];show bd _ _ (ad _ _ h),?_);rw[List.range_succ,nA];show GO (Paired.mapP b9 λ_ _ ⟨a,e,h⟩=>(a,e,by rw[WC (uD h bt nofun)];show bd _ _ h)) (.cons (p,rfl,by rw[WC (uD e4 ea nofun)];show e4) .nil)
   .rintro⟨dp,rfl,ad,bt,b9⟩;rw[<-cd] at b9;let dl:pd∈OD pd O N [J,ab]:=cA ..;let dm:O∈OD pd O N [J,ab]:=kA _ (cA ..);let eb:=ad _ _ (k5 _ _ F.hd el);let ed:=ad _ _ (k5 _ _ F.sh en);let ca:=ff.same ad;show(pd,O,D,sE ps,kvs,ks,ys,rfl,eb,ed,bt,b9,em,F.both,λc4 e6 e7 fr=>?_);let am:=ca.kd2 eb ed (ca.nb (ac dl)) (ca.nb (ac dm)) e7 e6 em fr;let(e,a6,bm,al,_):=F.rh.pv ev;let al:e.n=1:=al.trans co;let(f5,g1):=am.s.me;let g2:=F.ml e a6;let he:=F.sl;show(f5,_,g1,sF ∅,B,r,L,l,bn,g,[b2,b3],_,made,S,es,1,b3,e,rfl,am,F.pc,ev,co,a6,bm,al,⋯,⋯,λb5 c0 e3=>?_);change Q (.bl (decide (V.non=V.non))) b5;rw[qA rfl];let f9:DG 1 [b2,b3]=[b2]:=by unfold DG;simp[cm,co]
    rw[f9] at c0;let c2:∀{a0},a0∈OE 1 es↔a0∈es/\kn a0≠1:=λ{a0}=>by
     unfold OE kn;rw[DA,UA];show and_congr_right λο=>not_congr ?_;cases a0.k
     .show⟨λL=>L.2,λL=>⟨rfl,L⟩⟩
     .show⟨λL=>absurd L.1.symm zA,λL=>absurd L (show ¬(2:Int)=1 by decide)⟩
    let ee:∀y,(∃k,Nb es (k2 1 y) k)->k2 1 y∈ks:=λy ⟨k,hk⟩=>by
     let(hs,ht):=F.pr 1 y k hk (by decide);rw[cd];show aA.mpr (y.toNat,yB.mpr ⋯,by rw[show ((y.toNat:Nat):Int)=y by omega])
    let eo:∀q,q∈ks->∃y,q=k2 1 y:=λq ec=>by
     rw[cd] at ec;let(j,_,e):=aA.mp ec;show⟨j,e.symm⟩
    let g3:Pu g (uF e.m S) (OE 1 es) (uG ks ps) (PD ks kvs) τ u i:=by
     show F.pu.drop (D:=λq=>∃y,q=k2 1 y) F.rh.ux F.rh.s.nn c0.ux c0.s.nn (F.pc.out (GJ F.rh.nd).nd (λa0 h1 h2 fb=>NE F.nn h1 a6 (HJ (h2.trans bm.symm) (fb.trans al.symm))) a6 bm al) (λq k=>?_) (λa0 h=>(a0,(c2.mp h).1,rfl,rfl,vA _)) ((List.filter_sublist.map _).nodup F.nn) (λs' h=>?_) (List.length_filterMap_le ..) ((eX.map _).nodup F.tn.nk) (λq h=>?_) (λq h=>VS λL=>h (eo q L)) ((JJ.2.1.map _).nodup F.pk) λp=>?_
     .constructor
      .rintro⟨a0,c1,y,cs,W,c6⟩;show⟨(a0,(c2.mp c1).1,y,cs,W,c6),λ⟨hr,f8⟩=>(c2.mp c1).2 (yF (W.symm.trans f8)).1⟩
      .rintro⟨⟨a0,c1,y,cs,W,c6⟩,h⟩;show(a0,c2.mpr ⟨c1,λL=>h ⟨y.1,by rw[W,L]⟩⟩,y,cs,W,c6)
     .let(s,g4,W,_):=LQ h;show(s,g4,by rw[W],by rw[W])
     .let(y,rfl):=h;by_cases c:k2 1 y∈ks
      .show nh c
      .rw[VS c];cases W:KC kvs (k2 1 y) with
       |none=>rfl
       |some v=>
        let(k,hk,_):=F.tn.nb.mp W;show absurd (ee y ⟨k,hk⟩) c
     .rw[JJ.1];show and_congr_right λa9=>not_congr ⟨eo _,λ⟨y,W⟩=>?_⟩;rw[W];show ee y ((F.pq _).mp (p,a9,W))
    let e2:∀c o,b4 c>o->B c≠none->c≠N->c≠pd->c≠O->b5 c>o:=λc o h d3 n1 ga ge=>by
     let(_,(cv,cw,cx,_,d1,_),d2,_):=am.no (am.nb d3);show e3 _ _ (fr _ _ (ad _ _ (k5 _ _ h n1)) ga ge) d1 cx cv cw λL=>d2 (aA.mpr (e,a6,L.symm))
    let c8:∀{c o},c4 c>o->B c≠none->b5 c>o:=λh d3=>by
     let(_,(cv,cw,cx,_,d1,_),d2,_):=am.no (am.nb d3);show e3 _ _ h d1 cx cv cw λL=>d2 (aA.mpr (e,a6,L.symm))
    let ha:(OE 1 es).length < es.length:=by
     unfold OE;show List.length_filter_lt_length_iff_exists.mpr (e,a6,by simp[bm,al])
    let hb:=F.el;let g0:=e2 _ _ (F.mx J a2).1 (ac (nK a2)) (c5 J a2).2.2 (c5 J a2).1 (c5 J a2).2.1;show q _ _ _ _ _ _ [J] _ _ _ b5 (Bk.up (F.of g3 c0 (by change _<=1+1;have:[b2,b3].length=2:=rfl;omega) (.inl (by rw[rA,cm];rfl)) (λt' cl=>F.tl t' (pA.mpr (.inl (bA.mp cl)))) (λp a9=>((JJ.1 p).mp a9).1) ((JJ.2.1.map _).nodup gr) (by rw[rA,rA,h0,cm];rfl) (λej bb=>?_) (λej bb t' cl=>?_) (λej bb=>(J,a2,by rw[bA.mp bb])) (zB ..) (c8 (fr _ _ (ad _ _ bo) el.symm en.symm) (ac SH)) (by rw[JJ.2.2];show c8 e7 (ac dl)) (c8 e6 (ac dm)) λc o h1 h2 ο c9=>e2 c o h1 h2 (λL=>c9 (L ▸ SH)) (λL=>c9 (L ▸ dl)) λL=>c9 (L ▸ dm)))
    .rw[bA.mp bb];show⟨g0,(F.mx J a2).2⟩
    .rw[bA.mp bb,bA.mp cl];show F.mt J a2 b2 (cA ..)
  rintro⟨rfl,rfl⟩;show(λa3 U=>a3=[↑r.p,↑pd,↑O,↑N,some (.int r.most),some (.int (pw g)),some (.int bl),some (.int c3),some (.int Z),some (.int a1),none,none]/\U=ah/\a1∈m.xs,?_,λhw h7=>?_)
  .let eh:Rh A [.ref r.p,.ref pd,.ref O,.ref N,.int Z,.int a1] ah (λο dv=>Q (.bl true) dv) (λc x H'=>dr c none H'):=(bh,B,r,L,l,bn,g,a5,made,S,es,ps,a4,pd,O,N,kvs,τ,u,i,Z,a1,m,rfl,F,b0,ck,⟨g5,g6⟩,e5,hi,λh4 e0 e1 eq hn ef H' h ο=>q _ _ _ _ _ _ _ _ _ _ H' h.up)
   unfold UE DD;rfl';show rH (λο=>eh) λο=>(_,.inl (wF a4,inl Z,.inl F.hm,rfl,by rw[<-ck];show (WQ dd b0).symm),m.d,rfl,_,.inl (_,inl a1,.inl (F.mx m b0).1,rfl,rfl),?_)
   rw[XQ];by_cases c:a1∈m.xs
   .rw[iA c];show ND c
   .rw[gA c];show WD eh
  rintro⟨rfl,rfl,g7⟩;rfl';show⟨⋯,λb c4 fl fn bd=>?_⟩;show(λa3 U=>∃v,a3=[↑r.p,↑pd,↑O,↑N,some (.int r.most),some (.int (pw g)),some (.int bl),some (.int c3),some (.int Z),some (.int a1),some (.int b),some (vO v)]/\U=c4,?_,λhx b5=>?_)
  .rfl';show rH (λο=>⟨some _,rfl⟩) λο=>⟨none,rfl⟩
  rintro⟨v,rfl,rfl⟩;rfl';show⟨.inl ⟨⋯,⋯⟩,λp a9=>?_⟩;let(h3,fa):=kF (o:=.tup [V.int a1,V.int (a1 * pw g+b),V.int b]) a9;show(bh,B,r,L,l,bn,g,a5,made,S,es,ps,a4,pd,O,N,kvs,τ,u,i,Z,a1,b,v,p,m,rfl,F.same (bd.trans h3),fa,b0,ck,g7,⟨fl,fn⟩,fx,hi,e5,λew hm e0 e1 eq ef hy hq H' h=>q _ _ _ _ _ _ _ _ _ _ H' h)
theorem Ss {A:sD} {H:Hp} {x D:Addr} {l f g most:Int} {O:Addr->VK} {a1:XK} (ac:gd l f g) (ah:H x=none) (a5:H D=none)
  (q:∀(r:Ro) (J:Hz) (H':Hp),r.most=most->OC H H'->RB A H' r J l f g [] []->(∀e∈OG r J [],H e=none)->H r.p=none->(H' r.bd>(.dK [])/\r.bd∉OG r J []/\H r.bd=none)->O r.p .non H'):
  ∀j F:Addr,JC (JC H D (.own x)) x (.ins A.Ah D (bI l f g)) j=none->JC (JC H D (.own x)) x (.ins A.Ah D (bI l f g)) F=none->F≠j->
   Zf A [V.ref j,V.ref x,V.int most] (JC (JC (JC (JC H D (.own x)) x (.ins A.Ah D (bI l f g))) F (.own j)) j (.ins A.Ab F [])) (O j) a1:=by
 intro j F a0 a6 al;let U:OC H (JC (JC H D (.own x)) x (.ins A.Ah D (bI l f g))):=λc o h=>by rw[WC (FD h ah),WC (FD h a5)];show h
 let a2:JC (JC H D (.own x)) x (.ins A.Ah D (bI l f g)) x>(.ins A.Ah D (bI l f g)):=nD;generalize JC (JC H D (.own x)) x (.ins A.Ah D (bI l f g))=G1 at *;let W:OC G1 (JC (JC G1 F (.own j)) j (.ins A.Ab F [])):=λc o h=>by rw[WC (FD h a0),WC (FD h a6)];show h
 let a3:JC (JC G1 F (.own j)) j (.ins A.Ab F []) j>(.ins A.Ab F []):=nD;generalize JC (JC G1 F (.own j)) j (.ins A.Ab F [])=G2 at *;let L:=U.trans W;show(j,F,x,most,l,f,g,rfl,a3,⟨D,W _ _ a2⟩,ac,λr J H' Z ad a4 ab ο k N=>?_);let Y:H j=none:=rG U a0;rw[<-Z];show q r J H' ad (λc o h=>k _ _ (L _ _ h) (FD h Y)) a4 (λe a9=>rG L (ab e a9)) (by rw[Z];show Y) (N.1,N.2.1,rG L N.2.2)
theorem Ts {D:!Tk} {i k:Nat} (h:D.map Tk.n=(List.range i).map (λj:Nat=>(j:Int))) (F:CI (TD (bE D)) k):k=i:=by
 let e:TD (bE D)=(List.range i).map (λj:Nat=>(inl (j:Int):Key)):=by
  have:TD (bE D)=(D.map Tk.n).map inl:=by unfold TD bE;rw[wA,wA];rfl
  rw[this,h,wA];rfl
 rw[e] at F;let mem:∀j:Nat,(inl (j:Int):Key)∈(List.range i).map (λj:Nat=>(inl (j:Int):Key))↔j < i:=λj=>by
  rw[aA];constructor
  .rintro⟨u,L,e⟩;have:=kB e;have:=yB.mp L;omega
  .intro J;show(j,yB.mpr J,rfl)
 let c||c||c:=Nat.lt_trichotomy k i
 .show absurd ((mem k).mpr c) F.1
 .show c
 .have:=(mem i).mp (F.2 i c);omega
def aR:!Rn:=[(0,9,3,none),(9,4,3,some (0,0))]
def NO:!Int:=(List.range 13).map λk:Nat=>(k:Int)
theorem pK {y:Int}:y∈NO↔0<=y/\y < 13:=by
 unfold NO;rw[aA];constructor
 .rintro⟨k,hk,rfl⟩;have:=yB.mp hk;omega
 .show λh=>(y.toNat,yB.mpr ⋯,⋯)
theorem ZN (y:Int):pm aR y=if y∈NO then some (3,XE y) else none:=by
 change (if (0:Int)<=y/\y < 0+9 then some ((3:Int),tf (0,9,3,none) y) else if (9:Int)<=y/\y < 9+4 then some ((3:Int),tf (9,4,3,some (0,0)) y) else none)=_;by_cases F:0<=y/\y < 9
 .rw[iA ⋯,iA (pK.mpr ⋯)];unfold XE;rw[gA ⋯];rfl
 .rw[gA ⋯];by_cases j:9<=y/\y < 13
  .rw[iA ⋯,iA (pK.mpr ⋯)];unfold XE;rw[iA j.1];change some ((3:Int),some ((0:Int),0+y - 9))=_;rw[Int.zero_add]
  .rw[gA ⋯,gA λD=>by have:=pK.mp D;omega]
def JL (K:W.Frag):Sp:=λvs H Q ο=>∃(a:Addr) (ns:!Int),vs=[.ref a]/\BD K H a (ns.map V.int)/\ns.length<=63/\∀H',Q (.bl true) H'
theorem Us (T:JD K mg A):bG P w K mg base "law" wS ["_law_script","_law_grain","_law_size","_law_shape","_law_most","_law_rooms","_law_mapped","_law_page","_law_plain","_law_sheets","_law_cell"] 16 (JL K):=by
 let h8:=@ZM P w K mg base A T;intro f l0 kt lz s H vs Q kw U F;let(a,ns,rfl,Z,lf,kf):=F;let c3:=@bN P w K mg base A T a ns;show(_,(fD (ZD (i:=1) jJ.nd rfl (Or.inl rfl) (jE TJ (kE c3 (-U) qD (IC (GC 0) (IC ZC MC))) ZC))
   (fD (ZD (i:=2) jJ.nd rfl (Or.inl rfl) (jE dM ZC (GC 1)))
   (fD (ZD (i:=3) jJ.nd rfl (Or.inl rfl) (GT h8 (-U) qD (IC (jE KG ZC (jE TJ (kE c3 (-U) qD (IC (GC 0) (IC ZC MC))) ZC)) (IC (jE KG ZC (jE TJ (kE c3 (-U) qD (IC (GC 0) (IC ZC MC))) ZC)) (IC (GC 1) MC)))))
   (fD (ZD (i:=4) jJ.nd rfl (Or.inl rfl) (jE KG ZC (jE TJ (kE c3 (-U) qD (IC (GC 0) (IC ZC MC))) ZC)))
   (oI (ZD (i:=5) jJ.nd rfl (Or.inl rfl) (GT (Pq T) (-U) qD (IC (GC 3) (IC (GC 4) MC))))
   (fD (vE (IK (GC 5) T.Ac (IQ T) (-U) qD))
   (fD (vE (VD (GC 5) T.Ac (NQ T) (-U) qD (IC ZC MC)))
   (fD (vE (VD (GC 5) T.Ac (Sg T) (-U) qD (IC ZC (IC ZC (IC ZC (IC ZC MC))))))
   (fD (vE (VD (GC 5) T.Ac (Rg T) (-U) qD (@IC _ _ _ _ _ ZC (@IC _ _ _ _ _ ZC (@IC _ _ _ _ _ ZC (@IC _ _ _ _ _ ZC (@IC _ _ _ _ _ ZC (@IC _ _ _ _ _ ZC MC rfl) rfl) rfl) rfl) rfl) rfl)))
   (@fD _ _ _ _ _ (@ZD _ _ 6 _ _ _ _ jJ.nd rfl (Or.inl rfl) (@Vk _ _ _ _ _ (gk ZC NI fk) rfl rfl (List.cons_ne_nil _ _) (show (1:Nat)<=15 by decide)) rfl (Or.inl rfl))
   (oI (AI jB rfl (OR rfl T.Ce (IC ZC MC)) (SF (i:=7) jJ.nd rfl (Or.inl rfl)) (gD (CG (KD U) (BE (KD U) (GC 6) ZC (λο ο=>rfl)) (GC 7) xJ rfl)))
   (fD (ZD (i:=8) jJ.nd rfl (Or.inl rfl) xa)
   (fD (ZD (i:=9) jJ.nd rfl (Or.inr rfl) xa)
   (fD (AI jB rfl (yI (zP FP (GC 0) (EK ZC) (EK ZC))) (SF (i:=10) jJ.nd rfl (Or.inl rfl)) (fD (yE (UH (iH (kE (ZQ T) (-U) qD (@IC _ _ _ _ _ (GC 5) (@IC _ _ _ _ _ (GC 8) (@IC _ _ _ _ _ (GC 9) (@IC _ _ _ _ _ (GC 6) (@IC _ _ _ _ _ (GC 4) (@IC _ _ _ _ _ (GC 2) (@IC _ _ _ _ _ (GC 10) MC rfl) rfl) rfl) rfl) rfl) rfl) rfl)))) (gD (RD xJ)) FE)
   (fD (lU (yE (UH (iH (kE (TW T) (-U) qD (IC (IK (GC 5) T.Ac (xN T) (-U) qD) (IC (fG uc rfl T.Bj PySem.boot_len (IC (lI (rc rfl) rfl T.Nk PyProof.Rows.boot_set (IC (PK rfl (pS (GC 9)) (x:="_law_key_here") (fs:=["_law_sheets"]) (ix:=[9]) rfl rfl (λο ο ο ο ο ο=>(SF (i:=0) (show (["_law_key_here","_law_sheets"]:!Str).Nodup by decide+kernel) rfl (Or.inl rfl))) (λο ο ο ο ο ο=>MK) (λο ο ο ο ο ο=>(BE (KD U) (GC 1) (GC 0) (λο ο=>rfl)))) MC)) MC)) MC))))) (gD (RD xJ)) FE))
   (gD (yE (UH (iH (kE (XN T) (-U) qD (IC (GC 5) (IC (GC 8) (IC (GC 6) (IC (GC 2) MC))))))) (gD (RD xJ)) FE)))))
   (gD (RD xJ)))))))))))))))),?_)
 unfold fe;rfl';let hx:0<=ns.getD 0 0 % 3/\ns.getD 0 0 % 3<=2:=⋯;generalize ns.getD 0 0 % 3=gr at *;let hj:(1:Int) * 2 ^ gr.toNat=pw gr:=by unfold pw;omega
 rw[hj];show(Z,⋯,⋯,by decide,?_);obtain⟨l,ir⟩:∃l,l=2+ns.getD 1 0 % 2:=⟨_,rfl⟩
 obtain⟨J,hw⟩:∃J,J=2+ns.getD 2 0 % 7:=⟨_,rfl⟩
 let bl:2<=l/\l<=3:=⋯;let e5:2<=J/\J<=8:=⋯;let e7:gd l J gr:=(bl.1,bl.2,⋯,e5.2,hx.1,⋯)
 let ls:=mJ e7;let ld:=QT bl.1 bl.2 (show 1<=J by omega) e5.2;let js:4<=l * J:=by
  have:2 * 2<=l * J:=Int.mul_le_mul bl.1 e5.1 ⋯ ⋯;omega
 let lv:16<=pw (l * J):=by
  have:=NT js ⋯;let e:pw 4=16:=by decide
  omega
 show(Z,Z,?_);generalize 1+ns.getD 3 0 % 8=mo at *;rw[<-ir,<-hw];unfold lJ;rfl';show λx eo a3 fv le=>?_;rw[iA (rp e7)];let kq:OC H (JC (JC H eo (.own x)) x (.ins A.Ah eo (bI l J gr))):=λc o h=>by rw[WC (FD h a3),WC (FD h fv)];show h
 show(kq.seq Z,λa2 c4=>∃r F,a2=[↑a,some (.int gr),some (.int (pw gr)),↑x,some (.int r.most),↑r.p,none,none,none,none,none]/\RB A c4 r F l J gr [] []/\OC H c4/\(∀e∈OG r F [],H e=none)/\H r.p=none/\(c4 r.bd>(.dK [])/\r.bd∉OG r F []/\H r.bd=none),?_,λm1 c4=>?_)
 .rfl';show Ss e7 a3 fv (λr F H' bm ck be b2 b3 a6=>?_);show(rfl,r,by rw[bm],rfl,F,be,ck,b2,b3,a6)
 rintro⟨r,F,rfl,dv,ck,b2,k3,ac⟩;rfl';let(he,f1):=dv.s.me;show(he,_,f1,sF ∅,r,F,l,J,gr,[],[],rfl,dv,by decide,λk p d ek hr c7 b3 hd e9=>?_);obtain rfl:=Ts (i:=0) rfl hr;let c7:RB A ek r F l J gr [(0,p,[])] [(0,d,[])]:=c7;let bo:∀{c},c=r.pd\/c=F.td\/c=F.bd->c∈OG r F []:=λh=>by
  unfold OG;let h||h||h:=h<;>rw[h]<;>simp
 let fn:=e9 _ _ ac.1 (λq=>ac.2.1 (bo (.inl q))) (λq=>ac.2.1 (bo (.inr (.inl q))));let k8:r.bd≠d:=λq=>by rw[<-q,ac.1] at hd;cases hd
 let k1:r.bd∉OG r F [(0,d,[])]:=λq=>by
  let hh:OG r F [(0,d,[])]=OG r F []++[d]:=rfl;rw[hh] at q;let h||h:=jA.mp q
  .show ac.2.1 h
  .show k8 (bA.mp h)
 let g6:OC H ek:=λc o h=>e9 _ _ (ck _ _ h) (FD h (b2 _ (bo (.inl rfl)))) (FD h (b2 _ (bo (.inr (.inl rfl)))));let fy:H p=none:=rG ck b3;let(B,e4,l3,_):=c7.rh fn k1;clear dv c7 e9 fn f1;let(hf,f2):=e4.s.me;show(hf,_,f2,sF ∅,B,r,F,l,J,gr,_,[],0,[],_,5,rfl,e4,⟨by decide,by decide⟩,by decide,λk a6 el f9 hv bh er=>?_);obtain rfl:k=0:=by
  let h||h:=Nat.eq_zero_or_pos k
  .show h
  .show absurd (f9.2 0 h) (by unfold TD;simp)
 let bh:RH A B el r F l J gr [(0,p,[])] [(inl 0,.int 5)] 0 [] [(false,0,d,[]),(true,0,a6,[])]:=bh;let g7:OC H el:=λc o h=>er _ _ (g6 _ _ h) (FD h (b2 _ (bo (.inr (.inr rfl))))) (FD h ac.2.2);clear e4 f2 er g6 f9;let(hg,f3):=bh.s.me;let d2:vI [] 0 9 3 (dG none 0)=[(0,9,3,none)]:=by decide
 let d3:vI [(0,9,3,none)] 9 4 3 (dG (some 0) 0)=aR:=by decide
 show(hg,_,f3,sF ∅,B,r,F,l,J,gr,_,_,0,[],_,0,0,9,3,0,none,(0,p,[]),rfl,bh,cA .., rfl,qA ⋯,⟨by decide,by decide⟩,(λhc F=>nomatch F),(by change gF [] 0 9=[];decide),by rw[d2];show⟨by decide,by decide⟩,by rw[d2];decide,λh7 am em=>?_);rw[d2] at am;let am:RH A B h7 r F l J gr [(0,p,[(0,9,3,none)])] [(inl 0,.int 5)] 0 [] [(false,0,d,[]),(true,0,a6,[])]:=am;let(d1,f4):=am.s.me;show(d1,_,f4,sF ∅,B,r,F,l,J,gr,_,_,0,[],_,0,9,4,3,0,some 0,(0,p,[(0,9,3,none)]),rfl,am,cA .., rfl,qA ⋯,⟨by decide,by decide⟩,(λhc ht=>by cases ht;show(5,rfl,by decide,by decide)),(by change gF [(0,9,3,none)] 9 4=[];decide),by rw[d3];show⟨by decide,by decide⟩,by rw[d3];decide,λcw b0 en=>?_);rw[d3] at b0;let b0:RH A B cw r F l J gr [(0,p,aR)] [(inl 0,.int 5)] 0 [] [(false,0,d,[]),(true,0,a6,[])]:=b0;let cm:OC H cw:=λc o h=>en _ _ (em _ _ (g7 _ _ h) (FD h fy)) (FD h fy);clear bh am f3 f4 em en g7;intro N ea L c8;let(bb,dm):=kF (o:=.dK []) ea;let g2:=b0.ex ea;let e3:=b0.same bb;let k0:H N=none:=rG cm ea;generalize JC cw N (.dK [])=H7 at *;let(co,ev):=kF (o:=.dK []) c8;let g1:=e3.ex c8;let ff:=e3.same co;let cd:N≠L:=FD dm c8;let dn:=co _ _ dm;let j0:H L=none:=rG (cm.trans bb) c8;generalize JC H7 L (.dK [])=H8 at *;show(dn,[(inl 0,.ref L)],rfl,(show 1<=15 by decide),?_);rw[show LF [] [(inl 0,V.ref L)]=[((inl 0:Key),V.ref L)] from rfl];let ca:=JE (d:=N) (H:=H8) (o:=.dK [(inl 0,.ref L)]);let c5:JC H8 N (.dK [(inl 0,.ref L)]) N>(.dK [(inl 0,.ref L)]):=nD;let fl:=ff.kd dn g2 (.inl ⟨_,rfl⟩) ca c5;let dr:=ca _ _ ev cd.symm;generalize JC H8 N (.dK [(inl 0,.ref L)])=H9 at *;let c1:OC H H9:=λc o h=>ca _ _ (co _ _ (bb _ _ (cm _ _ h))) (FD h k0);clear b0 e3 ff bb co cm ca dn dm ev;show(λa2 a0=>∃ah,a2=[↑a,some (.int gr),some (.int (pw gr)),↑x,some (.int r.most),↑r.p,↑N,ah,none,none,none]/\Kd L H9 a0/\a0 L>(.dK (vF NO)),?_,λm2 ej=>?_)
 .unfold lE DD;rfl';show MT (λj a2 a0=>∃ah,a2=[↑a,some (.int gr),some (.int (pw gr)),↑x,some (.int r.most),↑r.p,↑N,ah,none,none,none]/\Kd L H9 a0/\a0 L>(.dK (vF ((List.range j).map λk:Nat=>(k:Int))))) (_,rfl,(λο ο h ο=>h),(by rw[List.range_zero];show dr)) (λj a2 a0 e8=>?_) (λa2 a0=>?_)
  .rintro⟨ah,rfl,k,e6⟩;let hz:=PySem.sizeLine_eq;rfl';show(.ref L,.inl (_,inl 0,.inl (k _ _ c5 cd),rfl,rfl),L,rfl,_,.inl (_,inl (0+(j:Int)),e6,rfl,by unfold vF;rw[dA,dA,BB];omega,rfl),λc o h n=>by rw[WC n];show k c o h n,?_);rw[nD,Int.zero_add,FK _ (by
    rw[XQ,gA λF=>by
     let(ly,i2,e):=aA.mp F;have:=yB.mp i2;omega]),List.range_succ]
   unfold vF;rw[nA,nA];rfl
  .rintro⟨ah,rfl,k,e6⟩;show(_,rfl,k,e6)
 rintro⟨ah,rfl,c9,bd⟩;let e0:=fl.kd dr g1 (.inl ⟨_,rfl⟩) c9 bd;let c6:=c9 _ _ c5 cd;let ed:OC H ej:=λc o h=>c9 _ _ (c1 _ _ h) (FD h j0);clear fl c9 c1 dr c5;unfold tDNewT;rfl';intro pd bn O b5;let(a5,dd):=kF (o:=.dT []) bn;let k9:=e0.ex bn;let e1:=e0.same a5;let g3:N≠pd/\L≠pd:=⟨FD c6 bn,FD bd bn⟩
 generalize JC ej pd (.dT [])=H11 at *;let(ab,et):=kF (o:=.dT []) b5;let ke:=e1.ex b5;let e2:=e1.same ab;let ka:pd≠O:=FD dd b5;let g4:N≠O/\L≠O:=⟨FD (a5 _ _ c6) b5,FD (a5 _ _ bd) b5⟩
 generalize JC H11 O (.dT [])=H12 at *;show(_,(ed.trans (a5.trans ab)).seq Z,λsl b4=>?_);let hu:rF (ns.map V.int) (some 4) (some 54)=((ns.take 54).drop 4).map V.int:=by rw[show rF (ns.map V.int) (some 4) (some 54)=((ns.map V.int).take 54).drop 4 from sW (lo:=4) (hi:=54),<-List.map_take,<-List.map_drop]
 rw[hu];let l9:((ns.take 54).drop 4).length<=50:=by rw[wC,cB];omega
 generalize (ns.take 54).drop 4=cs at *;let(cl,dl):=kF (o:=.lst (cs.map V.int)) b4;let kc:=e2.ex b4;let fa:=e2.same cl;let ee:=a5.trans (ab.trans cl);let ey:=ee _ _ c6;let ew:=ee _ _ bd;let ez:=cl _ _ (ab _ _ dd);let f0:=cl _ _ et;let ch:sl≠pd/\sl≠O/\sl≠N/\sl≠L:=((FD (ab _ _ dd) b4).symm,(FD et b4).symm,(FD (ab _ _ (a5 _ _ c6)) b4).symm,(FD (ab _ _ (a5 _ _ bd)) b4).symm)
 let lk:H pd=none:=rG ed bn;let k5:H O=none:=rG (ed.trans a5) b5;generalize JC H12 sl (.lst (cs.map V.int))=H13 at *;clear e0 e1 e2;let(cv,fb,f8):=fa.rebase;let al:∀{c o},¬yG r F [] [(false,0,d,[]),(true,0,a6,[])] c->H13 c>o->cv c≠none:=λn h=>by rw[f8 _ n,h];show λF=>nomatch F
 obtain⟨a4,dy⟩:∃a4:Hp,a4=λc=>if c=sl then some (.lst (cs.map V.int)) else none:=⟨_,rfl⟩
 let c0:∀{q k},¬Nb [(false,0,d,[]),(true,0,a6,[])] q k:=λ⟨e,a1,y,ad,_⟩=>by
  simp only[pA,WA,BC] at a1;let rfl||rfl:=a1<;>cases ad
 let dp:∀c o,a4 c>o->c=sl/\o=.lst (cs.map V.int):=λc o W=>by
  rw[dy] at W;let W:(if c=sl then some (HO.lst (cs.map V.int)) else none)>o:=W;by_cases q:c=sl
  .rw[iA q] at W;show⟨q,(yA W).symm⟩
  .rw[gA q] at W;cases W
 let hq:Bk A a4 cv H13 r F l J gr [(0,p,aR)] 0 [] [(false,0,d,[]),(true,0,a6,[])] [] [(0,L,NO)] pd O N [] (λο=>0) 0 ((0:Nat):Int):=by
  show(fb,(λe a1 y ad=>absurd (e,a1,y,ad,rfl,rfl) c0,(λs Z=>by cases Z),(λs Z=>by cases Z)),(.nil,λq v=>⟨(λh=>by cases h),λ⟨e,a1,y,ad,h1,h2⟩=>absurd (e,a1,y,ad,h1,rfl) c0⟩,(λs Z=>by cases Z),(λs Z=>by cases Z)),λq m0 k ο h=>absurd h c0,λc y k h=>absurd h c0,λe a1=>?_,by change ([0,2]:!Int).Nodup;decide,vA _,.inl rfl,λt eb=>?_,ey,rfl,λm bm=>?_,λm bm t eb ο y=>?_,ez,(λx a3=>by cases a3),.nil,λq=>⟨(λ⟨p,b3,_⟩=>by cases b3),λ⟨k,hk⟩=>absurd hk c0⟩,(λx a3=>by cases a3),(λx a3=>by cases a3),(λx a3=>by cases a3),f0,QB _,λe a1=>?_,?_,λc W=>?_,λc o W=>⟨_,(dp c o W).2⟩,λc o W=>?_)
  .simp only[pA,WA,BC] at a1;let rfl||rfl:=a1
   .show .inr ⟨rfl,.inl rfl⟩
   .show .inl ⟨rfl,rfl⟩
  .rw[bA.mp eb];show (show dE aR from ⟨by decide,trivial⟩)
  .rw[bA.mp bm];show(ew,(show NO.Nodup by decide),λy ad=>pK.mp ad)
  .rw[bA.mp bm,bA.mp eb];show ZN y
  .simp only[pA,WA,BC] at a1;let rfl||rfl:=a1<;>show QB _
  .change [pd,O,N,L].Nodup;simp only[NA,pA,WA,BC,not_or,not_false_eq_true,List.nodup_nil,and_true];show((ka,g3.1.symm,g3.2.symm),⟨g4.1.symm,g4.2.symm⟩,cd)
  .let W:c∈[pd,O,N,L]:=W;simp only[pA,WA,BC] at W;let rfl||rfl||rfl||rfl:=W
   .show al k9 ez
   .show al ke f0
   .show al g2 ey
   .show al g1 ew
  .let(rfl,rfl):=dp c o W;show(dl,al kc dl,λF=>?_);let F:c∈[pd,O,N,L]:=F;simp only[pA,WA,BC] at F;let F||F||F||F:=F
   .show ch.1 F
   .show ch.2.1 F
   .show ch.2.2.1 F
   .show ch.2.2.2 F
 let hl:a4 sl>(.lst (cs.map V.int)):=by rw[dy];show iA rfl
 clear dy fa fb f8 al a5 ab ee b2 k3 ac hd hv b3 dp;let k4:∀{c2 H' bc made S es ps b9 kvs τ u i},Bk A a4 c2 H' r F l J gr bc made S es ps b9 pd O N kvs τ u i->H' sl>(.lst (cs.map V.int)):=λh=>(h.k0 sl _ hl).1;show⟨⟨_,BD.of dl⟩,yM (K:=K) (xs:=cs.map V.int) (λj a2 a0=>∃ef B bc made S es ps b9 kvs τ u,a2=[↑a,some (.int gr),some (.int (pw gr)),↑x,some (.int r.most),↑r.p,↑N,ah,↑pd,↑O,ef]/\Bk A a4 B a0 r F l J gr bc made S es ps b9 pd O N kvs τ u (j:Int)) (_,cv,_,_,_,_,_,_,_,_,_,rfl,hq) (λj a2 a0 _ eh=>by let(_,_,_,_,_,_,_,_,_,_,_,eh):=eh;show BD.of (k4 eh.2)) (λj v a2 a0 e8=>?_) (λa2 a0=>?_)⟩
 .rintro⟨ef,B,bc,made,S,es,ps,b9,kvs,τ,u,rfl,be⟩;obtain⟨c,rfl⟩:∃c:Int,v=V.int c:=by
   let(c,_,e):=aA.mp (QA e8);show⟨c,e.symm⟩
  let i1:=(JA.mp e8).1;rw[dA] at i1;rfl';show(a4,B,r,F,l,J,gr,bc,made,S,es,ps,b9,pd,O,N,kvs,τ,u,(j:Int),c,rfl,be,⋯,⋯,⋯,λc2 g8 ec cx eq g5 g0 a9 ga g9 h4 Y=>(_,rfl,ND ?_));clear be;let fx:=Y.tn.live Y.pc Y.rh.s.nn Y.nn Y.rh.ux;let ih:=Y.kl ⋯;let hy:=Y.tn.ints;let lw:=Y.sl;show(O,(by intro o u;rw[LO,k5];show λF=>nomatch F),?_);unfold oG pG;rfl';let(d1,hm):=Y.rh.s.me;show(d1,_,hm,sF ∅,r,ec,cx,rfl,Y.rh.s,a9,Y.sh,λo D ho=>dX Y.sh Y.tn.nk hy ih ho λH' hk hs hp l2 l1=>(a9.map (λkv=>tI kv.2),BD.of hp,by rw[dA];omega,λbt iv=>(_,rfl,by rw[fx];omega,?_)))
  .let c1:=(kF (o:=wH bt (cH (a9.map λkv=>tI kv.2))) iv).1;let hn:=c1 _ _ hs;let kk:∀b u,h4 b>u->b≠O->JC H' bt (wH bt (cH (a9.map λkv=>tI kv.2))) b>u:=λb u h b1=>c1 _ _ (hk b u h b1);generalize JC H' bt (wH bt (cH (a9.map λkv=>tI kv.2)))=F3 at *;rw[fx];show(_,_,rfl,?_);rw[qA rfl];show(_,rfl,ND ?_);rw[oS hn];let f5:=Y.same (H':=JC F3 O (.dT a9)) λb u h=>by
    by_cases b1:b=O
    .rw[b1,Y.sh] at h;rw[b1,nD];show h
    .rw[WC b1];show kk b u h b1
   show(a4,c2,r,F,l,J,gr,g8,ec,cx,eq,g5,g0,pd,O,N,a9,ga,g9,_,rfl,f5,⋯,⋯,λky bb=>(_,rfl,ND ?_));show(c2,g8,ec,cx,eq,g5,g0,a9,ga,g9,f5.same bb)
 .rintro⟨ef,B,bc,made,S,es,ps,b9,kvs,τ,u,rfl,be⟩;rfl';show kf _
end
theorem kX {l:W.OpenLaw} {q:Program} {loose:!Str} {XP:(Str->Option Value)->Heap->Prop} {YP:World->Heap->Prop} {d:DefRec} {K:Params->W.Frag} (a3:l.most>63) (a0:d.params.defaults=[]) (a1:d.name="law")
  (Y:∀(w:World) (h:Heap),YP w h->(K w.params).In h)
  (F:∀(w:World) (mg:Str->Option Value) (h:Heap),(K w.params).In h->h.Ns mainGlobals mg->∃A:sD,JD (K w.params) mg A):
  W.WalkO q loose XP YP l.row.toRowW d [] (λf vs=>PySem.call f vs):=by
 show L2.zk (n:=63) (k:=16+1) (x:="_law_script") (CX:=λw=>tH l.prog w) (sp:=λw=>JL (K w.params)) a3 (by decide) a0 (rfl,by decide,by decide) Y ?_ (λο ο a ns a2 ο V=>(a,ns,rfl,V,a2,λο=>rfl)) λ_ _ _ _ _ ⟨_,_,_,_,_,_,_,_,_,_,j⟩=>j;intro w mg a5 h N L D;rw[a1] at D;let(A,T):=F w mg h N L;let(f,U,e,J,Z):=T.Op;let O:=D.symm.trans e;cases O;show(U,Z,λbase ο ο=>J.okE jJ (λvs H Q a4 j=>by let(a,ns,rfl,_):=j;rfl) (Us (P:=l.prog) (w:=w) (base:=base) T))
end Pf
open PySem PySem.W PyProof.Rows
set_option maxRecDepth 100000 in
set_option maxHeartbeats 0 in
theorem PySem.Challenge.cw_frameland_k54_no_room_holds : PySem.Challenge.rw_frameland_k54_no_room.Holds := by
 w_on;o_law
 show holds_open (q:=Pf.vw) (loose:=[]) (Xt:=λs=>xlAt Pf.vw [] s&&recOk (RowW.records (PySem.Challenge.rw_frameland_k54_no_room).row.toRowW) s) (XP:=XL Pf.vw []) (Yf:=Hook.obs (kHook Pf.Kf Pf.MJ Pf.KR)) (Ya:=Hook.val (kHook Pf.Kf Pf.MJ Pf.KR)) (YP:=Hook.says (kHook Pf.Kf Pf.MJ Pf.KR)) (N:=(12+(1+(2611+(6450))))) Pf.left (Hook.of (kHook Pf.Kf Pf.MJ Pf.KR)) (Hook.keeps (kHook Pf.Kf Pf.MJ Pf.KR)) (λs e=>xl_of s (Bool.and_eq_true_iff.mp e).1) XL.keeps (by rfl) (by rfl) (by rfl) (λs e=>recFacts_of (Bool.and_eq_true_iff.mp e).2) (by rfl) (by first|assumption|decide+kernel) (by decide+kernel) (rfl,rfl,rfl,rfl,rfl,by decide+kernel) ?hw ?hc
 case hw=>w_witness2
 k_fill
 show Pf.kX (l:=PySem.Challenge.rw_frameland_k54_no_room) rfl rfl rfl (λw h Y=>PySem.W.kIn_of Y) ?F
 case F=>
  intro w mg h KX G;refine' Pf.XM KX G ?_ ?_ ?_ ?_ ?_ ?_ ?_ ?_ ?_ ?_ ?_ ?_ ?_ ?_ ?_ ?_ ?_ ?_ ?_ ?_ ?_ ?_ ?_ ?_ ?_ ?_ ?_ ?_ ?_ ?_ ?_ ?_ ?_ (.mk ?_ ?_ ?_ ?_) (.mk ?_ ?_ ?_ ?_) (.mk ?_ ?_ ?_ ?_) (.mk ?_ ?_ ?_ ?_) (.mk ?_ ?_ ?_ ?_) (.mk ?_ ?_ ?_ ?_) (.mk ?_ ?_ ?_ ?_) (.mk ?_ ?_ ?_ ?_) (.mk ?_ ?_ ?_ ?_) (.mk ?_ ?_ ?_ ?_) (.mk ?_ ?_ ?_ ?_) (.mk ?_ ?_ ?_ ?_) (.mk ?_ ?_ ?_ ?_) (.mk ?_ ?_ ?_ ?_) (.mk ?_ ?_ ?_ ?_) (.mk ?_ ?_ ?_ ?_) (.mk ?_ ?_ ?_ ?_) (.mk ?_ ?_ ?_ ?_) (.mk ?_ ?_ ?_ ?_) (.mk ?_ ?_ ?_ ?_) (.mk ?_ ?_ ?_ ?_) (.mk ?_ ?_ ?_ ?_) (?_,?_,?_,?_) ?_ (.mk ?_ ?_ ?_ ?_ ?_ ?_ ?_) ?_ ?_ ?_ ?_ ?_ ?_ (.mk ?_ ?_ ?_ ?_ ?_) (.mk ?_ ?_ ?_ ?_ ?_) (.mk ?_ ?_ ?_ ?_ ?_) (.mk ?_ ?_ ?_ ?_ ?_) (.mk ?_ ?_ ?_ ?_ ?_) (.mk ?_ ?_ ?_ ?_ ?_) (.mk ?_ ?_ ?_ ?_ ?_) (.mk ?_ ?_ ?_ ?_ ?_) (.mk ?_ ?_ ?_ ?_ ?_) (.mk ?_ ?_ ?_ ?_ ?_) (.mk ?_ ?_ ?_ ?_ ?_) (.mk ?_ ?_ ?_ ?_ ?_) (?_,?_,?_,?_) ?_ ?_ ?_ (.mk ?_ ?_ ?_ ?_ ?_ ?_ ?_) (.mk ?_ ?_ ?_ ?_ ?_) (.mk ?_ ?_ ?_ ?_ ?_) ?_ ?_ ?_ ?_ ?_ ?_ (.mk ?_ ?_ ?_ ?_ ?_) (.mk ?_ ?_ ?_ ?_ ?_) (.mk ?_ ?_ ?_ ?_ ?_) (.mk ?_ ?_ ?_ ?_ ?_) (.mk ?_ ?_ ?_ ?_ ?_) (.mk ?_ ?_ ?_ ?_ ?_) (.mk ?_ ?_ ?_ ?_ ?_) (.mk ?_ ?_ ?_ ?_ ?_) (.mk ?_ ?_ ?_ ?_ ?_) (.mk ?_ ?_ ?_ ?_ ?_) (.mk ?_ ?_ ?_ ?_ ?_) (?_,?_,?_,?_) ?_ ?_ ?_ ?_ ?_ ?_ ?_ ?_ (.mk ?_ ?_ ?_ ?_ ?_ ?_ ?_) (.mk ?_ ?_ ?_ ?_ ?_) (.mk ?_ ?_ ?_ ?_ ?_) ?_ ?_ ?_ ?_ ?_ ?_ (.mk ?_ ?_ ?_ ?_ ?_) (.mk ?_ ?_ ?_ ?_ ?_) (.mk ?_ ?_ ?_ ?_ ?_) (.mk ?_ ?_ ?_ ?_ ?_) (.mk ?_ ?_ ?_ ?_ ?_) (.mk ?_ ?_ ?_ ?_ ?_) (.mk ?_ ?_ ?_ ?_ ?_) (.mk ?_ ?_ ?_ ?_ ?_) (.mk ?_ ?_ ?_ ?_ ?_) (.mk ?_ ?_ ?_ ?_ ?_) (.mk ?_ ?_ ?_ ?_ ?_) (.mk ?_ ?_ ?_ ?_ ?_) (.mk ?_ ?_ ?_ ?_ ?_) (.mk ?_ ?_ ?_ ?_ ?_) (.mk ?_ ?_ ?_ ?_ ?_) (?_,?_,?_,?_) ?_ ?_ ?_ ?_ ?_ ?_ (.mk ?_ ?_ ?_ ?_ ?_ ?_ ?_) (.mk ?_ ?_ ?_ ?_ ?_) (.mk ?_ ?_ ?_ ?_ ?_) (.mk ?_ ?_ ?_ ?_ ?_) (.mk ?_ ?_ ?_ ?_ ?_) (.mk ?_ ?_ ?_ ?_ ?_) ?_ ?_ ?_ ?g0 ?g1 ?g2 ?g3 ?g4 ?g5 ?g6 ?g7 ?g8 ?g9 ?_ ?_ ?_ ?_ ?_ ?_ ?_ ?_ ?_ ?g10 ?g11 ?g12 ?g13 ?g14 (.mk ?_ ?_ ?_ ?_)
  all_goals first|k_is|skip
  (case g0=>k_exc)
  (case g1=>k_exc)
  (case g2=>k_exc)
  (case g3=>k_exc)
  (case g4=>k_exc)
  (case g5=>k_exc)
  (case g6=>k_exc)
  (case g7=>k_exc)
  (case g8=>k_exc)
  (case g9=>k_exc)
  (case g10=>kit_is)
  (case g11=>kit_is)
  (case g12=>kit_is)
  (case g13=>kit_is)
  (case g14=>kit_is)
