import PyProof.Rows.All
import Wide.All
import OpenK.AllK
import Wide.FinOn
import Lean
import PyProof.EqAt
import PyProof.EqKinds
import PyProof.TupleCall
import PyProof.NeKinds
import PyProof.EnumMake
import PyProof.EnumStmt
import PyProof.LayNew
import KE.KDictLaws
import KE.KDictSum
import KE.LcSums
import PyProof.Rows.SumAny
import PyProof.Rows.SortWalk
import PyProof.DictWalks
import PyProof.Rows.SortRev
import KE.KRevIter
import KE.KIntText
import PyProof.CallStr
import PyProof.StrCalls2
import PyProof.Rows.StrJoin2
import PyProof.StrWalks
import PyProof.Rows.Range3
import PyProof.Rows.MatchSeqLen
import PyProof.Rows.SetFrom
import PyProof.SetRoads
import PyProof.TupleKey
import PyProof.IsRules
import PyProof.Rows.SortShell
import PyProof.Rows.SortRuns
import PyProof.DictFindH
import PySem.Challenge.RW_frameland_k53_tied_boxes
set_option Elab.async false
set_option linter.all false
set_option genSizeOf false
set_option bootstrap.genMatcherCode false
set_option maxRecDepth 100000
set_option tactic.hygienic false
set_option compiler.extract_closed false
theorem ex1 {t0:Type} {p:t0->Prop} {G:Prop} (h:∃a,p a) (k:∀a,p a->G):G:=h.elim k
theorem ex2 {t0 t1:Type} {p:t0->t1->Prop} {G:Prop} (h:∃a b,p a b) (k:∀a b,p a b->G):G:=h.elim fun a h=>ex1 h (k a)
theorem ex3 {t0 t1 t2:Type} {p:t0->t1->t2->Prop} {G:Prop} (h:∃a b c,p a b c) (k:∀a b c,p a b c->G):G:=h.elim fun a h=>ex2 h (k a)
theorem ex4 {t0 t1 t2 t3:Type} {p:t0->t1->t2->t3->Prop} {G:Prop} (h:∃a b c d,p a b c d) (k:∀a b c d,p a b c d->G):G:=h.elim fun a h=>ex3 h (k a)
theorem ex5 {t0 t1 t2 t3 t4:Type} {p:t0->t1->t2->t3->t4->Prop} {G:Prop} (h:∃a b c d e,p a b c d e) (k:∀a b c d e,p a b c d e->G):G:=h.elim fun a h=>ex4 h (k a)
theorem ex6 {t0 t1 t2 t3 t4 t5:Type} {p:t0->t1->t2->t3->t4->t5->Prop} {G:Prop} (h:∃a b c d e f,p a b c d e f) (k:∀a b c d e f,p a b c d e f->G):G:=h.elim fun a h=>ex5 h (k a)
theorem ex7 {t0 t1 t2 t3 t4 t5 t6:Type} {p:t0->t1->t2->t3->t4->t5->t6->Prop} {G:Prop} (h:∃a b c d e f g,p a b c d e f g) (k:∀a b c d e f g,p a b c d e f g->G):G:=h.elim fun a h=>ex6 h (k a)
theorem ex8 {t0 t1 t2 t3 t4 t5 t6 t7:Type} {p:t0->t1->t2->t3->t4->t5->t6->t7->Prop} {G:Prop} (h:∃a b c d e f g h,p a b c d e f g h) (k:∀a b c d e f g h,p a b c d e f g h->G):G:=h.elim fun a h=>ex7 h (k a)
theorem ex9 {t0 t1 t2 t3 t4 t5 t6 t7 t8:Type} {p:t0->t1->t2->t3->t4->t5->t6->t7->t8->Prop} {G:Prop} (h:∃a b c d e f g h i,p a b c d e f g h i) (k:∀a b c d e f g h i,p a b c d e f g h i->G):G:=h.elim fun a h=>ex8 h (k a)
theorem ex10 {t0 t1 t2 t3 t4 t5 t6 t7 t8 t9:Type} {p:t0->t1->t2->t3->t4->t5->t6->t7->t8->t9->Prop} {G:Prop} (h:∃a b c d e f g h i j,p a b c d e f g h i j) (k:∀a b c d e f g h i j,p a b c d e f g h i j->G):G:=h.elim fun a h=>ex9 h (k a)
theorem ex11 {t0 t1 t2 t3 t4 t5 t6 t7 t8 t9 t10:Type} {p:t0->t1->t2->t3->t4->t5->t6->t7->t8->t9->t10->Prop} {G:Prop} (h:∃a b c d e f g h i j k,p a b c d e f g h i j k) (k:∀a b c d e f g h i j k,p a b c d e f g h i j k->G):G:=h.elim fun a h=>ex10 h (k a)
theorem ex12 {t0 t1 t2 t3 t4 t5 t6 t7 t8 t9 t10 t11:Type} {p:t0->t1->t2->t3->t4->t5->t6->t7->t8->t9->t10->t11->Prop} {G:Prop} (h:∃a b c d e f g h i j k l,p a b c d e f g h i j k l) (k:∀a b c d e f g h i j k l,p a b c d e f g h i j k l->G):G:=h.elim fun a h=>ex11 h (k a)
theorem ex13 {t0 t1 t2 t3 t4 t5 t6 t7 t8 t9 t10 t11 t12:Type} {p:t0->t1->t2->t3->t4->t5->t6->t7->t8->t9->t10->t11->t12->Prop} {G:Prop} (h:∃a b c d e f g h i j k l m,p a b c d e f g h i j k l m) (k:∀a b c d e f g h i j k l m,p a b c d e f g h i j k l m->G):G:=h.elim fun a h=>ex12 h (k a)
theorem ex14 {t0 t1 t2 t3 t4 t5 t6 t7 t8 t9 t10 t11 t12 t13:Type} {p:t0->t1->t2->t3->t4->t5->t6->t7->t8->t9->t10->t11->t12->t13->Prop} {G:Prop} (h:∃a b c d e f g h i j k l m n,p a b c d e f g h i j k l m n) (k:∀a b c d e f g h i j k l m n,p a b c d e f g h i j k l m n->G):G:=h.elim fun a h=>ex13 h (k a)
theorem ex15 {t0 t1 t2 t3 t4 t5 t6 t7 t8 t9 t10 t11 t12 t13 t14:Type} {p:t0->t1->t2->t3->t4->t5->t6->t7->t8->t9->t10->t11->t12->t13->t14->Prop} {G:Prop} (h:∃a b c d e f g h i j k l m n o,p a b c d e f g h i j k l m n o) (k:∀a b c d e f g h i j k l m n o,p a b c d e f g h i j k l m n o->G):G:=h.elim fun a h=>ex14 h (k a)
theorem ad2 {A0 A1 G:Prop} (h:A0/\A1) (k:A0->A1->G):G:=k h.1 h.2
theorem ad3 {A0 A1 A2 G:Prop} (h:A0/\A1/\A2) (k:A0->A1->A2->G):G:=ad2 h.2 (k h.1)
theorem ad4 {A0 A1 A2 A3 G:Prop} (h:A0/\A1/\A2/\A3) (k:A0->A1->A2->A3->G):G:=ad3 h.2 (k h.1)
theorem ad5 {A0 A1 A2 A3 A4 G:Prop} (h:A0/\A1/\A2/\A3/\A4) (k:A0->A1->A2->A3->A4->G):G:=ad4 h.2 (k h.1)
theorem ad6 {A0 A1 A2 A3 A4 A5 G:Prop} (h:A0/\A1/\A2/\A3/\A4/\A5) (k:A0->A1->A2->A3->A4->A5->G):G:=ad5 h.2 (k h.1)
theorem ad7 {A0 A1 A2 A3 A4 A5 A6 G:Prop} (h:A0/\A1/\A2/\A3/\A4/\A5/\A6) (k:A0->A1->A2->A3->A4->A5->A6->G):G:=ad6 h.2 (k h.1)
theorem ad8 {A0 A1 A2 A3 A4 A5 A6 A7 G:Prop} (h:A0/\A1/\A2/\A3/\A4/\A5/\A6/\A7) (k:A0->A1->A2->A3->A4->A5->A6->A7->G):G:=ad7 h.2 (k h.1)
theorem ad9 {A0 A1 A2 A3 A4 A5 A6 A7 A8 G:Prop} (h:A0/\A1/\A2/\A3/\A4/\A5/\A6/\A7/\A8) (k:A0->A1->A2->A3->A4->A5->A6->A7->A8->G):G:=ad8 h.2 (k h.1)
theorem ad10 {A0 A1 A2 A3 A4 A5 A6 A7 A8 A9 G:Prop} (h:A0/\A1/\A2/\A3/\A4/\A5/\A6/\A7/\A8/\A9) (k:A0->A1->A2->A3->A4->A5->A6->A7->A8->A9->G):G:=ad9 h.2 (k h.1)
theorem ad11 {A0 A1 A2 A3 A4 A5 A6 A7 A8 A9 A10 G:Prop} (h:A0/\A1/\A2/\A3/\A4/\A5/\A6/\A7/\A8/\A9/\A10) (k:A0->A1->A2->A3->A4->A5->A6->A7->A8->A9->A10->G):G:=ad10 h.2 (k h.1)
theorem ad12 {A0 A1 A2 A3 A4 A5 A6 A7 A8 A9 A10 A11 G:Prop} (h:A0/\A1/\A2/\A3/\A4/\A5/\A6/\A7/\A8/\A9/\A10/\A11) (k:A0->A1->A2->A3->A4->A5->A6->A7->A8->A9->A10->A11->G):G:=ad11 h.2 (k h.1)
theorem ad13 {A0 A1 A2 A3 A4 A5 A6 A7 A8 A9 A10 A11 A12 G:Prop} (h:A0/\A1/\A2/\A3/\A4/\A5/\A6/\A7/\A8/\A9/\A10/\A11/\A12) (k:A0->A1->A2->A3->A4->A5->A6->A7->A8->A9->A10->A11->A12->G):G:=ad12 h.2 (k h.1)
theorem ad14 {A0 A1 A2 A3 A4 A5 A6 A7 A8 A9 A10 A11 A12 A13 G:Prop} (h:A0/\A1/\A2/\A3/\A4/\A5/\A6/\A7/\A8/\A9/\A10/\A11/\A12/\A13) (k:A0->A1->A2->A3->A4->A5->A6->A7->A8->A9->A10->A11->A12->A13->G):G:=ad13 h.2 (k h.1)
theorem ad15 {A0 A1 A2 A3 A4 A5 A6 A7 A8 A9 A10 A11 A12 A13 A14 G:Prop} (h:A0/\A1/\A2/\A3/\A4/\A5/\A6/\A7/\A8/\A9/\A10/\A11/\A12/\A13/\A14) (k:A0->A1->A2->A3->A4->A5->A6->A7->A8->A9->A10->A11->A12->A13->A14->G):G:=ad14 h.2 (k h.1)
theorem ad16 {A0 A1 A2 A3 A4 A5 A6 A7 A8 A9 A10 A11 A12 A13 A14 A15 G:Prop} (h:A0/\A1/\A2/\A3/\A4/\A5/\A6/\A7/\A8/\A9/\A10/\A11/\A12/\A13/\A14/\A15) (k:A0->A1->A2->A3->A4->A5->A6->A7->A8->A9->A10->A11->A12->A13->A14->A15->G):G:=ad15 h.2 (k h.1)
open Lean in
def obC (s:Syntax):Option (Array Syntax):=
 if s.isOfKind `Lean.Parser.Tactic.rcasesPat.tuple then some s[1].getSepArgs else none
open Lean in
def obOne (s:Syntax):Option Syntax:=
 if s.isOfKind `Lean.Parser.Tactic.rcasesPatLo then
  if s[1].getNumArgs==0&&s[0][0].getSepArgs.size==1 then some s[0][0].getSepArgs[0]! else none
 else if s.isOfKind `Lean.Parser.Tactic.rcasesPatMed then
  if s[0].getSepArgs.size==1 then some s[0].getSepArgs[0]! else none
 else none
open Lean in
def obId (s:Syntax):Option Ident:=
 match obOne s with
 |some q=>if q.isOfKind `Lean.Parser.Tactic.rcasesPat.one&&q[0].isIdent&&q[0].getId != `rfl then some ⟨q[0]⟩
   else if q.isOfKind `Lean.Parser.Tactic.rcasesPat.ignore then some (mkIdent `_h) else none
 |none=>none
open Lean in
def obGo (cs:Array Syntax) (e:Term) (first:Bool):MacroM (TSyntax `tactic):=do
 let lo:Array (TSyntax `Lean.Parser.Tactic.rcasesPatLo):=cs.map fun x=>⟨x⟩
 let whole<-`(tactic|rcases $e:term with ⟨$lo,*⟩)
 let n:=cs.size
 if n<3 then return whole
 let R:=mkIdent `zr
 let ids:=(cs.toList.takeWhile fun c=>(obId c).isSome).toArray.map fun c=>(obId c).get!
 let m:=ids.size
 let more (k:Nat) (r:Term):MacroM (TSyntax `tactic):=do
  let q:=lo.extract k n
  `(tactic|obtain ⟨$q,*⟩:=$r)
 let cl<-if e.raw.isIdent then `(tactic|try clear $(⟨e.raw⟩):ident) else `(tactic|skip)
 if m<2 then
  let k:=m+1
  if n-k<2 then return whole
  let pre:=lo.extract 0 k
  let t<-more k R
  return<-`(tactic|(rcases $e:term with ⟨$pre,*,$R:ident⟩<;>$t))
 let mut alts:Array (TSyntax `Lean.Parser.Tactic.tacticSeq):=#[]
 for pre in ["ex","ad"] do
  let lim:=if pre=="ex" then 16 else 16
  for d in [0:m] do
   let j:=m-d
   if j<2||lim<j+1 then continue
   let j:=if j==n then n-1 else j
   let f:=mkIdent (.mkSimple (pre++toString (if pre=="ex" then j else j+1)))
   let rest:=cs.extract j n
   let (r,t)<-do
    if rest.size==1 then match obId rest[0]! with
     |some i=>pure (i,<-`(tactic|skip))
     |none=>pure (R,<-`(tactic|rcases $R:ident with $(⟨rest[0]!⟩):rcasesPatLo))
    else pure (R,<-more j R)
   let xs:=(ids.extract 0 j).push r
   let ts<-`(Lean.Parser.Tactic.tacticSeq|refine $f $e ?_;$cl:tactic;intro $[$xs:ident]*;$t:tactic)
   if !(d==1&&m==n) then alts:=alts.push ts
 alts:=alts.push (<-`(Lean.Parser.Tactic.tacticSeq|$whole:tactic))
 `(tactic|first $[|$alts]*)
open Lean in
local macro_rules|`(tactic|obtain $p:rcasesPatMed:=$e)=>do
 match obOne p >>= obC with
 |some cs=>if cs.size<4 then Macro.throwUnsupported else obGo cs e true
 |none=>Macro.throwUnsupported
@[elab_as_elim] theorem rwL {α:Sort _} {a b:α} {motive:α->Prop} (h:a=b) (m:motive b):motive a:=h▸m
@[elab_as_elim] theorem rwR {α:Sort _} {a b:α} {motive:α->Prop} (h:b=a) (m:motive b):motive a:=h▸m
local macro_rules|`(tactic|erw[$e:term])=>`(tactic|first|refine rwL ($e ..) ?_|rewrite[$e:term])|`(tactic|erw[←$e:term])=>`(tactic|first|refine rwR ($e ..) ?_|rewrite[←$e])
local macro_rules|`(tactic|rw[$r])=>`(tactic|(erw[$r];try with_reducible rfl))|`(tactic|rw[$r,$rs,*])=>`(tactic|(erw[$r];rw[$rs,*]))
open Lean in
def cv:Nat->Syntax->MacroM (TSyntaxArray `rcasesPat)
|0,_=>Macro.throwUnsupported
|n+1,s=>do match s with
 |`($a||$b)=>return (<-cv n a)++(<-cv n b)
 |`(($a,$b,*))=>do
  let ps<-(#[a]++b.getElems).mapM fun x=>do
   let q<-cv n x
   `(Lean.Parser.Tactic.rcasesPatLo|$[$q:rcasesPat]|*)
  return #[<-`(rcasesPat|⟨$ps,*⟩)]
 |`(_)=>return #[<-`(rcasesPat|_)]
 |`($x:ident)=>return #[<-`(rcasesPat|$x:ident)]
 |_=>Macro.throwUnsupported
local macro_rules|`(tactic|let $p:term:=$e)=>do
 let q<-cv 9 p
 `(tactic|obtain $[$q:rcasesPat]|*:=$e)
local macro_rules|`(tactic|let $i:letId $b* $[:$t]?:=$e)=>`(tactic|have $i:letId $b* $[:$t]?:=$e)
local macro_rules|`(!$x)=>`(List $x)
local macro_rules|`($a > $b)=>`($a=some $b)
local macro_rules|`(let $i:letId $b* $[:$t]?:=$e;$r)=>`(have $i:letId $b* $[:$t]?:=$e;$r)
local macro_rules|`(tactic|show $e)=>`(tactic|refine $e)
open Sum (inl inr)
local macro_rules|`(↑$x:ident)=>`(some (.ref $x:ident))
local macro_rules|`(-$x:ident)=>`(($x:ident).mono (by decide))
local macro_rules|`(($a,$b,$c,$d,*))=>`(⟨$a,$b,$c,$d,*⟩)|`(($a,$b,$c))=>`(⟨$a,$b,$c⟩)
local macro_rules|`(abbrev $i:declId $s:optDeclSig $v:declVal)=>`(noncomputable abbrev $i:declId $s:optDeclSig $v:declVal)
local macro_rules|`(())=>`((rfl,rfl,rfl,by decide+kernel,rfl,by decide+kernel,by decide+kernel))
local macro_rules|`(#[$n:num,$b])=>`([(nat_lit $n,$b)])|`(#[$n:num,$b,$c,*])=>`((nat_lit $n,$b)::#[$c,*])
local macro_rules|`(def $i:declId $s:optDeclSig $v:declVal)=>`(noncomputable def $i:declId $s:optDeclSig $v:declVal)
local macro_rules | `(tactic| omega) => `(tactic| first | with_reducible assumption | decide | lia | omega (config := {}))
def aA:=@List.mem_cons_self
def bA:=@List.mem_singleton
def cA:=@List.mem_map
def dA:=@PySem.wpAny_bind
def fA:=@if_neg
def iA:=@List.length_map
def jA:=@if_pos
def kA:=@List.mem_append
def nA:=@List.map_append
def pA:=@decide_eq_true
def qA:=@List.mem_cons_of_mem
def rA:=@Option.some.inj
def uA:=@List.mem_cons
def vA:=@List.mem_append_right
def wA:=@PySem.wpAny_pure
def xA:=@List.length_append
def yA:=@Nat.le_refl
def zA:=@PySem.Heap.get?_push_of_some
def AA:=@Bool.false_ne_true
def BA:=@List.map_cons
def CA:=@List.map_map
def DA:=@decide_eq_false
def EA:=@List.mem_append_left
def FA:=@List.size_toArray
def HA:=@List.mem_filter
def IA:=@List.map_congr_left
def JA:=@PySem.Heap.lt_size
def KA:=@List.nodup_cons
def LA:=@List.nodup_append
def MA:=@Bool.and_eq_true
def NA:=@Nat.lt_of_lt_of_le
def OA:=@List.getD_eq_getElem?_getD
def QA:=@List.getElem?_eq_some_iff
def SA:=@PySem.Heap.get?_push_size
def UA:=@List.append_assoc
def VA:=@List.mem_of_getElem?
def WA:=@List.getElem?_eq_getElem
def XA:=@Bool.false_eq_true
def YA:=@Nat.ne_of_lt
def ZA:=@decide_eq_true_eq
def aB:=@List.length_take
def bB:=@List.not_mem_nil
def cB:=@Option.map_eq_some_iff
def dB:=@List.length_cons
def fB:=@List.count_append
def iB:=@List.getElem?_map
def jB:=@List.getElem?_append_right
def kB:=@Sum.inl.inj
def mB:=@List.take_add_one
def nB:=@PySem.PassesOwn.leaving
def pB:=@PySem.wpAny_mono
def qB:=@List.length_replicate
def rB:=@Bool.eq_iff_iff
def uB:=@List.append_nil
def vB:=@List.filter_cons
def wB:=@List.take_length
def xB:=@List.getElem?_append_left
def yB:=@List.length_singleton
def zB:=@Nat.le_trans
def AB:=@List.getLast?_concat
def BB:=@PySem.wpAny_holding
def CB:=@PySem.BindsTo.of_defaults
def DB:=@Int.le_refl
def EB:=@of_decide_eq_true
def FB:=@List.length_filter_le
def HB:=@if_false
def IB:=@List.map_nil
def JB:=@List.filter_append
def KB:=@List.filter_cons_of_neg
def LB:=@Array.getElem?_eq_some_iff
def MB:=@PySem.Calls.callWith_builtin
def NB:=@PySem.Heap.get?_update_other
def OB:=@Int.toNat_natCast
def PB:=@List.length_range
def QB:=@List.replicate_succ
def SB:=@beq_eq_false_iff_ne
def TB:=@List.length_drop
def UB:=@List.mem_filterMap
def VB:=@List.pairwise_cons
def WB:=@beq_iff_eq
def XB:=@List.count_singleton
def YB:=@List.filter_congr
def ZB:=@List.filter_cons_of_pos
def aC:=@List.flatten_cons
def bC:=@List.getElem?_replicate
def cC:=@PySem.wpAny_truthy_bool
def dC:=@PyProof.Rows.boot_isinstance
def eC:=@Array.length_toList
def fC:=@List.filterMap_cons
def iC:=@List.filter_sublist
def jC:=@Array.getD_eq_getD_getElem?
def kC:=@List.take_of_length_le
def lC:=@PyProof.Rows.boot_list
def mC:=@PyProof.Rows.callWith_type1
def nC:=@List.lookup_cons
def oC:=@Int.emod_lt_of_pos
def pC:=@List.mem_range
def qC:=@List.filter_map
def rC:=@Option.map_some
def uC:=@Bool.eq_false_iff
def vC:=@Nat.zero_le
def wC:=@congrFun
def xC:=@Nat.lt_irrefl
def yC:=@if_true
def zC:=@or_false
local macro_rules|`(⋯)=>`(by omega)
local macro_rules|`(∅)=>`(by decide+kernel)
local macro_rules|`(tactic|rfl')=>`(tactic|walk_at "wp")
namespace Hd
open PySem PySem.W PySem.Calls PyProof.Rows
def OG (tb:String->Option Builtin) (p:Program) (w:World) (n0:Nat) (ann:Option Value):Nat->SharedT->Thread->Option SharedT
 |0,_,_=>none
 |n+1,s,t=>match through t with
  |true=>some s
  |false=>match stepOk n0 ann t with
   |false=>none
   |true=>match stepT (denote tb) p w s t with
    |some (s',t')=>OG tb p w n0 ann n s' t'
    |none=>none
theorem N3 {tb:String->Option Builtin} {p:Program} {w:World} {n0:Nat} {ann:Option Value}:∀{n:Nat} {s r:SharedT} {t:Thread},OG tb p w n0 ann n s t>r->topRun tb p w n0 ann n s.abs t>r.abs
 |0,_,_,_,h=>by cases h
 |n+1,s,r,t,h=>by
  unfold OG at h;unfold topRun;cases he:through t with
  |true=>rw[he] at h;cases h;rfl
  |false=>
   rw[he] at h;cases hk:stepOk n0 ann t with
   |false=>rw[hk] at h;cases h
   |true=>
    rw[hk] at h;cases hs:stepT (denote tb) p w s t with
    |none=>rw[hs] at h;cases h
    |some x=>let(s2,t2):=x;rw[hs] at h;rw[stepT_spec hs];show N3 h
def KO:!Obj->Nat->BT->BT
 |[],_,t=>t
 |o::l,n,t=>KO l (n+1) (t.ins n o)
def LO (P:Params):BT:=KO (boot_heap P).objs.toList 0 .nil
def lG (w:World) (os:OsState):SharedT:=(LO w.params,(boot_heap w.params).objs.size,(boot_heap w.params).life, #[],boot_drawn,boot_toks,os)
theorem xc (w:World) (q:OsState):(lG w q).abs=(boot_heap w.params, #[],boot_drawn,boot_toks,q):=by kernel_rfl
theorem yc (w:World):((boot_heap w.params).isNs mainGlobals&&(#[]:Array GenState).size == 0)=true:=by kernel_rfl
abbrev BF (w:World):Option Value:=(boot_heap w.params).nsMap mainGlobals "__annotations__"
def look {α:Type} (p:Program) (Yf:Shared->α) (H0:Heap) (s:Shared):Bool×α:=
 (staticsOk (importedModules p.main.body) H0 s.heap&&namesBound p s.heap&&gensDone s&&laidKept H0 s.heap,Yf s)
def FS (p:Program) (N:Nat) (w:World) (os:OsState):Option SharedT:=OG treeTable p w (boot_heap w.params).objs.size (BF w) N (lG w os) (topStub p)
def once {α:Type} (p:Program) (Yf:Shared->α) (N:Nat) (w:World) (os:OsState):=(FS p N w os).map λs=>look p Yf (boot_heap w.params) s.abs
def mE (p q:Program) (loose:!Str) (Xt:Shared->Bool) (N:Nat) (w:World) (os:OsState):=(FS p N w os).map λs=>openSeen q loose (importedModules p.main.body) Xt true s.abs
end Hd
namespace Hd
open PySem PySem.W
def O3:Nat->Nat->!Nat
 |0,_=>[]
 |k+1,n=>match Nat.beq n 0 with
  |true=>[]
  |false=>Nat.sub (n % 256) 1::O3 k (n / 256)
def S (n:Nat):Str:=⟨⟨O3 200 n⟩⟩
def zc (P:Params) (x:Str) (t:Nat) (v:Value):DictEntry:=(PyData.keyHash P x,.str x t,v)
def dO (n:Nat) (l:!DictEntry):Obj:=(.type "dict",none,.dict ⟨l⟩ n, #[])
def tO (l:!Value):Obj:=(.type "tuple",none,.seq ⟨l⟩ 0, #[])
def cO (l:!Value):Obj:=(.type "code",none,.fields ⟨l⟩, #[])
end Hd
namespace Hd
open PySem PySem.W PySem.Calls PyProof.Rows
def CN (tb:String->Option Builtin) (p:Program) (w:World) (n0:Nat) (ann:Option Value):Nat->SharedT->Thread->Option (SharedT×Thread)
 |0,s,t=>some (s,t)
 |n+1,s,t=>match through t with
  |true=>none
  |false=>match stepOk n0 ann t with
   |false=>none
   |true=>match stepT (denote tb) p w s t with
    |some (s',t')=>CN tb p w n0 ann n s' t'
    |none=>none
theorem P3 {tb:String->Option Builtin} {p:Program} {w:World} {n0:Nat} {ann:Option Value}:∀{n:Nat} {s s':SharedT} {t t':Thread},CN tb p w n0 ann n s t>(s',t')->topGo tb p w n0 ann n s.abs t>(s'.abs,t')
 |0,_,_,_,_,h=>by cases h;rfl
 |n+1,s,s',t,t',h=>by
  unfold CN at h;unfold topGo;cases he:through t with
  |true=>rw[he] at h;cases h
  |false=>
   rw[he] at h;cases hk:stepOk n0 ann t with
   |false=>rw[hk] at h;cases h
   |true=>
    rw[hk] at h;cases hs:stepT (denote tb) p w s t with
    |none=>rw[hs] at h;cases h
    |some x=>let(s2,t2):=x;rw[hs] at h;rw[stepT_spec hs];show P3 h
theorem VL {J:String->Option Builtin} {p:Program} {w:World} {F:Nat} {D:Option Value} {env:Env} {q:Pos} {n N i:Nat} {s s':SharedT} {r:Shared} {l:!Stmt} {c:Code} {pos L:Pos} (h:segRunT J p w F D 1 n s (piecesOf (l.take i) env c pos [topFrame q])>(.next,(s',(c,L))))
  (k:topRun J p w F D N s'.abs (restOf (l.drop i) env c L [topFrame q])>r):topRun J p w F D (n+N) s.abs (restOf l env c pos [topFrame q])>r:=by
 have:=piece_app (segRun_of h) k;rwa[List.take_append_drop] at this
theorem Oc {p q:Program} {loose:!Str} {Xt:Shared->Bool} {J:Type} {Yf:Shared->J} {Ya:World->J} {N Nl:Nat} {S:World->OsState->SharedT} {t:Thread}
  (e:opening p=plainProg p.main.scope.names) (W:Nat.ble 600 N=true) (f:∀s,fenceModules? p s>s)
  (QO:∀(w:World) (D:OsState) (r:Shared),topRun treeTable p w (boot_heap w.params).objs.size (BF w) Nl (S w D).abs t>r->topRun treeTable p w (boot_heap w.params).objs.size (BF w) N (lG w D).abs (topStub p)>r)
  (one:∀(w:World) (D:OsState),(OG treeTable p w (boot_heap w.params).objs.size (BF w) Nl (S w D) t).map (λs=>look p Yf (boot_heap w.params) s.abs)>(true,Ya w))
  (two:∀(w:World) (D:OsState),(OG treeTable p w (boot_heap w.params).objs.size (BF w) Nl (S w D) t).map (λs=>openSeen q loose (importedModules p.main.body) Xt true s.abs)>(openGood q loose)):LeftO p q loose Xt Yf Ya N:=λw=>by
 let((h,V,L,k,D),O,U):=cB.mp (boot_open e W f w);obtain⟨rfl,rfl,rfl,rfl⟩:h=boot_heap w.params/\V= #[]/\L=boot_drawn/\k=boot_toks:=by simpa using U
 let(F,r,l):=cB.mp (one w D);let(a2,a1,Z):=cB.mp (two w D);obtain rfl:F=a2:=rA (r.symm.trans a1);let r:=QO w D _ (N3 r);rw[xc] at r;obtain⟨Y,a0⟩:_/\_:=by simpa only[look,Prod.mk.injEq] using l
 let t:topFrom treeTable p w N (boot_heap w.params, #[],boot_drawn,boot_toks,D)>F.abs:=by
  unfold topFrom;dsimp only;rw[yc w,r];change (match staticsOk (importedModules p.main.body) (boot_heap w.params) F.abs.heap&&namesBound p F.abs.heap&&gensDone F.abs&&laidKept (boot_heap w.params) F.abs.heap with|true=>_|false=>_)=_;rw[Y]
 unfold openEnds;rw[O];change (topFrom treeTable p w N _).map _=_;rw[t];show congrArg some (Prod.ext Z a0)
end Hd
namespace Hd
open PySem PySem.W PySem.Calls PyProof.Rows
theorem tw_run:(λ(_:(String->Option Builtin)->Program->World->Nat->Option Value->Nat->SharedT->Thread->Option SharedT)=>true) OG=true:=by k_qdec
theorem tw_go:(λ(_:(String->Option Builtin)->Program->World->Nat->Option Value->Nat->SharedT->Thread->Option (SharedT×Thread))=>true) CN=true:=by k_qdec
theorem tw_boot:(λ(_:World->OsState->SharedT) (_:World->Option Value)=>true) lG BF=true:=by k_qdec
end Hd
namespace Hd
open PySem PySem.W PySem.Calls PyProof.Rows
def yH (s:SharedT) (a:Addr):Option Obj:=match Nat.blt a s.n with
 |true=>match s.tree.get a with
  |some o=>alive o
  |none=>alive default
 |false=>none
theorem Wc (s:SharedT) (a:Addr):yH s a=s.abs.heap.get? a:=by
 unfold yH;cases e:Nat.blt a s.n with
 |false=>show (abs_get_none λh=>by rw[show Nat.blt a s.n=true from Nat.ble_eq_true_of_le h] at e;cases e).symm
 |true=>
  let lt:a < s.n:=Nat.le_of_ble_eq_true e;cases g:s.tree.get a with
  |some o=>show (abs_get lt g).symm
  |none=>
   change _=(absHeap s.tree s.n s.life).get? a;unfold Heap.get?;rw[absHeap_at,jA lt,g]
   rfl
def mG (p q:Program) (loose:!Str) (Xt:Shared->Bool) (as:!Addr) (H0:Heap) (s:SharedT):=
 ((staticsOk (importedModules p.main.body) H0 s.abs.heap&&namesBound p s.abs.heap&&gensDone s.abs&&laidKept H0 s.abs.heap,as.map (yH s)),openSeen q loose (importedModules p.main.body) Xt true s.abs)
theorem Xc {p q:Program} {loose:!Str} {Xt:Shared->Bool} {as:!Addr} {F:Heap} {r:Option SharedT} {K:!(Option Obj)} (h:r.map (mG p q loose Xt as F)>((true,K),openGood q loose)):
  r.map (λs=>look p (λs=>as.map s.heap.get?) F s.abs)>(true,K):=by
 let(s,rfl,l):=cB.mp h;let D:=congrArg Prod.fst l;let e:as.map (yH s)=as.map s.abs.heap.get?:=IA λa ο=>Wc s a;unfold mG at D;rw[e] at D;show congrArg some D
theorem Yc {p q:Program} {loose:!Str} {Xt:Shared->Bool} {as:!Addr} {D:Heap} {r:Option SharedT} {K:!(Option Obj)} (h:r.map (mG p q loose Xt as D)>((true,K),openGood q loose)):
  r.map (λs=>openSeen q loose (importedModules p.main.body) Xt true s.abs)>(openGood q loose):=by
 let(s,rfl,l):=cB.mp h;show congrArg some (congrArg Prod.snd l)
def RO (p q:Program) (loose:!Str) (Xt:Shared->Bool) (as:!Addr) (N:Nat) (w:World) (os:OsState):=(FS p N w os).map (mG p q loose Xt as (boot_heap w.params))
theorem tw_look2:(λ(_:Program->Program->!Str->(Shared->Bool)->!Addr->Heap->SharedT->_)=>true) mG=true:=by k_qdec
theorem tw_once2:(λ(_:Program->Program->!Str->(Shared->Bool)->!Addr->Nat->World->OsState->Option _)=>true) RO=true:=by k_qdec
end Hd
namespace L2
open PySem
def CC (s:Stmt) (j:Nat):Stmt:=match s with
 |.ClassDef _ _ _ body _ _ _ _ _ _ _=>body.getD j (.Pass (0,0,0,0))
 |_=>.Pass (0,0,0,0)
def iD (s:Stmt):Arguments:=match s with
 |.FunctionDef _ a _ _ _ _ _ _ _ _=>a
 |_=>{posonlyargs:=[],args:=[],vararg:=none,kwonlyargs:=[],kw_defaults:=[],kwarg:=none,defaults:=[]}
def dD (s:Stmt):!Stmt:=match s with
 |.FunctionDef _ _ b _ _ _ _ _ _ _=>b
 |_=>[]
def AC (s:Stmt):Scope:=match s with
 |.FunctionDef _ _ _ _ _ _ sc _ _ _=>sc
 |_=>{kind:=.function,names:=[],isGenerator:=false,isCoroutine:=false}
end L2
def PySem.W.Fast.tw16012257441332394365:PySem.Program:=PySem.Challenge.pw_frameland_k53_tied_boxes
theorem PySem.W.Fast.te16012257441332394365:PySem.Challenge.pw_frameland_k53_tied_boxes=PySem.W.Fast.tw16012257441332394365:=rfl
namespace Pf
open PySem L2
def TC (i:Nat):Stmt:=PySem.Challenge.pw_frameland_k53_tied_boxes.main.body.getD i (.Pass (0,0,0,0))
noncomputable section
open Hd
def z0:Nat:=12258381344739779960409064762292322407552010388835853530719032205933
def z1:Nat:=27127582262911072
def z2:Nat:=9700865007064396754801562313776
def z3:Nat:=469986605152
def z4:Nat:=545146499936607105348423
def z5:Nat:=28835115112362063
def z6:Nat:=2037243915540886812240
def z7:Nat:=2148282720731175150147
def z8:Nat:=119247121772623
def z9:Nat:=119225645756495
def RK:Nat:=2000274411557569787472
def SK:Nat:=478459748949
def UK:Nat:=1870502957375938719823
def WK:Nat:=33048469456515151
def YK:Nat:=121429199908943
def ZK:Nat:=2054452803
def nN:Nat:=7380678962623575146
def uR:Nat:=2055256381122481779818
def vR:Nat:=36042203234783605173055285604
def wR:Nat:=7957987429399816821
def xR:Nat:=29115482190865009
def yR:Nat:=31367281986924648
def zR:Nat:=2147201852470124049748
def AR:Nat:=483571264869516729017965
def DR:Nat:=34807946493563893454802022513
def ER:Nat:=2360876520579034574696528942098788
def FR:Nat:=36328676245180164783460216160
def GR:Nat:=2166583389145247411552
def HR:Nat:=483700176494498687380832
def IR:Nat:=2054682171027530870112
def JR:Nat:=2258894781214204521824
def KR:Nat:=140785078389220449424928096
def LR:Nat:=2055908558600570826080
def MR:Nat:=122585189728952386876239200
def NR:Nat:=2259460446743534688788879056727392
def uF:Nat:=455125450472104437637216
def SE:Nat:=154789842426610354947036250589871895399
def vF:Nat:=500416517772168279997240570217455712
def wF:Nat:=140854816109632365363434125429399349832812124725344
def NN:Nat:=116512133262362862868258912
def FV:Nat:=154722281479463014256600682153103225703
def aG:Nat:=2595807759375494792423391711955702693320880999
def aL:Nat:=6944679725401530464
def OR:Nat:=6944679699547512928
def IG:Nat:=531976422797234828493252396058833767
def PR:Nat:=7814979509663852143
def QR:Nat:=7814979509662609254
def SR:Nat:=7813572057470887535
def TR:Nat:=2000274446712430424933
def GV:Nat:=32012811197779588502284105076
def jG:Nat:=604546409002214677880256391643558759
def GJ:Nat:=154722361499902317960303193115794240359
def VH:Nat:=29827101539148240018006499424
def s (n t:Nat):Value:=.str (S n) t
def i (n:Int):Value:=.int n 0
def e (P:Params) (n t:Nat) (v:Value):DictEntry:=zc P (S n) t v
def cQ' (a b t:Nat) (l n:Int) (r m:Nat):Obj:=cO [s a t,s b (t+1),s z2 (t+2),i l,i n,i 0,i 0,i 3,.ref r,.bool true,i 181,.ref (r+1),.none,.ref (r+2),.ref (r+3),.ref (r+4),i m,i l,s z2 (m+1)]
def cR' (a b t:Nat) (l:Int) (r m:Nat):Obj:=cO [s a t,s b (t+1),s z2 (t+2),i l,i 0,i 0,i 0,i 0,.ref r,.bool false,i 181,.ref (r+1),.none,.none,.none,.none,i m,i l,s z2 (m+1)]
def fO (a b:String) (x:Stmt) (m r:Value):Obj:=(.type "function",none,.func (W.fnOf (Str.ofString a) (Str.ofString b) (iD x) (dD x) (AC x) .none .none .none m none r .none), #[])
def kP' (n:String) (b m:!Value) (d:Nat) (u:!Value) (x y v w:Nat):Obj:=(.type "type",none,.cls {name:=Str.ofString n,bases:=b,mro:=m,ns:=d,qualname:=Str.ofString n,hasDict:=true,slotNames:=[],subclasses:=u,abstract:=false,collection:=none,hasDel:=false}, #[none,none,some (s x y),some (s v w),some (.builtin "object.__new__"),some (.bool true)])
def fP' (a:String) (x:Stmt) (m:Value) (r:Nat):Obj:=fO a a x m (.ref r)
def o3 (P:Params):Obj:=dO 52 [e P 6944663249689206880 165 (s z0 1246),e P z1 166 .none,e P 116512114954948911152848992 167 .none,e P 455126385231797511086176 168 (.builtin "__main__.__loader__#opaque"),e P 6944661016558198880 169 .none,e P 500416834696884185539869749159288928 170 (.ref 6),e P 29827167671303893903271485536 171 (.ref 4),e P 6944663245527933024 173 (s z2 172),e P 455125376429887381069920 174 .none,e P z3 193 (.ref 21),e P 1161971283 195 (.int (1) 194),e P 302078645080 197 (.int (2) 196),e P z4 217 (.ref 31),e P z5 233 (.ref 44),e P z6 249 (.ref 56),e P z7 265 (.ref 68),e P z8 281 (.ref 80),e P z9 297 (.ref 92),e P RK 313 (.ref 104),e P SK 329 (.ref 116),e P UK 345 (.ref 128),e P WK 361 (.ref 140),e P YK 377 (.ref 152),e P ZK 393 (.ref 164),e P nN 402 (.ref 173),e P uR 411 (.ref 180),e P 101952521820057743536705614 415 (.int (3) 414),e P vR 422 (.ref 187),e P 113732351258470 429 (.ref 194),e P wR 438 (.ref 201),e P xR 448 (.ref 208),e P yR 456 (.ref 215),e P 111490630316139 466 (.ref 222),e P zR 619 (.ref 337),e P 23616678805231350591419338830 623 (.int (64) 622),e P AR 631 (.ref 348),e P 440040583241 840 (.ref 502),e P 500069068883 1107 (.ref 697),e P 380423630684598931079812568447209550 1111 (.int (64) 1110),e P DR 1120 (.ref 708),e P ER 1129 (.ref 715),e P 439988939092 1245 (.ref 802),e P FR 1255 (.ref 813),e P GR 1265 (.ref 820),e P HR 1273 (.ref 827),e P IR 1284 (.ref 834),e P JR 1292 (.ref 841),e P KR 1304 (.ref 848),e P LR 1322 (.ref 855),e P MR 1334 (.ref 862),e P NR 1340 (.ref 867),e P 7889517 1362 (.ref 874)]
def r8 (P:Params):Obj:=dO 3 [e P uF 207 (s SE 198),e P vF 211 (.int (7) 210),e P wF 212 (.ref 29),e P NN 214 (.ref 32),e P z1 215 .none]
def t8:Obj:=((.type "type"),none,.cls {name:=(Str.ofString "FrameError"),bases:=[(.type "ValueError")],mro:=[.ref 31,(.type "ValueError"),(.type "Exception"),(.type "BaseException"),(.type "object")],ns:=30,qualname:=(Str.ofString "FrameError"),hasDict:=true,slotNames:=[],subclasses:=[.ref 44,.ref 56,.ref 68,.ref 80,.ref 92,.ref 104,.ref 116,.ref 128,.ref 140,.ref 152,.ref 164],abstract:=false,collection:=none,hasDel:=false}, #[(some (.ref 22)),none,(some (s z4 200)),(some (s z4 208)),(some (.builtin "ValueError.__new__")),(some (.bool true))])
def u8 (P:Params):Obj:=dO 2 [e P uF 225 (s SE 198),e P vF 229 (.int (9) 228),e P wF 230 (.ref 42),e P z1 231 .none]
def v8:Obj:=((.type "type"),none,.cls {name:=(Str.ofString "NoShape"),bases:=[.ref 31],mro:=[.ref 44,.ref 31,(.type "ValueError"),(.type "Exception"),(.type "BaseException"),(.type "object")],ns:=43,qualname:=(Str.ofString "NoShape"),hasDict:=true,slotNames:=[],subclasses:=[],abstract:=false,collection:=none,hasDel:=false}, #[(some (.ref 35)),none,(some (s z5 218)),(some (s z5 226)),(some (.builtin "ValueError.__new__")),(some (.bool true))])
def w8 (P:Params):Obj:=dO 2 [e P uF 241 (s SE 198),e P vF 245 (.int (11) 244),e P wF 246 (.ref 54),e P z1 247 .none]
def y8:Obj:=((.type "type"),none,.cls {name:=(Str.ofString "OutOfRoom"),bases:=[.ref 31],mro:=[.ref 56,.ref 31,(.type "ValueError"),(.type "Exception"),(.type "BaseException"),(.type "object")],ns:=55,qualname:=(Str.ofString "OutOfRoom"),hasDict:=true,slotNames:=[],subclasses:=[],abstract:=false,collection:=none,hasDel:=false}, #[(some (.ref 47)),none,(some (s z6 234)),(some (s z6 242)),(some (.builtin "ValueError.__new__")),(some (.bool true))])
def N8 (P:Params):Obj:=dO 2 [e P uF 257 (s SE 198),e P vF 261 (.int (13) 260),e P wF 262 (.ref 66),e P z1 263 .none]
def O8:Obj:=((.type "type"),none,.cls {name:=(Str.ofString "BadRights"),bases:=[.ref 31],mro:=[.ref 68,.ref 31,(.type "ValueError"),(.type "Exception"),(.type "BaseException"),(.type "object")],ns:=67,qualname:=(Str.ofString "BadRights"),hasDict:=true,slotNames:=[],subclasses:=[],abstract:=false,collection:=none,hasDel:=false}, #[(some (.ref 59)),none,(some (s z7 250)),(some (s z7 258)),(some (.builtin "ValueError.__new__")),(some (.bool true))])
def P8 (P:Params):Obj:=dO 2 [e P uF 273 (s SE 198),e P vF 277 (.int (15) 276),e P wF 278 (.ref 78),e P z1 279 .none]
def Q8:Obj:=((.type "type"),none,.cls {name:=(Str.ofString "NoTask"),bases:=[.ref 31],mro:=[.ref 80,.ref 31,(.type "ValueError"),(.type "Exception"),(.type "BaseException"),(.type "object")],ns:=79,qualname:=(Str.ofString "NoTask"),hasDict:=true,slotNames:=[],subclasses:=[],abstract:=false,collection:=none,hasDel:=false}, #[(some (.ref 71)),none,(some (s z8 266)),(some (s z8 274)),(some (.builtin "ValueError.__new__")),(some (.bool true))])
def R8 (P:Params):Obj:=dO 2 [e P uF 289 (s SE 198),e P vF 293 (.int (17) 292),e P wF 294 (.ref 90),e P z1 295 .none]
def S8:Obj:=((.type "type"),none,.cls {name:=(Str.ofString "NoBank"),bases:=[.ref 31],mro:=[.ref 92,.ref 31,(.type "ValueError"),(.type "Exception"),(.type "BaseException"),(.type "object")],ns:=91,qualname:=(Str.ofString "NoBank"),hasDict:=true,slotNames:=[],subclasses:=[],abstract:=false,collection:=none,hasDel:=false}, #[(some (.ref 83)),none,(some (s z9 282)),(some (s z9 290)),(some (.builtin "ValueError.__new__")),(some (.bool true))])
def ZP (P:Params):Obj:=dO 2 [e P uF 305 (s SE 198),e P vF 309 (.int (19) 308),e P wF 310 (.ref 102),e P z1 311 .none]
def aQ:Obj:=((.type "type"),none,.cls {name:=(Str.ofString "OutOfBank"),bases:=[.ref 31],mro:=[.ref 104,.ref 31,(.type "ValueError"),(.type "Exception"),(.type "BaseException"),(.type "object")],ns:=103,qualname:=(Str.ofString "OutOfBank"),hasDict:=true,slotNames:=[],subclasses:=[],abstract:=false,collection:=none,hasDel:=false}, #[(some (.ref 95)),none,(some (s RK 298)),(some (s RK 306)),(some (.builtin "ValueError.__new__")),(some (.bool true))])
def bQ (P:Params):Obj:=dO 2 [e P uF 321 (s SE 198),e P vF 325 (.int (21) 324),e P wF 326 (.ref 114),e P z1 327 .none]
def cQ:Obj:=((.type "type"),none,.cls {name:=(Str.ofString "Taken"),bases:=[.ref 31],mro:=[.ref 116,.ref 31,(.type "ValueError"),(.type "Exception"),(.type "BaseException"),(.type "object")],ns:=115,qualname:=(Str.ofString "Taken"),hasDict:=true,slotNames:=[],subclasses:=[],abstract:=false,collection:=none,hasDel:=false}, #[(some (.ref 107)),none,(some (s SK 314)),(some (s SK 322)),(some (.builtin "ValueError.__new__")),(some (.bool true))])
def dQ (P:Params):Obj:=dO 2 [e P uF 337 (s SE 198),e P vF 341 (.int (23) 340),e P wF 342 (.ref 126),e P z1 343 .none]
def eQ:Obj:=((.type "type"),none,.cls {name:=(Str.ofString "NotMapped"),bases:=[.ref 31],mro:=[.ref 128,.ref 31,(.type "ValueError"),(.type "Exception"),(.type "BaseException"),(.type "object")],ns:=127,qualname:=(Str.ofString "NotMapped"),hasDict:=true,slotNames:=[],subclasses:=[],abstract:=false,collection:=none,hasDel:=false}, #[(some (.ref 119)),none,(some (s UK 330)),(some (s UK 338)),(some (.builtin "ValueError.__new__")),(some (.bool true))])
def fQ (P:Params):Obj:=dO 2 [e P uF 353 (s SE 198),e P vF 357 (.int (25) 356),e P wF 358 (.ref 138),e P z1 359 .none]
def iQ:Obj:=((.type "type"),none,.cls {name:=(Str.ofString "NoRight"),bases:=[.ref 31],mro:=[.ref 140,.ref 31,(.type "ValueError"),(.type "Exception"),(.type "BaseException"),(.type "object")],ns:=139,qualname:=(Str.ofString "NoRight"),hasDict:=true,slotNames:=[],subclasses:=[],abstract:=false,collection:=none,hasDel:=false}, #[(some (.ref 131)),none,(some (s WK 346)),(some (s WK 354)),(some (.builtin "ValueError.__new__")),(some (.bool true))])
def jQ (P:Params):Obj:=dO 2 [e P uF 369 (s SE 198),e P vF 373 (.int (27) 372),e P wF 374 (.ref 150),e P z1 375 .none]
def kQ:Obj:=((.type "type"),none,.cls {name:=(Str.ofString "NoRoom"),bases:=[.ref 31],mro:=[.ref 152,.ref 31,(.type "ValueError"),(.type "Exception"),(.type "BaseException"),(.type "object")],ns:=151,qualname:=(Str.ofString "NoRoom"),hasDict:=true,slotNames:=[],subclasses:=[],abstract:=false,collection:=none,hasDel:=false}, #[(some (.ref 143)),none,(some (s YK 362)),(some (s YK 370)),(some (.builtin "ValueError.__new__")),(some (.bool true))])
def lQ (P:Params):Obj:=dO 2 [e P uF 385 (s SE 198),e P vF 389 (.int (29) 388),e P wF 390 (.ref 162),e P z1 391 .none]
def mQ:Obj:=((.type "type"),none,.cls {name:=(Str.ofString "Busy"),bases:=[.ref 31],mro:=[.ref 164,.ref 31,(.type "ValueError"),(.type "Exception"),(.type "BaseException"),(.type "object")],ns:=163,qualname:=(Str.ofString "Busy"),hasDict:=true,slotNames:=[],subclasses:=[],abstract:=false,collection:=none,hasDel:=false}, #[(some (.ref 155)),none,(some (s ZK 378)),(some (s ZK 386)),(some (.builtin "ValueError.__new__")),(some (.bool true))])
def nQ:Obj:=cQ' nN nN 396 32 1 167 400
def oQ:Obj:=fP' "is_whole" (TC 17) (s FV 394) 172
def HV:Obj:=cQ' uR uR 403 34 3 174 409
def IV:Obj:=fP' "is_within" (TC 18) (s FV 394) 179
def JV:Obj:=cQ' vR vR 416 38 1 181 420
def LV:Obj:=fP' "check_rights" (TC 21) (s aG 412) 186
def MV:Obj:=cQ' 113732351258470 113732351258470 423 41 1 188 427
def NV:Obj:=fP' "end_of" (TC 22) (s aG 412) 193
def OV:Obj:=cQ' wR wR 430 43 2 195 436
def PV:Obj:=fP' "tie_from" (TC 23) (s aG 412) 200
def QV:Obj:=cQ' xR xR 439 48 3 202 446
def RV:Obj:=fP' "part_of" (TC 24) (s aG 412) 207
def SV:Obj:=cQ' yR yR 449 51 2 209 454
def TV:Obj:=fP' "goes_on" (TC 25) (s aG 412) 214
def UV:Obj:=cQ' 111490630316139 111490630316139 457 53 1 216 464
def WV:Obj:=fP' "joined" (TC 26) (s aG 412) 221
def XV:Obj:=cQ' aL 8395602628992143088491004079736651362039124 479 64 1 230 483
def YV:Obj:=fO "__init__" "Stretches.__init__" (CC (TC 27) 0) (s aG 412) (.ref 235)
def ZV:Obj:=((.type "tuple"),none,.seq #[.none] 0, #[])
def aW:Obj:=cQ' 7698033 9306351078043889216994357245268 486 67 5 238 494
def bW:Obj:=((.type "function"),none,.func (W.fnOf (Str.ofString "put") (Str.ofString "Stretches.put") (iD (CC (TC 27) 1)) (dD (CC (TC 27) 1)) (AC (CC (TC 27) 1)) (.ref 237) .none .none (s aG 412) none (.ref 243) .none), #[])
def cW:Obj:=cQ' 7698020 9306335362008234226815086064980 497 73 3 245 503
def dW:Obj:=fO "cut" "Stretches.cut" (CC (TC 27) 2) (s aG 412) (.ref 250)
def eW:Obj:=cQ' 516757173630863403280740 624721089673430778640529783835705258327388943700 516 80 3 259 522
def fW:Obj:=fO "check_full" "Stretches.check_full" (CC (TC 27) 4) (s aG 412) (.ref 264)
def gW:Obj:=cQ' 2165357850485127146099 2617757014156703991004303271023538183198700884 525 84 2 266 531
def hW:Obj:=fO "rights_at" "Stretches.rights_at" (CC (TC 27) 5) (s aG 412) (.ref 271)
def iW:Obj:=cQ' 129065384569461 156030475824513176713048584412386784596 534 88 2 273 540
def jW:Obj:=fO "tie_at" "Stretches.tie_at" (CC (TC 27) 6) (s aG 412) (.ref 278)
def kW:Obj:=cQ' 28823093466133610 34844981892374637606343691086821957268820 543 92 3 280 549
def lW:Obj:=fO "is_free" "Stretches.is_free" (CC (TC 27) 7) (s aG 412) (.ref 285)
def mW:Obj:=cO [s 30801127769404522 552,s 37236278633682276866180525579755284821332 553,s z2 554,i 95,i 3,i 0,i 0,i 3,.ref 287,(.bool true),i 181,.ref 288,.none,.none,.none,.ref 289,i 555,i 95,s z2 556]
def nW:Obj:=fO "is_full" "Stretches.is_full" (CC (TC 27) 8) (s aG 412) (.ref 290)
def oW:Obj:=cO [s 28541580069598314 558,s 34504653078735706780555045640184744080724 559,s z2 560,i 98,i 2,i 0,i 0,i 3,.ref 292,(.bool true),i 181,.ref 293,.none,.none,.none,.ref 294,i 561,i 98,s z2 562]
def pW:Obj:=fO "is_tied" "Stretches.is_tied" (CC (TC 27) 9) (s aG 412) (.ref 295)
def qW:Obj:=cQ' 1701671029 2057194043672392837723022735668564 564 101 1 297 568
def rW:Obj:=fO "told" "Stretches.told" (CC (TC 27) 10) (s aG 412) (.ref 302)
def sW:Obj:=cQ' 111490546888804 134783800776830844550708368151093146964 571 104 1 304 576
def tW:Obj:=fO "copied" "Stretches.copied" (CC (TC 27) 11) (s aG 412) (.ref 309)
def uW:Obj:=cQ' 31392679273066234308940950897 37951420520090778506602714804950266613495697467733332 579 109 2 311 587
def vW:Obj:=fO "place_behind" "Stretches.place_behind" (CC (TC 27) 12) (s aG 412) (.ref 316)
def wW:Obj:=cO [s 478922323667592571740785 590,s 578981562671587066094221509702201825946659681620 591,s z2 592,i 120,i 3,i 0,i 0,i 3,.ref 318,(.bool true),i 181,.ref 319,.none,.none,.none,.ref 320,i 593,i 120,s z2 594]
def xW:Obj:=fO "parts_amid" "Stretches.parts_amid" (CC (TC 27) 13) (s aG 412) (.ref 321)
def yW:Obj:=cQ' 33040738702025329 39943802116018770004276114331333133825364 596 125 2 323 602
def zW:Obj:=fO "part_at" "Stretches.part_at" (CC (TC 27) 14) (s aG 412) (.ref 328)
def AW:Obj:=cO [s 7307774714166534765 605,s 8834557535882840484900534439152844413302100 606,s z2 607,i 129,i 4,i 0,i 0,i 3,.ref 330,(.bool true),i 181,.ref 331,.none,.none,.none,.ref 332,i 608,i 129,s z2 609]
def BW:Obj:=fO "lay_amid" "Stretches.lay_amid" (CC (TC 27) 15) (s aG 412) (.ref 333)
def CW (P:Params):Obj:=dO 4 [e P uF 474 (s aG 412),e P vF 478 (.int (62) 477),e P aL 485 (.ref 236),e P 7698033 496 (.ref 244),e P 7698020 505 (.ref 251),e P 435727529576 515 (.ref 258),e P 516757173630863403280740 524 (.ref 265),e P 2165357850485127146099 533 (.ref 272),e P 129065384569461 542 (.ref 279),e P 28823093466133610 551 (.ref 286),e P 30801127769404522 557 (.ref 291),e P 28541580069598314 563 (.ref 296),e P 1701671029 570 (.ref 303),e P 111490546888804 578 (.ref 310),e P 31392679273066234308940950897 589 (.ref 317),e P 478922323667592571740785 595 (.ref 322),e P 33040738702025329 604 (.ref 329),e P 7307774714166534765 610 (.ref 334),e P wF 612 (.ref 335),e P OR 614 (.ref 338),e P NN 616 (.ref 339),e P z1 617 .none]
def DW:Obj:=kP' "Stretches" [(.type "object")] [.ref 337,(.type "object")] 336 [] zR 467 zR 475
def EW:Obj:=cQ' AR AR 624 139 1 342 629
def FW:Obj:=fP' "least_free" (TC 30) (s IG 620) 347
def GW:Obj:=cQ' aL 1954753563970360692704735984513097 644 146 2 356 649
def HW:Obj:=fO "__init__" "House.__init__" (CC (TC 31) 0) (s IG 620) (.ref 361)
def IW:Obj:=cQ' PR 2199721175476886628490265163624521 652 151 1 363 657
def JW:Obj:=fO "new_task" "House.new_task" (CC (TC 31) 1) (s IG 620) (.ref 368)
def KW:Obj:=cQ' 1819504743 512145055212970217730121 660 156 2 370 666
def LW:Obj:=fO "fork" "House.fork" (CC (TC 31) 2) (s IG 620) (.ref 375)
def MW:Obj:=cQ' QR 2199721175476536786337936233099337 669 162 2 377 674
def NW:Obj:=fO "end_task" "House.end_task" (CC (TC 31) 3) (s IG 620) (.ref 382)
def OW:Obj:=cQ' SR 2199325012903650553738972299161673 677 166 2 384 683
def QW:Obj:=fO "new_bank" "House.new_bank" (CC (TC 31) 4) (s IG 620) (.ref 389)
def RW:Obj:=cO [s TR 686,s 563027203303301669962607049756274761 687,s z2 688,i 173,i 2,i 0,i 0,i 3,.ref 391,(.bool true),i 181,.ref 392,.none,.none,.none,.ref 393,i 689,i 173,s z2 690]
def SW:Obj:=fO "drop_bank" "House.drop_bank" (CC (TC 31) 5) (s IG 620) (.ref 394)
def TW:Obj:=((.type "tuple"),none,.seq #[.none,(.int (0) 692)] 0, #[])
def UW:Obj:=cQ' 8020589 2257595154097830785097 693 179 7 397 704
def VW:Obj:=((.type "function"),none,.func (W.fnOf (Str.ofString "lay") (Str.ofString "House.lay") (iD (CC (TC 31) 6)) (dD (CC (TC 31) 6)) (AC (CC (TC 31) 6)) (.ref 396) .none .none (s IG 620) none (.ref 402) .none), #[])
def WW:Obj:=cQ' 1969711725 554424561973198142730313 707 188 4 404 714
def YW:Obj:=fO "lift" "House.lift" (CC (TC 31) 7) (s IG 620) (.ref 409)
def ZW:Obj:=cQ' 435510080610 122585189797007784293068873 728 195 4 418 737
def aX:Obj:=fO "asked" "House.asked" (CC (TC 31) 9) (s IG 620) (.ref 423)
def bX:Obj:=cQ' GV 9010805286337637281539545668179908239978569 762 214 2 446 767
def cX:Obj:=fO "stretches_of" "House.stretches_of" (CC (TC 31) 13) (s IG 620) (.ref 451)
def dX:Obj:=cQ' 129065384569461 36328676115840947361617965129 779 222 3 460 785
def eX:Obj:=fO "tie_at" "House.tie_at" (CC (TC 31) 15) (s IG 620) (.ref 465)
def fX:Obj:=cO [s 7453563436348760689 788,s 2097991594657664520040000427290697 789,s z2 790,i 226,i 2,i 0,i 0,i 3,.ref 467,(.bool true),i 181,.ref 468,.none,.none,.none,.ref 469,i 791,i 226,s z2 792]
def gX:Obj:=fO "pages_of" "House.pages_of" (CC (TC 31) 16) (s IG 620) (.ref 470)
def iX:Obj:=cQ' 512162497145278640318820 144160926956038725368327681379818434633 794 232 2 472 799
def jX:Obj:=fO "check_task" "House.check_task" (CC (TC 31) 17) (s IG 620) (.ref 477)
def kX:Obj:=cQ' 512070258358360511768932 144134964045639125973426952214381228105 802 236 2 479 807
def lX:Obj:=fO "check_bank" "House.check_bank" (CC (TC 31) 18) (s IG 620) (.ref 484)
def mX:Obj:=cQ' 8350047493112005182606836918628 2350329423656573175351140194157426667259588681 810 240 4 486 817
def nX:Obj:=fO "check_stretch" "House.check_stretch" (CC (TC 31) 19) (s IG 620) (.ref 491)
def pX:Obj:=cQ' 9446029003694613325605449134053798776826212 2658820793823122384803673107998479853226123854532207603785 820 245 4 493 827
def qX:Obj:=fO "check_part_of_bank" "House.check_part_of_bank" (CC (TC 31) 20) (s IG 620) (.ref 498)
def rX (P:Params):Obj:=dO 4 [e P uF 639 (s IG 620),e P vF 643 (.int (144) 642),e P aL 651 (.ref 362),e P PR 659 (.ref 369),e P 1819504743 668 (.ref 376),e P QR 676 (.ref 383),e P SR 685 (.ref 390),e P TR 691 (.ref 395),e P 8020589 706 (.ref 403),e P 1969711725 716 (.ref 410),e P 435727529576 727 (.ref 417),e P 435510080610 739 (.ref 424),e P 2166657694140852363893 746 (.ref 431),e P 2166657694140852036195 753 (.ref 438),e P 1890460943890055651939 761 (.ref 445),e P GV 769 (.ref 452),e P 2165357850485127146099 778 (.ref 459),e P 129065384569461 787 (.ref 466),e P 7453563436348760689 793 (.ref 471),e P 512162497145278640318820 801 (.ref 478),e P 512070258358360511768932 809 (.ref 485),e P 8350047493112005182606836918628 819 (.ref 492),e P 9446029003694613325605449134053798776826212 829 (.ref 499),e P wF 833 (.ref 500),e P OR 835 (.ref 503),e P NN 837 (.ref 504),e P z1 838 .none]
def sX:Obj:=kP' "House" [(.type "object")] [.ref 502,(.type "object")] 501 [] 440040583241 632 440040583241 640
def tX:Obj:=cQ' aL 1954753563970360692704796012998739 855 252 3 514 861
def uX:Obj:=fO "__init__" "Rooms.__init__" (CC (TC 33) 0) (s jG 841) (.ref 519)
def vX:Obj:=cQ' PR 2199721175476886628490325192110163 864 262 1 521 869
def wX:Obj:=fO "new_task" "Rooms.new_task" (CC (TC 33) 1) (s jG 841) (.ref 526)
def xX:Obj:=cQ' 1819504743 512145055213030246215763 872 267 2 528 879
def yX:Obj:=fO "fork" "Rooms.fork" (CC (TC 33) 2) (s jG 841) (.ref 533)
def zX:Obj:=cQ' QR 2199721175476536786337996261584979 882 274 2 535 887
def AX:Obj:=fO "end_task" "Rooms.end_task" (CC (TC 33) 3) (s jG 841) (.ref 540)
def BX:Obj:=cQ' SR 2199325012903650553739032327647315 890 278 2 542 896
def DX:Obj:=fO "new_bank" "Rooms.new_bank" (CC (TC 33) 4) (s jG 841) (.ref 547)
def EX:Obj:=cQ' TR 563027203303301669962607109784760403 899 283 2 549 904
def FX:Obj:=fO "drop_bank" "Rooms.drop_bank" (CC (TC 33) 5) (s jG 841) (.ref 554)
def GX:Obj:=((.type "tuple"),none,.seq #[.none,(.int (0) 907)] 0, #[])
def HX:Obj:=cQ' 8020589 2257595154157859270739 908 287 7 557 918
def IX:Obj:=((.type "function"),none,.func (W.fnOf (Str.ofString "lay") (Str.ofString "Rooms.lay") (iD (CC (TC 33) 6)) (dD (CC (TC 33) 6)) (AC (CC (TC 33) 6)) (.ref 556) .none .none (s jG 841) none (.ref 562) .none), #[])
def JX:Obj:=cQ' 1969711725 554424561973258171215955 921 290 4 564 929
def LX:Obj:=fO "lift" "Rooms.lift" (CC (TC 33) 7) (s jG 841) (.ref 569)
def MX:Obj:=cQ' 1700947571 478774177985449008590931 943 298 3 578 950
def NX:Obj:=fO "read" "Rooms.read" (CC (TC 33) 9) (s jG 841) (.ref 583)
def OX:Obj:=cQ' 440056574840 123864914154512226205069395 953 302 4 585 961
def PX:Obj:=fO "write" "Rooms.write" (CC (TC 33) 10) (s jG 841) (.ref 590)
def QX:Obj:=cO [s 34449212995692148 993,s 9696591425662875424532162703443 994,s z2 995,i 318,i 2,i 0,i 0,i 3,.ref 620,(.bool true),i 181,.ref 621,.none,.none,.none,.ref 622,i 996,i 318,s z2 997]
def RX:Obj:=fO "seen_by" "Rooms.seen_by" (CC (TC 33) 15) (s jG 841) (.ref 623)
def SX:Obj:=cQ' 140789800901245672938236525 39628805929776020909669620356470931484755 999 321 1 625 1003
def TX:Obj:=fO "live_sheets" "Rooms.live_sheets" (CC (TC 33) 16) (s jG 841) (.ref 630)
def UX:Obj:=cQ' 478762002804 134759523589255099684253779 1006 324 4 632 1015
def VX:Obj:=fO "shown" "Rooms.shown" (CC (TC 33) 17) (s jG 841) (.ref 637)
def WX:Obj:=cQ' 32780192883044463 9226804028325751835527849472083 1018 329 1 639 1022
def XX:Obj:=fO "noughts" "Rooms.noughts" (CC (TC 33) 18) (s jG 841) (.ref 644)
def YX:Obj:=cQ' 8032497800187927056105972590964 2260947131236292320297530778482347951583686739 1025 332 3 646 1032
def ZX:Obj:=fO "sheet_to_read" "Rooms.sheet_to_read" (CC (TC 33) 19) (s jG 841) (.ref 651)
def aY:Obj:=cQ' 2078108419592612597865299602467188 584935519007048777795440555185823689555525529683 1035 338 3 653 1043
def bY:Obj:=fO "sheet_to_write" "Rooms.sheet_to_write" (CC (TC 33) 20) (s jG 841) (.ref 658)
def cY:Obj:=cQ' 123855394913203706996877684 34862194398683115037494871830585806975059 1046 346 3 660 1052
def dY:Obj:=fO "sheet_there" "Rooms.sheet_there" (CC (TC 33) 21) (s jG 841) (.ref 665)
def eY:Obj:=cQ' 2165647757612066301551 609575652137340752373089254486601811 1064 354 2 674 1070
def fY:Obj:=fO "new_sheet" "Rooms.new_sheet" (CC (TC 33) 23) (s jG 841) (.ref 679)
def iY:Obj:=cQ' 135892596177744215321962093 38250365344281133571179105536106176737363 1073 363 3 681 1080
def jY:Obj:=fO "let_page_go" "Rooms.let_page_go" (CC (TC 33) 24) (s jG 841) (.ref 686)
def kY:Obj:=cQ' 530830455795135452374637 149415490182242660767447924803577606227 1083 372 2 688 1089
def lY:Obj:=fO "let_all_go" "Rooms.let_all_go" (CC (TC 33) 25) (s jG 841) (.ref 693)
def mY (P:Params):Obj:=dO 4 [e P uF 850 (s jG 841),e P vF 854 (.int (250) 853),e P aL 863 (.ref 520),e P PR 871 (.ref 527),e P 1819504743 881 (.ref 534),e P QR 889 (.ref 541),e P SR 898 (.ref 548),e P TR 906 (.ref 555),e P 8020589 920 (.ref 563),e P 1969711725 931 (.ref 570),e P 435727529576 942 (.ref 577),e P 1700947571 952 (.ref 584),e P 440056574840 963 (.ref 591),e P 1701671015 970 (.ref 598),e P 2166657694140852363893 977 (.ref 605),e P 2166657694140852036195 984 (.ref 612),e P GV 992 (.ref 619),e P 34449212995692148 998 (.ref 624),e P 140789800901245672938236525 1005 (.ref 631),e P 478762002804 1017 (.ref 638),e P 32780192883044463 1024 (.ref 645),e P 8032497800187927056105972590964 1034 (.ref 652),e P 2078108419592612597865299602467188 1045 (.ref 659),e P 123855394913203706996877684 1054 (.ref 666),e P 549683601607383713673319 1063 (.ref 673),e P 2165647757612066301551 1072 (.ref 680),e P 135892596177744215321962093 1082 (.ref 687),e P 530830455795135452374637 1091 (.ref 694),e P wF 1100 (.ref 695),e P OR 1102 (.ref 698),e P NN 1104 (.ref 699),e P z1 1105 .none]
def nY:Obj:=kP' "Rooms" [(.type "object")] [.ref 697,(.type "object")] 696 [] 500069068883 843 500069068883 851
def oY:Obj:=cQ' DR DR 1112 377 1 702 1118
def pY:Obj:=fP' "power_of_two" (TC 36) (s GJ 1108) 707
def qY:Obj:=cQ' ER ER 1121 382 3 709 1127
def rY:Obj:=fP' "check_measures" (TC 37) (s GJ 1108) 714
def tY:Obj:=cQ' aL 1954753563970360692704735932868948 1142 391 4 723 1149
def uY:Obj:=fO "__init__" "Shape.__init__" (CC (TC 38) 0) (s GJ 1108) (.ref 728)
def vY:Obj:=cQ' 483958001635892750870900 136222067239398530400517607478345754964 1152 400 1 730 1156
def wY:Obj:=fO "sheet_size" "Shape.sheet_size" (CC (TC 38) 1) (s GJ 1108) (.ref 735)
def xY:Obj:=cQ' 7379256228535624297 2077075975069028078541421527853396 1166 406 2 744 1171
def yY:Obj:=fO "has_page" "Shape.has_page" (CC (TC 38) 3) (s GJ 1108) (.ref 749)
def zY:Obj:=cQ' 140785079470369141693899369 39627476965130008305525577047426929420628 1182 413 2 758 1187
def AY:Obj:=fO "has_address" "Shape.has_address" (CC (TC 38) 5) (s GJ 1108) (.ref 763)
def BY:Obj:=cQ' 111490731565681 31381851070904111347232041300 1190 416 2 765 1195
def CY:Obj:=fO "parted" "Shape.parted" (CC (TC 38) 6) (s GJ 1108) (.ref 770)
def DY:Obj:=cQ' 1953852007 549960448218510519331156 1223 433 3 793 1229
def EY:Obj:=fO "fits" "Shape.fits" (CC (TC 38) 10) (s GJ 1108) (.ref 798)
def FY (P:Params):Obj:=dO 4 [e P uF 1137 (s GJ 1108),e P vF 1141 (.int (389) 1140),e P aL 1151 (.ref 729),e P 483958001635892750870900 1158 (.ref 736),e P 554573001519589315076721 1165 (.ref 743),e P 7379256228535624297 1173 (.ref 750),e P 483606936193276347574628 1181 (.ref 757),e P 140785079470369141693899369 1189 (.ref 764),e P 111490731565681 1197 (.ref 771),e P 32779080669947234 1206 (.ref 778),e P 500118746484 1214 (.ref 785),e P 29115481938485873 1222 (.ref 792),e P 1953852007 1231 (.ref 799),e P wF 1238 (.ref 800),e P OR 1240 (.ref 803),e P NN 1242 (.ref 804),e P z1 1243 .none]
def GY:Obj:=kP' "Shape" [(.type "object")] [.ref 802,(.type "object")] 801 [] 439988939092 1130 439988939092 1138
def HY:Obj:=cQ' FR FR 1248 436 2 807 1253
def IY:Obj:=fP' "_law_cell_at" (TC 40) (s z0 1246) 812
def JY:Obj:=cQ' GR GR 1256 440 3 814 1263
def KY:Obj:=fP' "_law_part" (TC 41) (s z0 1246) 819
def LY:Obj:=cQ' HR HR 1266 443 2 821 1271
def MY:Obj:=fP' "_law_whole" (TC 42) (s z0 1246) 826
def NY:Obj:=cQ' IR IR 1274 445 4 828 1282
def OY:Obj:=fP' "_law_span" (TC 43) (s z0 1246) 833
def PY:Obj:=cQ' JR JR 1285 448 2 835 1290
def QY:Obj:=fP' "_law_busy" (TC 44) (s z0 1246) 840
def RY:Obj:=cQ' KR KR 1293 454 6 842 1302
def SY:Obj:=fP' "_law_access" (TC 45) (s z0 1246) 847
def TY:Obj:=cQ' LR LR 1305 459 7 849 1320
def UY:Obj:=fP' "_law_turn" (TC 46) (s z0 1246) 854
def VY:Obj:=cQ' MR MR 1323 472 5 856 1332
def WY:Obj:=fP' "_law_forked" (TC 47) (s z0 1246) 861
def XY:Obj:=cO [s NR 1335,s NR 1336,s z2 1337,i 482,i 5,i 0,i 0,i 3,.ref 863,(.bool true),i 181,.ref 864,.none,.none,.none,.ref 865,i 1338,i 482,s z2 1339]
def YY:Obj:=fP' "_law_bank_seen" (TC 48) (s z0 1246) 866
def ZY:Obj:=cQ' 7889517 7889517 1341 488 1 868 1360
def aZ:Obj:=fP' "law" (TC 49) (s z0 1246) 873
def Kf:Params->W.Frag:=λP=>#[3,o3 P,30,r8 P,31,t8,43,u8 P,44,v8,55,w8 P,56,y8,67,N8 P,68,O8,79,P8 P,80,Q8,91,R8 P,92,S8,103,ZP P,104,aQ,115,bQ P,116,cQ,127,dQ P,128,eQ,139,fQ P,140,iQ,151,jQ P,152,kQ,163,lQ P,164,mQ,172,nQ,173,oQ,179,HV,180,IV,186,JV,187,LV,193,MV,194,NV,200,OV,201,PV,207,QV,208,RV,214,SV,215,TV,221,UV,222,WV,235,XV,236,YV,237,ZV,243,aW,244,bW,250,cW,251,dW,264,eW,265,fW,271,gW,272,hW,278,iW,279,jW,285,kW,286,lW,290,mW,291,nW,295,oW,296,pW,302,qW,303,rW,309,sW,310,tW,316,uW,317,vW,321,wW,322,xW,328,yW,329,zW,333,AW,334,BW,336,CW P,337,DW,347,EW,348,FW,361,GW,362,HW,368,IW,369,JW,375,KW,376,LW,382,MW,383,NW,389,OW,390,QW,394,RW,395,SW,396,TW,402,UW,403,VW,409,WW,410,YW,423,ZW,424,aX,451,bX,452,cX,465,dX,466,eX,470,fX,471,gX,477,iX,478,jX,484,kX,485,lX,491,mX,492,nX,498,pX,499,qX,501,rX P,502,sX,519,tX,520,uX,526,vX,527,wX,533,xX,534,yX,540,zX,541,AX,547,BX,548,DX,554,EX,555,FX,556,GX,562,HX,563,IX,569,JX,570,LX,583,MX,584,NX,590,OX,591,PX,623,QX,624,RX,630,SX,631,TX,637,UX,638,VX,644,WX,645,XX,651,YX,652,ZX,658,aY,659,bY,665,cY,666,dY,679,eY,680,fY,686,iY,687,jY,693,kY,694,lY,696,mY P,697,nY,707,oY,708,pY,714,qY,715,rY,728,tY,729,uY,735,vY,736,wY,749,xY,750,yY,763,zY,764,AY,770,BY,771,CY,798,DY,799,EY,801,FY P,802,GY,812,HY,813,IY,819,JY,820,KY,826,LY,827,MY,833,NY,834,OY,840,PY,841,QY,847,RY,848,SY,854,TY,855,UY,861,VY,862,WY,866,XY,867,YY,873,ZY,874,aZ]
def Kc (P:Params):!(Option Obj):=(Kf P).map λp=>some p.2
def hJ:!Addr:=[3,30,31,43,44,55,56,67,68,79,80,91,92,103,104,115,116,127,128,139,140,151,152,163,164,172,173,179,180,186,187,193,194,200,201,207,208,214,215,221,222,235,236,237,243,244,250,251,264,265,271,272,278,279,285,286,290,291,295,296,302,303,309,310,316,317,321,322,328,329,333,334,336,337,347,348,361,362,368,369,375,376,382,383,389,390,394,395,396,402,403,409,410,423,424,451,452,465,466,470,471,477,478,484,485,491,492,498,499,501,502,519,520,526,527,533,534,540,541,547,548,554,555,556,562,563,569,570,583,584,590,591,623,624,630,631,637,638,644,645,651,652,658,659,665,666,679,680,686,687,693,694,696,697,707,708,714,715,728,729,735,736,749,750,763,764,770,771,798,799,801,802,812,813,819,820,826,827,833,834,840,841,847,848,854,855,861,862,866,867,873,874]
def _root_.PySem.W.Fast.tw2978598463251682248:Params->W.Frag:=Kf
theorem _root_.PySem.W.Fast.te2978598463251682248:@Eq (Params->W.Frag) Kf _root_.PySem.W.Fast.tw2978598463251682248:=rfl
def _root_.PySem.W.Fast.tw178197174607172993:!Addr:=hJ
theorem _root_.PySem.W.Fast.te178197174607172993:@Eq (!Addr) hJ _root_.PySem.W.Fast.tw178197174607172993:=rfl
theorem pQ (P:Params):hJ=(Kf P).map (·.1):=by kernel_rfl
theorem qQ (P:Params):Kc P=(Kf P).map λp=>some p.2:=rfl
def vw:Program:=W.view PySem.Challenge.pw_frameland_k53_tied_boxes [49]
def lo:!Str:=S z3::S nN::S uR::S vR::S 113732351258470::S wR::S xR::S yR::S 111490630316139::S AR::S DR::S ER::S FR::S GR::S HR::S IR::S JR::S KR::S LR::S MR::S NR::S zR::S 440040583241::S 500069068883::S 439988939092::S z4::S z5::S z6::S z7::S z8::S z9::S RK::S SK::S UK::S WK::S YK::S ZK::S 1161971283::S 302078645080::S 101952521820057743536705614::S 23616678805231350591419338830::S 380423630684598931079812568447209550::[]
def BG:Obj:=tO []
def ZG:Obj:=(.none,none,.fields ⟨[]⟩, #[])
def bZ:Obj:=cR' 4568459227289382461 4568459227289382461 182 1 11 185
def cZ:Obj:=((.type "frame"),none,.plain, #[(some (.ref 13)),(some (.ref 3)),(some (.ref 3)),none,(some (s 6944673128113922144 164)),none,(some (.ref 0))])
section
variable (P:Params)
def qh:W.BT:=.node (W.boot_o_7 P) .nil .nil
def uh (P:Params):W.BT:=.node BG .nil .nil
def vh:W.BT:=.node (W.boot_o_9 P) .nil .nil
def xh (P:Params):W.BT:=.node bZ .nil .nil
def yh:W.BT:=.node (W.boot_o_8 P) .nil .nil
def zh (P:Params):W.BT:=.node ZG .nil .nil
def Oh:W.BT:=.node (W.boot_o_10 P) .nil .nil
def Ph (P:Params):W.BT:=.node cZ .nil .nil
def Qh:W.BT:=.node (W.boot_o_0 P) (.node (W.boot_o_1 P) (.node (W.boot_o_3 P) (qh P) (uh P)) (.node (W.boot_o_5 P) (vh P) (xh P))) (.node (W.boot_o_2 P) (.node (W.boot_o_4 P) (yh P) (zh P)) (.node (W.boot_o_6 P) (Oh P) (Ph P)))
end
def ON (w:World) (os:OsState):W.SharedT:=(Qh w.params,15,(W.boot_heap w.params).life, #[],W.boot_drawn,187,os)
def _root_.PySem.W.Fast.tw14493010579495800908:World->OsState->W.SharedT:=ON
theorem _root_.PySem.W.Fast.te14493010579495800908:@Eq (World->OsState->W.SharedT) ON _root_.PySem.W.Fast.tw14493010579495800908:=rfl
section
variable (P:Params)
def Rh:W.BT:=.node (W.boot_o_7 P) .nil .nil
def Th (P:Params):W.BT:=.node BG .nil .nil
def Uh:W.BT:=.node (W.boot_o_9 P) .nil .nil
def Vh (P:Params):W.BT:=.node bZ .nil .nil
def Wh:W.BT:=.node (W.boot_o_8 P) .nil .nil
def Xh (P:Params):W.BT:=.node ZG .nil .nil
def Yh:W.BT:=.node (W.boot_o_10 P) .nil .nil
def Zh (P:Params):W.BT:=.node cZ .nil .nil
def ai:W.BT:=.node (W.boot_o_0 P) (.node (W.boot_o_1 P) (.node (W.boot_o_3 P) (Rh P) (Th P)) (.node (W.boot_o_5 P) (Uh P) (Vh P))) (.node (W.boot_o_2 P) (.node (W.boot_o_4 P) (Wh P) (Xh P)) (.node (W.boot_o_6 P) (Yh P) (Zh P)))
end
def PN (w:World) (os:OsState):W.SharedT:=(ai w.params,15,(W.boot_heap w.params).life, #[],W.boot_drawn,187,os)
def _root_.PySem.W.Fast.tw4081698580280887237:World->OsState->W.SharedT:=PN
theorem _root_.PySem.W.Fast.te4081698580280887237:@Eq (World->OsState->W.SharedT) PN _root_.PySem.W.Fast.tw4081698580280887237:=rfl
def pN (P:Params):Obj:=dO 25 [e P 6944663249689206880 165 (s FV 394),e P z1 166 .none,e P 116512114954948911152848992 167 .none,e P 455126385231797511086176 168 (.builtin "__main__.__loader__#opaque"),e P 6944661016558198880 169 .none,e P 500416834696884185539869749159288928 170 (.ref 6),e P 29827167671303893903271485536 171 (.ref 4),e P 6944663245527933024 173 (s z2 172),e P 455125376429887381069920 174 .none,e P z3 193 (.ref 21),e P 1161971283 195 (.int (1) 194),e P 302078645080 197 (.int (2) 196),e P z4 217 (.ref 31),e P z5 233 (.ref 44),e P z6 249 (.ref 56),e P z7 265 (.ref 68),e P z8 281 (.ref 80),e P z9 297 (.ref 92),e P RK 313 (.ref 104),e P SK 329 (.ref 116),e P UK 345 (.ref 128),e P WK 361 (.ref 140),e P YK 377 (.ref 152),e P ZK 393 (.ref 164),e P nN 402 (.ref 173)]
def ci:Obj:=(.none,none,.fields ⟨[i 1,i 0,.ref 20,i 7,i 0,.ref 27,i 9,i 0,.ref 40,i 11,i 0,.ref 52,i 13,i 0,.ref 64,i 15,i 0,.ref 76,i 17,i 0,.ref 88,i 19,i 0,.ref 100,i 21,i 0,.ref 112,i 23,i 0,.ref 124,i 25,i 0,.ref 136,i 27,i 0,.ref 148,i 29,i 0,.ref 160,i 32,i 0,.ref 172]⟩, #[])
def di:Obj:=tO [s 108 190]
def ei:Obj:=(.none,none,.func {name:=(S z3),qualname:=(S z3),params:=iD (TC 0),body:=.stmts (dD (TC 0)),scope:=AC (TC 0),globals:=0,closure:=[],defaults:=.none,kwdefaults:=.none,doc:=.none,pyModule:=.none,annotations:=none,code:=.none,closureTuple:=.none,builtins:=0}, #[])
def fi:Obj:=cQ' z3 z3 187 1 1 15 191
def gi:Obj:=fP' "_wall" (TC 0) (s 6944673128113922144 164) 20
def ji:Obj:=((.type "tuple"),none,.seq #[(.type "ValueError")] 0, #[])
def WH:Obj:=((.type "builtin_function_or_method"),none,.fields ⟨[(.builtin "type.__prepare__"),(.type "type")]⟩, #[])
def ki (P:Params):Obj:=dO 4 [e P uF 207 (s SE 198),e P VH 209 (s z4 208),e P vF 211 (.int (7) 210),e P wF 212 (.ref 29)]
def li:Obj:=cR' z4 z4 202 7 25 205
def mi:Obj:=((.type "frame"),none,.plain, #[(some (.ref 27)),(some (.ref 3)),(some (.ref 24)),none,(some (s SE 198)),none,(some (.ref 0))])
def YH:Obj:=((.type "tuple"),none,.seq #[] 0, #[])
def ni:Obj:=((.type "getset_descriptor"),none,.fields ⟨[s NN 213,.ref 31,(.builtin "ExceptionGroup.__weakref__"),.none]⟩, #[])
def oi:Obj:=((.type "super"),none,.fields ⟨[.ref 31,.ref 31,.ref 31]⟩, #[])
def pi:Obj:=((.type "builtin_function_or_method"),none,.fields ⟨[(.builtin "object.__init_subclass__"),.ref 31]⟩, #[])
def VI:Obj:=((.type "tuple"),none,.seq #[.ref 31] 0, #[])
def qi (P:Params):Obj:=dO 4 [e P uF 225 (s SE 198),e P VH 227 (s z5 226),e P vF 229 (.int (9) 228),e P wF 230 (.ref 42)]
def ui:Obj:=cR' z5 z5 220 9 38 223
def vi:Obj:=((.type "frame"),none,.plain, #[(some (.ref 40)),(some (.ref 3)),(some (.ref 37)),none,(some (s SE 198)),none,(some (.ref 0))])
def xi:Obj:=((.type "super"),none,.fields ⟨[.ref 44,.ref 44,.ref 44]⟩, #[])
def yi:Obj:=((.type "builtin_function_or_method"),none,.fields ⟨[(.builtin "object.__init_subclass__"),.ref 44]⟩, #[])
def zi (P:Params):Obj:=dO 4 [e P uF 241 (s SE 198),e P VH 243 (s z6 242),e P vF 245 (.int (11) 244),e P wF 246 (.ref 54)]
def Oi:Obj:=cR' z6 z6 236 11 50 239
def Pi:Obj:=((.type "frame"),none,.plain, #[(some (.ref 52)),(some (.ref 3)),(some (.ref 49)),none,(some (s SE 198)),none,(some (.ref 0))])
def Qi:Obj:=((.type "super"),none,.fields ⟨[.ref 56,.ref 56,.ref 56]⟩, #[])
def Ri:Obj:=((.type "builtin_function_or_method"),none,.fields ⟨[(.builtin "object.__init_subclass__"),.ref 56]⟩, #[])
def Si (P:Params):Obj:=dO 4 [e P uF 257 (s SE 198),e P VH 259 (s z7 258),e P vF 261 (.int (13) 260),e P wF 262 (.ref 66)]
def Ti:Obj:=cR' z7 z7 252 13 62 255
def Ui:Obj:=((.type "frame"),none,.plain, #[(some (.ref 64)),(some (.ref 3)),(some (.ref 61)),none,(some (s SE 198)),none,(some (.ref 0))])
def Vi:Obj:=((.type "super"),none,.fields ⟨[.ref 68,.ref 68,.ref 68]⟩, #[])
def Wi:Obj:=((.type "builtin_function_or_method"),none,.fields ⟨[(.builtin "object.__init_subclass__"),.ref 68]⟩, #[])
def Xi (P:Params):Obj:=dO 4 [e P uF 273 (s SE 198),e P VH 275 (s z8 274),e P vF 277 (.int (15) 276),e P wF 278 (.ref 78)]
def Yi:Obj:=cR' z8 z8 268 15 74 271
def Zi:Obj:=((.type "frame"),none,.plain, #[(some (.ref 76)),(some (.ref 3)),(some (.ref 73)),none,(some (s SE 198)),none,(some (.ref 0))])
def aj:Obj:=((.type "super"),none,.fields ⟨[.ref 80,.ref 80,.ref 80]⟩, #[])
def bj:Obj:=((.type "builtin_function_or_method"),none,.fields ⟨[(.builtin "object.__init_subclass__"),.ref 80]⟩, #[])
def cj (P:Params):Obj:=dO 4 [e P uF 289 (s SE 198),e P VH 291 (s z9 290),e P vF 293 (.int (17) 292),e P wF 294 (.ref 90)]
def dj:Obj:=cR' z9 z9 284 17 86 287
def fj:Obj:=((.type "frame"),none,.plain, #[(some (.ref 88)),(some (.ref 3)),(some (.ref 85)),none,(some (s SE 198)),none,(some (.ref 0))])
def gj:Obj:=((.type "super"),none,.fields ⟨[.ref 92,.ref 92,.ref 92]⟩, #[])
def ij:Obj:=((.type "builtin_function_or_method"),none,.fields ⟨[(.builtin "object.__init_subclass__"),.ref 92]⟩, #[])
def lj (P:Params):Obj:=dO 4 [e P uF 305 (s SE 198),e P VH 307 (s RK 306),e P vF 309 (.int (19) 308),e P wF 310 (.ref 102)]
def mj:Obj:=cR' RK RK 300 19 98 303
def nj:Obj:=((.type "frame"),none,.plain, #[(some (.ref 100)),(some (.ref 3)),(some (.ref 97)),none,(some (s SE 198)),none,(some (.ref 0))])
def oj:Obj:=((.type "super"),none,.fields ⟨[.ref 104,.ref 104,.ref 104]⟩, #[])
def pj:Obj:=((.type "builtin_function_or_method"),none,.fields ⟨[(.builtin "object.__init_subclass__"),.ref 104]⟩, #[])
def qj (P:Params):Obj:=dO 4 [e P uF 321 (s SE 198),e P VH 323 (s SK 322),e P vF 325 (.int (21) 324),e P wF 326 (.ref 114)]
def rj:Obj:=cR' SK SK 316 21 110 319
def sj:Obj:=((.type "frame"),none,.plain, #[(some (.ref 112)),(some (.ref 3)),(some (.ref 109)),none,(some (s SE 198)),none,(some (.ref 0))])
def tj:Obj:=((.type "super"),none,.fields ⟨[.ref 116,.ref 116,.ref 116]⟩, #[])
def uj:Obj:=((.type "builtin_function_or_method"),none,.fields ⟨[(.builtin "object.__init_subclass__"),.ref 116]⟩, #[])
def vj (P:Params):Obj:=dO 4 [e P uF 337 (s SE 198),e P VH 339 (s UK 338),e P vF 341 (.int (23) 340),e P wF 342 (.ref 126)]
def wj:Obj:=cR' UK UK 332 23 122 335
def xj:Obj:=((.type "frame"),none,.plain, #[(some (.ref 124)),(some (.ref 3)),(some (.ref 121)),none,(some (s SE 198)),none,(some (.ref 0))])
def yj:Obj:=((.type "super"),none,.fields ⟨[.ref 128,.ref 128,.ref 128]⟩, #[])
def zj:Obj:=((.type "builtin_function_or_method"),none,.fields ⟨[(.builtin "object.__init_subclass__"),.ref 128]⟩, #[])
def Oj (P:Params):Obj:=dO 4 [e P uF 353 (s SE 198),e P VH 355 (s WK 354),e P vF 357 (.int (25) 356),e P wF 358 (.ref 138)]
def Pj:Obj:=cR' WK WK 348 25 134 351
def Qj:Obj:=((.type "frame"),none,.plain, #[(some (.ref 136)),(some (.ref 3)),(some (.ref 133)),none,(some (s SE 198)),none,(some (.ref 0))])
def Rj:Obj:=((.type "super"),none,.fields ⟨[.ref 140,.ref 140,.ref 140]⟩, #[])
def Sj:Obj:=((.type "builtin_function_or_method"),none,.fields ⟨[(.builtin "object.__init_subclass__"),.ref 140]⟩, #[])
def Tj (P:Params):Obj:=dO 4 [e P uF 369 (s SE 198),e P VH 371 (s YK 370),e P vF 373 (.int (27) 372),e P wF 374 (.ref 150)]
def Uj:Obj:=cR' YK YK 364 27 146 367
def Vj:Obj:=((.type "frame"),none,.plain, #[(some (.ref 148)),(some (.ref 3)),(some (.ref 145)),none,(some (s SE 198)),none,(some (.ref 0))])
def Wj:Obj:=((.type "super"),none,.fields ⟨[.ref 152,.ref 152,.ref 152]⟩, #[])
def Xj:Obj:=((.type "builtin_function_or_method"),none,.fields ⟨[(.builtin "object.__init_subclass__"),.ref 152]⟩, #[])
def Yj (P:Params):Obj:=dO 4 [e P uF 385 (s SE 198),e P VH 387 (s ZK 386),e P vF 389 (.int (29) 388),e P wF 390 (.ref 162)]
def Zj:Obj:=cR' ZK ZK 380 29 158 383
def ak:Obj:=((.type "frame"),none,.plain, #[(some (.ref 160)),(some (.ref 3)),(some (.ref 157)),none,(some (s SE 198)),none,(some (.ref 0))])
def fk:Obj:=((.type "super"),none,.fields ⟨[.ref 164,.ref 164,.ref 164]⟩, #[])
def gk:Obj:=((.type "builtin_function_or_method"),none,.fields ⟨[(.builtin "object.__init_subclass__"),.ref 164]⟩, #[])
def ik:Obj:=tO [s 448545843573 399]
def jk:Obj:=(.none,none,.func {name:=(S nN),qualname:=(S nN),params:=iD (TC 17),body:=.stmts (dD (TC 17)),scope:=AC (TC 17),globals:=0,closure:=[],defaults:=.none,kwdefaults:=.none,doc:=.none,pyModule:=.none,annotations:=none,code:=.none,closureTuple:=.none,builtins:=0}, #[])
section
variable (P:Params)
def uk:W.BT:=.node ZG (.node (dQ P) .nil .nil) .nil
def vk (P:Params):W.BT:=.node VI (.node ZG .nil .nil) .nil
def wk:W.BT:=.node (P8 P) (.node VI .nil .nil) .nil
def xk (P:Params):W.BT:=.node ZG .nil .nil
def zk (P:Params):W.BT:=.node VI (.node ZG .nil .nil) .nil
def Pk:W.BT:=.node (ZP P) (.node BG .nil .nil) .nil
def Qk:W.BT:=.node ZG (.node (jQ P) .nil .nil) .nil
def Uk (P:Params):W.BT:=.node VI .nil .nil
def Vk:W.BT:=.node (W.boot_o_7 P) (.node BG (.node t8 (uk P) (vk P)) (.node VI (wk P) (xk P))) (.node WH (.node ZG (zk P) (Pk P)) (.node (w8 P) (Qk P) (Uk P)))
def Wk:W.BT:=.node (N8 P) (.node VI .nil .nil) .nil
def Xk:W.BT:=.node ZG (.node (lQ P) .nil .nil) .nil
def Yk (P:Params):W.BT:=.node VI (.node ZG .nil .nil) .nil
def Zk:W.BT:=.node (bQ P) .nil .nil
def al:W.BT:=.node ZG (.node (fQ P) .nil .nil) .nil
def el (P:Params):W.BT:=.node VI (.node jk .nil .nil) .nil
def gl:W.BT:=.node (R8 P) (.node VI .nil .nil) .nil
def il (P:Params):W.BT:=.node ZG .nil .nil
def jl:W.BT:=.node BG (.node ei (.node VI (Wk P) (Xk P)) (.node ZG (Yk P) (Zk P))) (.node li (.node (u8 P) (al P) (el P)) (.node VI (gl P) (il P)))
def kl (P:Params):W.BT:=.node Ui (.node yj .nil .nil) .nil
def ll:W.BT:=.node (lj P) (.node ak .nil .nil) .nil
def nl:W.BT:=.node aj (.node (Tj P) .nil .nil) .nil
def ql (P:Params):W.BT:=.node sj .nil .nil
def rl:W.BT:=.node (Xi P) (.node Qj .nil .nil) .nil
def ul (P:Params):W.BT:=.node oj (.node ik .nil .nil) .nil
def wl (P:Params):W.BT:=.node fj (.node Wj .nil .nil) .nil
def xl:W.BT:=.node (vj P) .nil .nil
def yl:W.BT:=.node (W.boot_o_9 P) (.node di (.node oi (kl P) (ll P)) (.node (zi P) (nl P) (ql P))) (.node BG (.node vi (rl P) (ul P)) (.node Qi (wl P) (xl P)))
def zl:W.BT:=.node Vi (.node (Oj P) .nil .nil) .nil
def Ol (P:Params):W.BT:=.node nj (.node fk .nil .nil) .nil
def Pl:W.BT:=.node (cj P) (.node Vj .nil .nil) .nil
def Ql (P:Params):W.BT:=.node tj .nil .nil
def Rl (P:Params):W.BT:=.node Zi (.node Rj .nil .nil) .nil
def Sl:W.BT:=.node (qj P) (.node oQ .nil .nil) .nil
def Tl:W.BT:=.node gj (.node (Yj P) .nil .nil) .nil
def Ul (P:Params):W.BT:=.node xj .nil .nil
def Vl:W.BT:=.node bZ (.node gi (.node (qi P) (zl P) (Ol P)) (.node Pi (Pl P) (Ql P))) (.node YH (.node xi (Rl P) (Sl P)) (.node (Si P) (Tl P) (Ul P)))
def Wl (P:Params):W.BT:=.node Ti (.node eQ .nil .nil) .nil
def Xl (P:Params):W.BT:=.node WH (.node Zj .nil .nil) .nil
def Yl (P:Params):W.BT:=.node Q8 (.node WH .nil .nil) .nil
def Zl (P:Params):W.BT:=.node rj .nil .nil
def am (P:Params):W.BT:=.node WH (.node Pj .nil .nil) .nil
def cm (P:Params):W.BT:=.node aQ (.node ZG .nil .nil) .nil
def fm (P:Params):W.BT:=.node dj (.node kQ .nil .nil) .nil
def gm (P:Params):W.BT:=.node WH .nil .nil
def im:W.BT:=.node (W.boot_o_8 P) (.node ZG (.node ni (Wl P) (Xl P)) (.node WH (Yl P) (Zl P))) (.node (ki P) (.node ui (am P) (cm P)) (.node y8 (fm P) (gm P)))
def jm (P:Params):W.BT:=.node O8 (.node WH .nil .nil) .nil
def km (P:Params):W.BT:=.node mj (.node mQ .nil .nil) .nil
def lm (P:Params):W.BT:=.node WH (.node Uj .nil .nil) .nil
def om (P:Params):W.BT:=.node cQ .nil .nil
def qm (P:Params):W.BT:=.node Yi (.node iQ .nil .nil) .nil
def rm (P:Params):W.BT:=.node WH (.node nQ .nil .nil) .nil
def tm (P:Params):W.BT:=.node S8 (.node WH .nil .nil) .nil
def um (P:Params):W.BT:=.node wj .nil .nil
def vm:W.BT:=.node ci (.node fi (.node WH (jm P) (km P)) (.node Oi (lm P) (om P))) (.node mi (.node v8 (qm P) (rm P)) (.node WH (tm P) (um P)))
def wm (P:Params):W.BT:=.node YH (.node zj .nil .nil) .nil
def xm (P:Params):W.BT:=.node BG (.node YH .nil .nil) .nil
def ym (P:Params):W.BT:=.node bj (.node BG .nil .nil) .nil
def zm (P:Params):W.BT:=.node YH .nil .nil
def Om (P:Params):W.BT:=.node BG (.node YH .nil .nil) .nil
def Qm (P:Params):W.BT:=.node pj (.node BG .nil .nil) .nil
def Rm (P:Params):W.BT:=.node YH (.node Xj .nil .nil) .nil
def Sm (P:Params):W.BT:=.node BG .nil .nil
def Um:W.BT:=.node (W.boot_o_10 P) (.node BG (.node pi (wm P) (xm P)) (.node BG (ym P) (zm P))) (.node ZG (.node YH (Om P) (Qm P)) (.node Ri (Rm P) (Sm P)))
def Vm (P:Params):W.BT:=.node Wi (.node BG .nil .nil) .nil
def Wm (P:Params):W.BT:=.node YH (.node gk .nil .nil) .nil
def Xm (P:Params):W.BT:=.node BG (.node YH .nil .nil) .nil
def Ym (P:Params):W.BT:=.node uj .nil .nil
def Zm (P:Params):W.BT:=.node YH (.node Sj .nil .nil) .nil
def gn (P:Params):W.BT:=.node BG .nil .nil
def kn (P:Params):W.BT:=.node ij (.node BG .nil .nil) .nil
def ln (P:Params):W.BT:=.node YH .nil .nil
def mn:W.BT:=.node cZ (.node ji (.node BG (Vm P) (Wm P)) (.node YH (Xm P) (Ym P))) (.node (r8 P) (.node yi (Zm P) (gn P)) (.node BG (kn P) (ln P)))
def rn:W.BT:=.node (W.boot_o_0 P) (.node (W.boot_o_1 P) (.node (pN P) (Vk P) (jl P)) (.node (W.boot_o_5 P) (yl P) (Vl P))) (.node (W.boot_o_2 P) (.node (W.boot_o_4 P) (im P) (vm P)) (.node (W.boot_o_6 P) (Um P) (mn P)))
end
def NH (w:World) (os:OsState):W.SharedT:=(rn w.params,174,(W.boot_heap w.params).life, #[],W.boot_drawn,403,os)
def _root_.PySem.W.Fast.tw12195177929080524557:World->OsState->W.SharedT:=NH
theorem _root_.PySem.W.Fast.te12195177929080524557:@Eq (World->OsState->W.SharedT) NH _root_.PySem.W.Fast.tw12195177929080524557:=rfl
def bs:!Stmt:=W.behindTheImports PySem.Challenge.pw_frameland_k53_tied_boxes
def env:Env:={scope:=PySem.Challenge.pw_frameland_k53_tied_boxes.main.scope,locals:=mainNs,globals:=mainNs,cells:=[],code:=(.ref 13),frame:=some 14}
def L0 (w:World) (os:OsState):=CN treeTable PySem.Challenge.pw_frameland_k53_tied_boxes w (W.boot_heap w.params).objs.size (BF w) 12 (lG w os) (W.topStub PySem.Challenge.pw_frameland_k53_tied_boxes)
def R0 (w:World) (os:OsState):=some (ON w os,((denote treeTable (Code.body bs env),(Code.body bs env),(0,0,0,0),[W.topFrame (0,0,0,0)]):Thread))
def L1 (w:World) (os:OsState):=W.segRunT treeTable PySem.Challenge.pw_frameland_k53_tied_boxes w (W.boot_heap w.params).objs.size (BF w) 1 1 (ON w os) (W.blockOf bs env (Code.body bs env) (0,0,0,0) [W.topFrame (0,0,0,0)])
def R1 (w:World) (os:OsState):=some (Flow.next,(PN w os,((Code.body bs env),((0,0,0,0):Pos))))
def L2 (w:World) (os:OsState):=W.segRunT treeTable PySem.Challenge.pw_frameland_k53_tied_boxes w (W.boot_heap w.params).objs.size (BF w) 1 2624 (PN w os) (W.piecesOf ((bs).take 18) env (Code.body bs env) (0,0,0,0) [W.topFrame (0,0,0,0)])
def R2 (w:World) (os:OsState):=some (Flow.next,(NH w os,((Code.body bs env),((32,0,33,67):Pos))))
def lhs (w:World) (os:OsState):=(OG treeTable PySem.Challenge.pw_frameland_k53_tied_boxes w (W.boot_heap w.params).objs.size (BF w) 6631 (NH w os) (W.restOf ((bs).drop 18) env (Code.body bs env) (32,0,33,67) [W.topFrame (0,0,0,0)])).map (mG PySem.Challenge.pw_frameland_k53_tied_boxes vw lo (λs=>W.xlAt vw [] s&&W.recOk (W.RowW.records (PySem.Challenge.rw_frameland_k53_tied_boxes).row.toRowW) s) hJ (W.boot_heap w.params))
def rhs (w:World):=some ((true,Kc w.params),W.openGood vw lo)
theorem twins0:(λ(_ _:World->OsState->_)=>true) L0 R0=true:=by k_qdec
theorem dZ:∀(w:World) (q:OsState),PySem.W.Fast.tw6480634986709459259 w q=PySem.W.Fast.tw3368112316094526086 w q:=by intro w q;kernel_rfl
theorem h0 (w:World) (q:OsState):CN treeTable PySem.Challenge.pw_frameland_k53_tied_boxes w (W.boot_heap w.params).objs.size (BF w) 12 (lG w q) (W.topStub PySem.Challenge.pw_frameland_k53_tied_boxes)>(ON w q,((denote treeTable (Code.body bs env),(Code.body bs env),(0,0,0,0),[W.topFrame (0,0,0,0)]):Thread)):=(wC (wC PySem.W.Fast.te6480634986709459259 w) q).trans ((dZ w q).trans (wC (wC PySem.W.Fast.te3368112316094526086 w) q).symm)
theorem twins1:(λ(_ _:World->OsState->_)=>true) L1 R1=true:=by k_qdec
theorem eZ:∀(w:World) (q:OsState),PySem.W.Fast.tw6549898218072122711 w q=PySem.W.Fast.tw8138977323033037049 w q:=by intro w q;kernel_rfl
theorem h1 (w:World) (q:OsState):W.segRunT treeTable PySem.Challenge.pw_frameland_k53_tied_boxes w (W.boot_heap w.params).objs.size (BF w) 1 1 (ON w q) (W.blockOf bs env (Code.body bs env) (0,0,0,0) [W.topFrame (0,0,0,0)])>(Flow.next,(PN w q,((Code.body bs env),((0,0,0,0):Pos)))):=(wC (wC PySem.W.Fast.te6549898218072122711 w) q).trans ((eZ w q).trans (wC (wC PySem.W.Fast.te8138977323033037049 w) q).symm)
theorem twins2:(λ(_ _:World->OsState->_)=>true) L2 R2=true:=by k_qdec
theorem fZ:∀(w:World) (q:OsState),PySem.W.Fast.tw5255168214638199525 w q=PySem.W.Fast.tw18023110596874490952 w q:=by intro w q;kernel_rfl
theorem h2 (w:World) (q:OsState):W.segRunT treeTable PySem.Challenge.pw_frameland_k53_tied_boxes w (W.boot_heap w.params).objs.size (BF w) 1 2624 (PN w q) (W.piecesOf ((bs).take 18) env (Code.body bs env) (0,0,0,0) [W.topFrame (0,0,0,0)])>(Flow.next,(NH w q,((Code.body bs env),((32,0,33,67):Pos)))):=(wC (wC PySem.W.Fast.te5255168214638199525 w) q).trans ((fZ w q).trans (wC (wC PySem.W.Fast.te18023110596874490952 w) q).symm)
theorem twins:(λ(_:World->OsState->_) (_:World->_)=>true) lhs rhs=true:=by k_qdec
theorem vn:∀(w:World) (q:OsState),PySem.W.Fast.tw7128866508377749982 w q=PySem.W.Fast.tw12590348191598281069 w:=by intro w q;kernel_rfl
theorem T8 (w:World) (q:OsState):lhs w q=rhs w:=(wC (wC PySem.W.Fast.te7128866508377749982 w) q).trans ((vn w q).trans (wC PySem.W.Fast.te12590348191598281069 w).symm)
theorem left:W.LeftO PySem.Challenge.pw_frameland_k53_tied_boxes vw lo (λs=>W.xlAt vw [] s&&W.recOk (W.RowW.records (PySem.Challenge.rw_frameland_k53_tied_boxes).row.toRowW) s) (λs=>hJ.map s.heap.get?) (λw=>(Kf w.params).map λp=>some p.2) (12+(1+(2624+(6631)))):=by
 show Oc (Nl:=6631) (S:=NH) (t:=(W.restOf ((bs).drop 18) env (Code.body bs env) (32,0,33,67) [W.topFrame (0,0,0,0)])) (by kernel_rfl) (by kernel_rfl) (by intro s;kernel_rfl) (λw q r k=>W.go_top (n:=12) (N:=1+(2624+(6631))) (P3 (h0 w q)) (W.piece_block (n:=1) (N:=2624+(6631)) (W.segRun_of (h1 w q)) (VL (n:=2624) (N:=6631) (h2 w q) k))) (λw q=>?_) λw q=>?_
 .rw[<-qQ];show Xc (T8 w q)
 .show Yc (T8 w q)
end
end Pf
namespace L2
open PySem PySem.Spec PyProof.Rows
abbrev Key:=Sum Int Str
def DF:Key->Value->Bool
 |.inl k,v=>Value.isInt k v
 |.inr x,v=>Value.isStrOf x v
def UR (w:World):Key->Int
 |.inl k=>hashInt k
 |.inr x=>hashStr w x
theorem WI:∀{k:Key} {v:Value},DF k v=true->(∃i t,k=inl i/\v=Value.int i t)\/(∃x t,k=inr x/\v=Value.str x t)
 |.inl i,v,h=>by
  let(t,e):=Value.isInt_shape (k:=i) (v:=v) h;show .inl (i,t,rfl,e)
 |.inr x,v,h=>by
  let(t,e):=Value.isStrOf_shape (x:=x) (v:=v) h;show .inr (x,t,rfl,e)
theorem U8 (i:Int) (t:Tok):DF (.inl i) (.int i t)=true:=by simp[DF,Value.isInt]
theorem V8 (x:Str) (t:Tok):DF (.inr x) (.str x t)=true:=by simp[DF,Value.isStrOf]
theorem bL (a b:Int):decide ((inl a:Key)=inl b)=(a == b):=by
 by_cases e:a=b
 .subst e;simp
 .let h:¬(inl a:Key)=inl b:=λq=>e (kB q);rw[DA h];show (SB.mpr e).symm
theorem cL (a b:Str):decide ((inr a:Key)=inr b)=decide (a=b):=by
 by_cases e:a=b
 .subst e;simp
 .let h:¬(inr a:Key)=inr b:=λq=>e (Sum.inr.inj q);rw[DA h,DA e]
theorem dL (a:Int) (b:Str):decide ((inl a:Key)=inr b)=false:=DA nofun
theorem eL (a:Str) (b:Int):decide ((inr a:Key)=inl b)=false:=DA nofun
def fD (prog:Program) (w:World):PySem.KeyKind prog w Key where
 is:=DF
 hash:=UR w
 inj:=λv a b ha hb=>by
  let(i,t,rfl,rfl)||(x,t,rfl,rfl):=WI ha
  .let(j,u,rfl,e)||(y,u,rfl,e):=WI hb
   .injection e with e1 _;rw[e1]
   .show nomatch e
  .let(j,u,rfl,e)||(y,u,rfl,e):=WI hb
   .show nomatch e
   .injection e with e1 _;rw[e1]
 byValue:=λk v h=>by
  let(i,t,rfl,rfl)||(x,t,rfl,rfl):=WI h<;>rfl
 pyHash:=λhv h=>by
  let(i,t,rfl,rfl)||(x,t,rfl,rfl):=WI hv
  .show wpAny_pyHash_int h
  .show wpAny_pyHash_str h
 eqBool:=λhu hv h=>by
  let(i,t,rfl,rfl)||(x,t,rfl,rfl):=WI hu
  .let(j,u,rfl,rfl)||(y,u,rfl,rfl):=WI hv
   .rw[bL] at h;show wpAny_eqBool_int h
   .rw[dL] at h;show SeqAt.EqAt.int_str i t y u _ _ _ _ h
  .let(j,u,rfl,rfl)||(y,u,rfl,rfl):=WI hv
   .rw[eL] at h;show SeqAt.EqAt.str_int x t j u _ _ _ _ h
   .rw[cL] at h;show wpAny_eqBool_str h
 «strs» :=λk x t v h=>by
  let(i,u,rfl,e)||(y,u,rfl,e):=WI h
  .show nomatch e
  .injection e with e1 _;subst e1;cases v<;>rfl
theorem W8 (prog:Program) (w:World) (i:Int) (t:Tok):(fD prog w).is (.inl i) (.int i t)=true:=U8 i t
theorem X8 (prog:Program) (w:World) (x:Str) (t:Tok):(fD prog w).is (.inr x) (.str x t)=true:=V8 x t
inductive V where
 |non|bl (b:Bool)|int (i:Int)|str (x:Str)|byt (b:Array UInt8)|flt (b:UInt64)|ref (a:Addr)|ty (n:String)
 deriving DecidableEq
def KC:V->Value->Prop
 |.non,u=>u=Value.none
 |.bl b,u=>u=Value.bool b
 |.int i,u=>∃t,u=Value.int i t
 |.str x,u=>∃t,u=Value.str x t
 |.byt b,u=>∃t,u=Value.bytes b t
 |.flt b,u=>∃t,u=Value.float b t
 |.ref a,u=>u=Value.ref a
 |.ty n,u=>u=Value.type n
abbrev OC:!V->!Value->Prop:=Paired KC
theorem OC.length {xs:!V} {us:!Value} (r:OC xs us):xs.length=us.length:=Paired.length r
theorem OC.get:∀{xs:!V} {us:!Value} {i:Nat} {x:V},OC xs us->xs[i]?>x->∃u,us[i]?>u/\KC x u
 |_,_,_,_,.nil,e=>by simp at e
 |_,_,0,_,.cons r _,e=>by simp at e;subst e;show(_,rfl,r)
 |_,_,i+1,x,.cons _ t,e=>by
  let(u,h1,h2):=OC.get (i:=i) (x:=x) t (by simpa using e);show(u,by simpa using h1,h2)
theorem OC.set {x:V} {u:Value} (r:KC x u):∀{xs:!V} {us:!Value} (i:Nat),OC xs us->OC (xs.set i x) (us.set i u)
 |_,_,_,.nil=>.nil
 |_,_,0,.cons _ t=>.cons r t
 |_,_,i+1,.cons q t=>.cons q (OC.set r i t)
theorem OC.append:∀{xs ys:!V} {us ws:!Value},OC xs us->OC ys ws->OC (xs++ys) (us++ws)
 |_,_,_,_,.nil,s=>s
 |_,_,_,_,.cons r t,s=>.cons r (OC.append t s)
theorem OC.take:∀{xs:!V} {us:!Value} (n:Nat),OC xs us->OC (xs.take n) (us.take n)
 |_,_,0,_=>.nil
 |_,_,_+1,.nil=>.nil
 |_,_,n+1,.cons r t=>.cons r (OC.take n t)
theorem OC.drop:∀{xs:!V} {us:!Value} (n:Nat),OC xs us->OC (xs.drop n) (us.drop n)
 |_,_,0,r=>r
 |_,_,_+1,.nil=>.nil
 |_,_,n+1,.cons _ t=>OC.drop n t
def wE:Option V->Option Value->Prop
 |some v,some u=>KC v u
 |none,none=>True
 |_,_=>False
def KV {κ:Type}:!(κ×V)->!(κ×Value)->Prop:=Paired λ(p:κ×V) (q:κ×Value)=>p.1=q.1/\KC p.2 q.2
def kV:Key->V
 |.inl i=>.int i
 |.inr x=>.str x
inductive HO where
 |lst (xs:!V)
 |tup (xs:!V)
 |dK (kvs:!(Key×V))|dT (kvs:!(!Key×V))
 |set (S:Int->Bool) (n:Nat)
 |ins (C dx:Addr) (fs:!(Str×V))
 |own (x:Addr)
 |xd (fs:!(Str×V))
 |met (f x:Addr)
 |rng (lo hi:Int)
 |frz (o:Obj) (u:HO)
 |tbl (ps:Array Value)
 |ext (φ:Heap->Prop)
abbrev Hp:=Addr->Option HO
def FC (H:Hp) (a:Addr) (o:HO):Hp:=λb=>if b=a then some o else H b
theorem jD {H:Hp} {a:Addr} {o:HO}:FC H a o a>o:=by unfold FC;rw[jA rfl]
theorem VC {H:Hp} {a b:Addr} {o:HO} (h:b≠a):FC H a o b=H b:=by unfold FC;rw[fA h]
theorem Y8 {H:Hp} {a:Addr} {o u:HO}:FC (FC H a o) a u=FC H a u:=by
 funext b;unfold FC;split<;>rfl
theorem cD {H:Hp} {a b:Addr} {o u:HO} (h:H a>o) (h':H b>u) (d:o≠u):a≠b:=by
 intro e;subst e;rw[h] at h';show d (rA h')
theorem OD {H:Hp} {a b:Addr} {o:HO} (h:H a>o) (h':H b=none):a≠b:=by
 intro e;subst e;rw[h] at h';cases h'
section
variable (P:Program) (w:World)
def wD (H:Hp) (h:Heap) (a:Addr):HO->Prop
 |.lst xs=>xs.length<=sizeLine/\∃(its:!Value) (n:Nat),OC xs its/\h.get? a>{cls:=.type "list",data:=.seq its.toArray n}
 |.tup xs=>xs.length<=sizeLine/\∃its:!Value,OC xs its/\IsTup h a its.toArray
 |.dK kvs=>kvs.length<=sizeLine/\(a == sysModules)=false/\∃vs,KV kvs vs/\h.DictOf (fD P w) a vs
 |.dT kvs=>kvs.length<=sizeLine/\(a == sysModules)=false/\∃xs:!(!Key×Addr×Value),
  Paired (λ(p:!Key×V) (q:!Key×Addr×Value)=>p.1=q.1/\H q.2.1>(.tup (p.1.map kV))/\KC p.2 q.2.2) kvs xs/\
  ∃o es ep,h.get? a>o/\o.ExactDict/\o.data=.dict es ep/\es.toList=xs.map (entryOfKey (tupleKind (fD P w)))/\(xs.map (·.1)).Nodup
 |.set S n=>h.SetOf (intKind P w) a S n
 |.ins C dx fs=>H dx>(.own a)/\fs.length<=1000/\dx≠a/\h.get? a>(PySem.W.instObj C dx)/\
  ∃mA,h.Ns1 dx mA/\(∀f,wE (fs.lookup f) (mA f))/\PySem.Within mA (fs.map (·.1))
 |.own _=>∃o,h.get? a>o
 |.xd fs=>∃mA,h.Ns1 a mA/\∀f,wE (fs.lookup f) (mA f)
 |.rng lo hi=>∃t u v,h.get? a>{cls:=.type "range",data:=.fields #[.int lo t,.int hi u,.int 1 v]}
 |.frz o u=>h.get? a>o/\wD H h a u
 |.tbl ps=>h.get? a>{cls:=.none,data:=.fields ps}
 |.met f x=>h.get? a>(PySem.W.methodObj (.ref f) (.ref x))
 |.ext φ=>φ h/\(∃o,h.get? a>o)/\∀h1 h2:Heap,φ h1->(∀o,h1.get? a>o->h2.get? a>o)->φ h2
def IE (H:Hp) (h:Heap):Prop:=∀a o,H a>o->wD P w H h a o
end
section
variable {P:Program} {w:World} {H H':Hp} {h h':Heap} {a:Addr} {o:HO}
theorem wD.lt (x:wD P w H h a o):a < h.objs.size:=by
 cases o with
 |lst xs=>let(_,_,_,_,e):=x;show JA e
 |tup xs=>let(_,_,_,p):=x;show p.lt
 |dK kvs=>let(_,_,_,_,o,_,_,e,_):=x;show JA e
 |dT kvs=>let(_,_,_,_,o,_,_,e,_):=x;show JA e
 |set S n=>let(o,_,_,_,e,_):=x;show JA e
 |ins C D fs=>let(_,_,_,e,_):=x;show JA e
 |own q=>let(_,e):=x;show JA e
 |xd fs=>let(_,(_,_,_,e,_),_):=x;show JA e
 |rng lo hi=>let(_,_,_,e):=x;show JA e
 |frz F u=>let(e,_):=x;show JA e
 |tbl J=>show JA (show h.get? a>_ from x)
 |met f q=>show JA (show h.get? a>_ from x)
 |ext L=>let(_,(_,e),_):=x;show JA e
theorem Paired.mapP {α β:Type} {F G:α->β->Prop}:∀{l₁:!α} {l₂:!β},Paired F l₁ l₂->(∀a b,F a b->G a b)->Paired G l₁ l₂
 |_,_,.nil,_=>.nil
 |_,_,.cons r t,f=>.cons (f _ _ r) (Paired.mapP t f)
theorem wD.stay (x:wD P w H h a o) (k:∀b u,(b=a\/H b>(.own a))->h.get? b>u->h'.get? b>u)
  (ho:∀b,H b>(.own a)->H' b>(.own a)) (Y:∀b xs,H b>(.tup xs)->H' b>(.tup xs)):wD P w H' h' a o:=by
 induction o with
 |lst xs=>let(D,L,n,r,e):=x;show(D,L,n,r,k _ _ (.inl rfl) e)
 |tup xs=>let(D,L,r,F,e,c):=x;show(D,L,r,F,k _ _ (.inl rfl) e,c)
 |dK kvs=>let(D,J,vs,r,F,es,ep,e,c):=x;show(D,J,vs,r,F,es,ep,k _ _ (.inl rfl) e,c)
 |dT kvs=>
  let(D,J,xs,r,F,es,ep,e,c):=x;show(D,J,xs,Paired.mapP r λp q D=>(D.1,Y _ _ D.2.1,D.2.2),F,es,ep,k _ _ (.inl rfl) e,c)
 |set S n=>let(F,es,ep,t,e,c):=x;show(F,es,ep,t,k _ _ (.inl rfl) e,c)
 |ins C a1 fs=>
  let(U,D,a0,e,N,(O,es,ep,W,c),r):=x;show(ho _ U,D,a0,k _ _ (.inl rfl) e,N,(O,es,ep,k _ _ (.inr U) W,c),r)
 |own J=>let(F,e):=x;show⟨F,k _ _ (.inl rfl) e⟩
 |xd fs=>let(N,(O,es,ep,e,c),r):=x;show(N,(O,es,ep,k _ _ (.inl rfl) e,c),r)
 |rng lo hi=>let(t,u,v,e):=x;show(t,u,v,k _ _ (.inl rfl) e)
 |frz F u Z=>let(e,q):=x;show⟨k _ _ (.inl rfl) e,Z q⟩
 |tbl V=>
  let e:h.get? a>{cls:=.none,data:=.fields V}:=x;change h'.get? a>{cls:=.none,data:=.fields V};show k a _ (.inl rfl) e
 |met f J=>
  let e:h.get? a>(PySem.W.methodObj (.ref f) (.ref J)):=x;change h'.get? a>(PySem.W.methodObj (.ref f) (.ref J));show k a _ (.inl rfl) e
 |ext a2=>let(p,(o,e),st):=x;show(st _ _ p λo q=>k _ _ (.inl rfl) q,⟨o,k _ _ (.inl rfl) e⟩,st)
theorem IE.lt (x:IE P w H h) (e:H a>o):a < h.objs.size:=(x a o e).lt
theorem IE.fresh (x:IE P w H h) (e:h.objs.size<=a):H a=none:=by
 cases q:H a with
 |none=>rfl
 |some u=>show absurd (NA (x.lt q) e) (xC _)
theorem IE.kept (x:IE P w H h) (k:∀b u,h.get? b>u->h'.get? b>u):IE P w H h':=λa o e=>
 (x a o e).stay (λb u ο q=>k b u q) (λο q=>q) λο ο q=>q
theorem IE.laid (x:IE P w H h) (k:∀b u,h.get? b>u->h'.get? b>u) (J:h.objs.size<=a) (new:wD P w (FC H a o) h' a o):IE P w (FC H a o) h':=λb u e=>by
 let F:=x.fresh J;by_cases D:b=a
 .subst D;rw[jD] at e;cases e;show new
 .rw[VC D] at e;show (x b u e).stay (λc v ο q=>k c v q) (λc q=>by rw[VC (OD q F)];show q) λc xs q=>by rw[VC (OD q F)];show q
end
def Rd (H:Hp) (a:Addr) (u:HO):Prop:=H a>u\/∃o,H a>(.frz o u)
theorem Rd.of {H:Hp} {a:Addr} {u:HO} (h:H a>u):Rd H a u:=.inl h
theorem Rd.ok {P:Program} {w:World} {H:Hp} {h:Heap} {a:Addr} {u:HO} (r:Rd H a u) (x:IE P w H h):wD P w H h a u:=by
 let r||(o,r):=r
 .show x a u r
 .let(_,q):=x a _ r;show q
def qN:Option HO->Prop
 |some (.lst _)=>True
 |some (.dK _)=>True
 |some (.dT _)=>True
 |some (.set _ _)=>True
 |some (.ins _ _ _)=>True
 |some (.ext _)=>True
 |_=>False
section
variable {P:Program} {w:World} {H:Hp} {h h':Heap} {x e:Addr} {o':HO}
theorem IE.write (ok:IE P w H h) (N:qN (H x)) (O:e=x\/H e>(.own x)) (k:∀b u,b≠e->h.get? b>u->h'.get? b>u) (Y:∃u,h'.get? e>u)
  (new:wD P w (FC H x o') h' x o'):IE P w (FC H x o') h':=λb u q=>by
 let U:∀c W,H c>(.own W)->c≠x:=λc W r D=>by subst D;rw[r] at N;show N
 let a0:∀c xs,H c>(.tup xs)->c≠x:=λc xs r D=>by subst D;rw[r] at N;show N
 by_cases F:b=x
 .subst F;rw[jD] at q;cases q;show new
 .rw[VC F] at q;by_cases J:b=e
  .let V:H b>(.own x):=by
    let D||D:=O
    .show absurd (J.trans D) F
    .rw[J];show D
   rw[q] at V;cases V;let(v,Z):=Y;show⟨v,by rw[J];show Z⟩
  .show (ok b u q).stay (λc v L r=>k c v ?_ r) (λc r=>by rw[VC (U c b r)];show r) λc xs r=>by rw[VC (a0 c xs r)];show r
   let rfl||L:=L
   .show J
   .rintro rfl;let D||D:=O
    .show U c b L D
    .rw[L] at D;cases D;show F rfl
end
structure Un (fs ex:!Addr) (H H':Hp) (h h':Heap):Prop where
 keep:∀b o,h.get? b>o->H b=none->b∉fs->b∉ex->h'.get? b>o
 slot:∀b o,h.get? b>o->H b=none->b∈fs->b∉ex->∃sl,h'.get? b>{o with slots:=sl}
 free:∀b o,h.get? b>o->H b=none->b∉ex->H' b=none
 there:∀b o,h.get? b>o->b∉ex->∃o',h'.get? b>o'
 tups:∀b xs,H b>(.tup xs)->H' b>(.tup xs)
 frzs:∀b o u,H b>(.frz o u)->H' b>(.frz o u)
 tbls:∀b ps,H b>(.tbl ps)->∃more,H' b>(.tbl (ps++more))
section
variable {fs fs' ex ex':!Addr} {H H1 H2:Hp} {h h1 h2 h':Heap} {a x e:Addr} {o:HO}
theorem Un.any (u:Un fs ex H H1 h h1) {b:Addr} {D:Obj} (q:h.get? b>D) (n:H b=none) (J:b∉ex):∃L,h1.get? b>{D with slots:=L}:=by
 by_cases F:b∈fs
 .show u.slot b D q n F J
 .show⟨D.slots,u.keep b D q n F J⟩
theorem Un.kept (k:∀b u,h.get? b>u->h'.get? b>u):Un fs ex H H h h':=
 (λb D q ο ο ο=>k b D q,λb D q ο ο ο=>⟨D.slots,k b D q⟩,λο ο ο n ο=>n,λb D q ο=>⟨D,k b D q⟩,λο ο q=>q,λο ο ο q=>q,λο F q=>⟨#[],by rw[q];simp⟩)
theorem Un.refl:Un fs ex H H h h:=Un.kept λο ο q=>q
theorem Un.laid (k:∀b u,h.get? b>u->h'.get? b>u) (F:h.objs.size<=a) (D:H a=none):Un fs ex H (FC H a o) h h' where
 keep:=λb u q ο ο ο=>k b u q
 slot:=λb u q ο ο ο=>⟨u.slots,k b u q⟩
 free:=λb u q n ο=>by rw[VC (YA (NA (JA q) F))];show n
 there:=λb u q ο=>⟨u,k b u q⟩
 tups:=λb xs q=>by rw[VC (OD q D)];show q
 frzs:=λb u xs q=>by rw[VC (OD q D)];show q
 tbls:=λb J q=>⟨#[],by rw[VC (OD q D),q];simp⟩
theorem Un.write (F:qN (H x)) (U:e=x\/H e>(.own x)) (k:∀b u,b≠e->h.get? b>u->h'.get? b>u) (V:∃u,h'.get? e>u):Un fs ex H (FC H x o) h h':=by
 let O:∀b,H b=none->b≠x:=λb n D=>by subst D;rw[n] at F;show F
 let L:∀b,H b=none->b≠e:=λb n D=>by
  subst D;let r||r:=U
  .show O b n r
  .rw[n] at r;cases r
 let J:∀b u,H b>u->¬qN (some u)->b≠x:=λb u q nm D=>by subst D;rw[q] at F;show nm F
 show(λb u q n ο ο=>k b u (L b n) q,λb u q n ο ο=>⟨u.slots,k b u (L b n) q⟩,λb u q n ο=>by rw[VC (O b n)];show n,λb u q ο=>?_,
  λb xs q=>by rw[VC (J b _ q λD=>D)];show q,λb u xs q=>by rw[VC (J b _ q λD=>D)];show q,λb W q=>⟨#[],by rw[VC (J b _ q λD=>D),q];simp⟩)
 by_cases N:b=e
 .subst N;show V
 .show⟨u,k b u N q⟩
end
def trk (h:Heap) (H:Hp):!Addr:=(List.range h.objs.size).filter λa=>(H a).isSome
def qG (h:Heap) (H:Hp):Heap:=PySem.W.hideAll h (trk h H)
theorem Z8 (h:Heap) (H:Hp):(qG h H).objs.size=h.objs.size:=PySem.W.hideAll_size _ _
theorem b9 {h:Heap} {H:Hp} {b:Addr} {o:Obj} (e:h.get? b>o) (n:H b=none):(qG h H).get? b>o:=
 PySem.W.hideAll_get _ e λD=>by
  let q:(H b).isSome=true:=(HA.mp D).2;rw[n] at q;simp at q
theorem f9 {h:Heap} {H:Hp} {b:Addr} {o:Obj} (e:(qG h H).get? b>o):h.get? b>o/\H b=none:=by
 let D:h.get? b>o:=PySem.W.of_hideAll (trk h H) e;show⟨D,?_⟩;cases q:H b with
 |none=>rfl
 |some x=>
  let F:b∈trk h H:=HA.mpr ⟨pC.mpr (JA D),by simp[q]⟩;let J:(qG h H).get? b=none:=PySem.W.hideAll_none (trk h H) F;rw[J] at e;cases e
def iJ (g h:Heap) (L:Addr):!(Addr×Obj):=(List.range h.objs.size).filterMap λa=>if a=L\/(g.get? a).isSome=true then none else (h.get? a).map λo=>(a,o)
def rest (g h:Heap) (L d:Addr):!(Addr×Obj):=(iJ g h L).filter λp=>decide (p.1≠d)
structure Mod (K:PySem.W.Frag) (mg:Str->Option Value) (base:Heap):Prop where
 kin:K.In base
 glob:base.Ns mainGlobals mg
 blt:∃mb,base.Ns builtinsNs mb/\∀x:Str,x≠"__name__"->mb x=bootBuiltins x
 nolimit:base.NoLimit
set_option genInjectivity false in
structure Cx where
 prog:Program
 w:World
 K:PySem.W.Frag
 mg:Str->Option Value
 base:Heap
 A:Around
 N:!Str
 s₀:Shared
 H₀:Hp
 env:Env
 outer:!Env
 stack:!Env
 ex:!Addr
 fn:Str->Bool
 calm:Bool
 pn:!(Addr×Obj)
 xe:Value->Shared->Prop
def rE (l:!Env):!Addr:=l.filterMap (·.frame)
abbrev Cx.fs (X:Cx):!Addr:=rE X.outer
def rQ (sc:Scope) (x:Str):Prop:=sc.names.lookup x>.local\/sc.names.lookup x>.cell\/sc.names.lookup x>.free
def tQ (sc:Scope) (x:Str):Prop:=sc.names.lookup x>.local\/sc.names.lookup x>.cell
def VR (env:Env) (h:Heap) (m:Str->Option Value) (x:Str) (u:Value):Prop:=
 (env.kindOf x>.local/\m x>u)\/((env.kindOf x>.cell\/env.kindOf x>.free)/\∃c,env.cells.lookup x>c/\h.IsCell c (some u))
structure Cx.Ok (X:Cx):Prop where
 mod:Mod X.K X.mg X.base
 kind:X.env.scope.kind=.function
 glob:X.env.globals=mainGlobals
 blt:X.env.builtins=builtinsNs
 above:X.s₀.heap.objs.size<=X.env.locals
 inj:∀x y c,X.env.cells.lookup x>c->X.env.cells.lookup y>c->x=y
 has:∀x,(X.env.kindOf x>.cell\/X.env.kindOf x>.free)->∃c,X.env.cells.lookup x>c
 cab:∀x c,X.fn x=true->X.env.cells.lookup x>c->X.s₀.heap.objs.size<=c
 hd:X.calm=true->X.A.handled=none
 frames:X.A.frames>X.stack
 stk:X.stack=X.outer\/(X.stack=X.env::X.outer/\X.env.frame>X.env.locals)
 exf:∀b∈X.ex,b≠X.env.locals/\∀x c,X.env.cells.lookup x>c->c≠b
 bs:∀b o,X.base.get? b>o->X.s₀.heap.get? b>o/\X.H₀ b=none
 bsz:X.base.objs.size<=X.s₀.heap.objs.size
 noex:∀b o,X.base.get? b>o->b∉X.ex
 exfs:∀b∈X.ex,b∉X.fs
 funs:X.s₀.heap.FunFrames X.base X.outer
 frf:∀b∈X.fs,X.H₀ b=none
structure HC (X:Cx) (pins:!(Addr×Obj)) (σ:!(Option V)) (H:Hp) (s:Shared):Prop where
 ok:X.Ok
 os:s.os=X.s₀.os
 bare:AllBare s.gens
 base:Un X.fs X.ex X.H₀ H X.s₀.heap s.heap
 loc:∃m,s.heap.Ns X.env.locals m/\∀(i:Nat) (x:Str) (v:V),X.N[i]?>x->σ[i]?>(some v)->rQ X.env.scope x->∃u,KC v u/\VR X.env s.heap m x u
 cell:∀x c,X.env.cells.lookup x>c->∃v,s.heap.IsCell c v
 free:H X.env.locals=none
 freeC:∀x c,X.env.cells.lookup x>c->H c=none
 pin:∀p∈X.pn++pins,s.heap.get? p.1>p.2/\H p.1=none/\p.1≠X.env.locals/\p.1∉X.fs/\∀v,p.2.data≠.cell v
 hok:IE X.prog X.w H s.heap
 len:σ.length=X.N.length
section
variable {X:Cx} {pins:!(Addr×Obj)} {σ:!(Option V)} {H H':Hp} {s:Shared} {h':Heap}
theorem Cx.Ok.nofr (ok:X.Ok) {b:Addr} {o:Obj} (e:X.base.get? b>o):b∉X.fs:=λq=>by
 have:=(ok.funs.mem q).1;rw[e] at this;cases this
theorem HC.bs (I:HC X pins σ H s):∀b o,X.base.get? b>o->s.heap.get? b>o/\H b=none:=λb o e=>
 ⟨I.base.keep b o (I.ok.bs b o e).1 (I.ok.bs b o e).2 (I.ok.nofr e) (I.ok.noex b o e),I.base.free b o (I.ok.bs b o e).1 (I.ok.bs b o e).2 (I.ok.noex b o e)⟩
theorem HC.bk (I:HC X pins σ H s):∀b o,X.base.get? b>o->s.heap.get? b>o:=λb o e=>(I.bs b o e).1
theorem HC.mod (I:HC X pins σ H s):Mod X.K X.mg X.base:=I.ok.mod
theorem HC.kIn (I:HC X pins σ H s):X.K.In s.heap:=I.ok.mod.kin.keeps I.bk
theorem HC.lt (I:HC X pins σ H s):X.env.locals < s.heap.objs.size:=let ⟨_,hn,_⟩:=I.loc;hn.lt
theorem HC.sz (I:HC X pins σ H s):X.s₀.heap.objs.size<=s.heap.objs.size:=zB I.ok.above (Nat.le_of_lt I.lt)
theorem HC.nofs (q:HC X pins σ H s) {a:Addr} (h:s.heap.objs.size<=a):a∉X.fs:=λD=>by
 let(_,o,ho,_):=q.ok.funs.mem D;show absurd (NA (JA ho) (zB q.sz h)) (xC _)
theorem HC.cne (q:HC X pins σ H s):∀x c,X.env.cells.lookup x>c->c≠X.env.locals:=λx c e J=>by
 let(v,o,ho,hd):=q.cell x c e;let(m,(o',es,ep,F,D,_),_):=q.loc;rw[J,F] at ho;cases ho;rw[D] at hd;cases hd
theorem HC.funs (q:HC X pins σ H s):s.heap.FunFrames X.base X.outer:=by
 let all:∀(l:!Env),(∀b∈rE l,b∈X.fs)->X.s₀.heap.FunFrames X.base l->s.heap.FunFrames X.base l:=by
  intro l
  induction l with
  |nil=>intro _ _;trivial
  |cons env r W=>
   intro N O;let(hk,(L,o,J,U,ho,hd),V):=O;let D:L∈X.fs:=N L (by unfold rE;rw[fC,J];show aA);let(Z,e):=q.base.slot L o ho (q.ok.frf L D) D λY=>q.ok.exfs L Y D;show(hk,(L,_,J,U,e,hd),W (λb F=>N b (by unfold rE;rw[fC,J];show qA _ F)) V)
 show all X.outer (λο F=>F) q.ok.funs
theorem HC.stack (q:HC X pins σ H s):s.heap.FunFrames X.base X.stack:=by
 let e||(e,D):=q.ok.stk
 .rw[e];show q.funs
 .rw[e];let(m,F,_):=q.loc;show .cons (by rw[q.ok.kind];decide) D F ?_ q.funs;show Heap.get?_none_of_le (zB q.ok.bsz q.ok.above)
theorem HC.stkSub (D:HC X pins σ H s):∀b∈rE X.stack,b∈X.env.locals::X.fs:=λb q=>by
 let e||(e,F):=D.ok.stk
 .rw[e] at q;show qA _ q
 .rw[e] at q;unfold rE at q;rw[fC,F] at q;show q
theorem HC.stkFree (q:HC X pins σ H s):∀b∈rE X.stack,H b=none:=λb D=>by
 let e||D:=uA.mp (q.stkSub b D)
 .rw[e];show q.free
 .let(_,o,ho,_):=q.ok.funs.mem D;show q.base.free b o ho (q.ok.frf b D) λF=>q.ok.exfs b F D
theorem HC.step {g':Array GenState} {t':Nat} {d':Drawn} {ch:!Addr} (D:HC X pins σ H s)
  (U:∀b∈ch,(b∈X.ex\/X.s₀.heap.objs.size<=b)/\b≠X.env.locals/\(∀x c,X.env.cells.lookup x>c->c≠b)/\∀p∈X.pn++pins,p.1≠b)
  (keep:∀b o,b≠X.env.locals->b∉X.fs->b∉ch->s.heap.get? b>o->H b=none->h'.get? b>o)
  (a6:∀b o,b≠X.env.locals->b∈X.fs->b∉ch->s.heap.get? b>o->H b=none->∃Z,h'.get? b>{o with slots:=Z}) (free:∀b o,b∉ch->s.heap.get? b>o->H b=none->H' b=none)
  (au:∀b o,b∉ch->s.heap.get? b>o->∃o',h'.get? b>o')
  (av:∀b xs,H b>(.tup xs)->H' b>(.tup xs)) (a9:∀b o u,H b>(.frz o u)->H' b>(.frz o u)) (ar:∀b Y,H b>(.tbl Y)->∃more,H' b>(.tbl (Y++more)))
  (ns:∀m,s.heap.Ns X.env.locals m->h'.Ns X.env.locals m) (ah:IE X.prog X.w H' h') (ab:AllBare g'):
  HC X pins σ H' {s with heap:=h',gens:=g',drawn:=d',toks:=t'}:=by
 let a4:∀b o,X.s₀.heap.get? b>o->b≠X.env.locals:=λb o e=>YA (NA (JA e) D.ok.above);let W:∀b o,X.s₀.heap.get? b>o->b∉X.ex->b∉ch:=λb o e F N=>by
  let J||J:=(U b N).1
  .show F J
  .show absurd (NA (JA e) J) (xC _)
 let a0:∀x c,X.env.cells.lookup x>c->∀v,s.heap.IsCell c v->h'.IsCell c v:=λx c e v ⟨o,ho,hd⟩=>by
  let V:c∉ch:=λJ=>(U c J).2.2.1 x c e rfl;by_cases a1:c∈X.fs
  .let(Z,q):=a6 c o (D.cne x c e) a1 V ho (D.freeC x c e);show(_,q,hd)
  .show(o,keep c o (D.cne x c e) a1 V ho (D.freeC x c e),hd)
 show(D.ok,D.os,ab,(λb o e n N F=>?_,λb o e n N F=>?_,λb o e n F=>?_,λb o e F=>?_,λb xs e=>av b xs (D.base.tups b xs e),λb o xs e=>a9 b o xs (D.base.frzs b o xs e),λb Y e=>?_),?_,λx c e=>?_,?_,λx c e=>?_,λp a2=>?_,ah,D.len)
 .show keep b o (a4 b o e) N (W b o e F) (D.base.keep b o e n N F) (D.base.free b o e n F)
 .let(Z,L):=D.base.slot b o e n N F;let(aq,O):=a6 b _ (a4 b o e) N (W b o e F) L (D.base.free b o e n F);show⟨aq,O⟩
 .let(o',L):=D.base.there b o e F;show free b o' (W b o e F) L (D.base.free b o e n F)
 .let(o',L):=D.base.there b o e F;show au b o' (W b o e F) L
 .let(ao,L):=D.base.tbls b Y e;let(ap,O):=ar b _ L;show⟨ao++ap,by rw[O,Array.append_assoc]⟩
 .let(m,ad,ac):=D.loc;show(m,ns m ad,λi x v L O a8=>?_);let(u,r,l):=ac i x v L O a8;show(u,r,?_);let l||(k,c,e,J):=l
  .show .inl l
  .show .inr (k,c,e,a0 x c e _ J)
 .let(v,J):=D.cell x c e;show⟨v,a0 x c e v J⟩
 .let(m,(o,_,_,ho,_),_):=D.loc;show free _ o (λJ=>(U _ J).2.1 rfl) ho D.free
 .let(v,o,ho,hd):=D.cell x c e;show free c o (λJ=>(U c J).2.2.1 x c e rfl) ho (D.freeC x c e)
 .let(e,n,a3,a5,a7):=D.pin p a2;let V:p.1∉ch:=λJ=>(U p.1 J).2.2.2 p a2 rfl;show(keep p.1 p.2 a3 a5 V e n,free p.1 p.2 V e n,a3,a5,a7)
theorem HC.un {t':Nat} (q:HC X pins σ H s) (u:Un X.fs [] H H' s.heap h') (U:IE X.prog X.w H' h'):HC X pins σ H' {s with heap:=h',toks:=t'}:=by
 let(m,(o,es,ep,ho,r),_):=id q.loc;let(Z,N):=u.any ho q.free (by simp);show q.step (g':=s.gens) (d':=s.drawn) (ch:=[]) (λο W=>nomatch W) (λb o ο D ο e n=>u.keep b o e n D (by simp)) (λb o ο D ο e n=>u.slot b o e n D (by simp)) (λb o ο e n=>u.free b o e n (by simp)) (λb o ο e=>u.there b o e (by simp)) u.tups u.frzs u.tbls (λY O=>by
  let(o',L,J,F,V):=O;rw[ho] at F;cases F;show(_,L,J,N,V)) U q.bare
theorem HC.call {g':Array GenState} {t':Nat} {d':Drawn} {ch:!Addr} (D:HC X pins σ H s) (u:Un (rE X.stack) ch H H' s.heap h') (Z:IE X.prog X.w H' h') (W:AllBare g')
  (L:∀b∈ch,(b∈X.ex\/X.s₀.heap.objs.size<=b)/\b≠X.env.locals/\(∀x c,X.env.cells.lookup x>c->c≠b)/\∀p∈X.pn++pins,p.1≠b):
  HC X pins σ H' {s with heap:=h',gens:=g',drawn:=d',toks:=t'}:=by
 let(m,(o,es,ep,ho,r),_):=id D.loc;let(a2,F):=u.any ho D.free λJ=>(L _ J).2.1 rfl;show D.step (ch:=ch) L (λb o F V q e n=>u.keep b o e n (λJ=>(uA.mp (D.stkSub b J)).elim F V) q) (λb o ο ο q e n=>u.any e n q) (λb o q e n=>u.free b o e n q) (λb o q e=>u.there b o e q) u.tups u.frzs u.tbls (λa1 Y=>by
  let(o',U,O,N,a0):=Y;rw[ho] at N;cases N;show(_,U,O,F,a0)) Z W
theorem HC.turned {t':Nat} {F:Addr} (L:HC X pins σ H s) (k:∀b o,b≠F->s.heap.get? b>o->h'.get? b>o) (Y:H F=none) (N:F≠X.env.locals)
  (h1:F∈X.ex\/X.s₀.heap.objs.size<=F) (h2:∀x c,X.env.cells.lookup x>c->c≠F) (U:∀p∈X.pn++pins,p.1≠F):HC X pins σ H {s with heap:=h',toks:=t'}:=by
 let O:∀b u,H b>u->b≠F:=λb u e D=>by rw[D,Y] at e;cases e
 show L.step (g':=s.gens) (d':=s.drawn) (ch:=[F]) (λb V=>?_) (λb o ο ο J e ο=>k b o (λD=>J (by simp[D])) e) (λb o ο ο J e ο=>⟨o.slots,k b o (λD=>J (by simp[D])) e⟩) (λο ο ο ο n=>n)
  (λb o J e=>⟨o,k b o (λD=>J (by simp[D])) e⟩) (λο ο e=>e) (λο ο ο e=>e) (λb Z e=>⟨#[],by rw[e];simp⟩) (λm W=>?_) (λb u e=>?_) L.bare
 .let e:b=F:=by simpa using V
  subst e;show(h1,N,h2,U)
 .let(o,es,ep,ho,r):=W;show(o,es,ep,k _ o (Ne.symm N) ho,r)
 .show (L.hok b u e).stay (λc v J q=>k c v ?_ q) (λο q=>q) λο ο q=>q;let D||D:=J
  .rw[D];show O b u e
  .show O c _ D
theorem HC.tok (I:HC X pins σ H s) (t:Nat):HC X pins σ H {s with toks:=t}:=I.un (h':=s.heap) (t':=t) Un.refl I.hok
theorem HC.kept {t':Nat} (I:HC X pins σ H s) (k:∀b u,s.heap.get? b>u->h'.get? b>u):HC X pins σ H {s with heap:=h',toks:=t'}:=I.un (Un.kept k) (I.hok.kept k)
theorem HC.laid {a:Addr} {o:HO} {t':Nat} (q:HC X pins σ H s) (k:∀b u,s.heap.get? b>u->h'.get? b>u) (D:s.heap.objs.size<=a) (new:wD X.prog X.w (FC H a o) h' a o):
 HC X pins σ (FC H a o) {s with heap:=h',toks:=t'}:=q.un (Un.laid k D (q.hok.fresh D)) (q.hok.laid k D new)
theorem HC.write {x e:Addr} {o:HO} {t':Nat} (q:HC X pins σ H s) (J:qN (H x)) (D:e=x\/H e>(.own x)) (k:∀b u,b≠e->s.heap.get? b>u->h'.get? b>u) (F:∃u,h'.get? e>u)
 (new:wD X.prog X.w (FC H x o) h' x o):HC X pins σ (FC H x o) {s with heap:=h',toks:=t'}:=q.un (Un.write J D k F) (q.hok.write J D k F new)
theorem HC.pins_of {D:!(Addr×Obj)} (q:HC X pins σ H s) (h:∀p∈D,s.heap.get? p.1>p.2/\H p.1=none/\p.1≠X.env.locals/\p.1∉X.fs/\∀v,p.2.data≠.cell v):HC X D σ H s:=
 (q.ok,q.os,q.bare,q.base,q.loc,q.cell,q.free,q.freeC,λp F=>(kA.mp F).elim (λJ=>q.pin p (EA _ J)) (h p),q.hok,q.len)
theorem gZ {N:!Str} (F:N.Nodup) {i j:Nat} {x:Str} (a:N[i]?>x) (b:N[j]?>x):i=j:=by
 let(h1,q):=QA.mp a;let(h2,D):=QA.mp b;show (List.getElem_inj F).mp (q.trans D.symm)
theorem iZ {M:Model} {A:Around} {E:Value->Shared->Prop} {i:Nat} {x:Str} {v:V} {u:Value} {Q:Unit->Shared->Prop} (D:HC X pins σ H s) (ah:X.N.Nodup) (hi:X.N[i]?>x) (N:tQ X.env.scope x) (r:KC v u)
  (h:∀s',HC X pins (σ.set i (some v)) H s'->(∃a,Heap.SameBut a s.heap s'.heap/\(a=X.env.locals\/X.env.cells.lookup x>a))->Q ⟨⟩ s') (b0:X.fn x=true\/X.env.scope.names.lookup x>.local:=by first|exact .inl rfl|exact .inr rfl|assumption):wpAny M A (storeName X.env x u) Q E s:=by
 let(m,a6,au):=id D.loc;let az:(X.env.scope.kind == .class || (X.env.scope.kind == .module&&X.env.locals != X.env.globals))=false:=by rw[D.ok.kind];rfl
 let ar:i < σ.length:=by rw[D.len];show (QA.mp hi).1
 let cne:=D.cne;let ax:∀{a:Addr} {h':Heap},(∃o,s.heap.get? a>o/\H a=none)->Heap.SameBut a s.heap h'->IE X.prog X.w H h':=λ{a h'} ay F b b5 e=>by
  let(_,_,aq):=ay;show (D.hok b b5 e).stay (λc a3 L q=>(F.2 c ?_).trans q) (λο q=>q) λο ο q=>q;rintro rfl;let rfl||L:=L
  .rw[aq] at e;cases e
  .rw[aq] at L;cases L
 let hk||hk:=N
 .show wpAny_storeName_local hk a6 (λh' b1 F=>?_) az;let(b4,_,_,b2,_):=id a6;show h _ (D.ok,D.os,D.bare,(λb o e n Y N=>?_,λb o e n Y N=>?_,D.base.free,λb o e N=>?_,D.base.tups,D.base.frzs,D.base.tbls),(_,b1,λj O ad J W a4=>?_),λO c e=>?_,D.free,D.freeC,λp a7=>?_,ax (b4,b2,D.free) F,by simpa using D.len) (_,F,.inl rfl)
  .show (F.2 b (YA (NA (JA e) D.ok.above))).trans (D.base.keep b o e n Y N)
  .let(ab,J):=D.base.slot b o e n Y N;show⟨ab,(F.2 b (YA (NA (JA e) D.ok.above))).trans J⟩
  .let(o',J):=D.base.there b o e N;show⟨o',(F.2 b (YA (NA (JA e) D.ok.above))).trans J⟩
  .by_cases Z:j=i
   .subst Z;rw[hi] at J;cases J;rw[List.getElem?_set_self ar] at W;cases W;show(u,r,.inl ⟨hk,by simp⟩)
   .rw[List.getElem?_set_ne (Ne.symm Z)] at W;let(ac,a9,q):=au j O ad J W a4;show(ac,a9,?_);let(k,e)||(k,c,e,U):=q
    .show .inl ⟨k,?_⟩;have:O≠x:=λe=>Z (gZ ah J (e ▸ hi));simp[this,e]
    .show .inr (k,c,e,U.sameBut F (cne O c e))
  .let(a3,U):=D.cell O c e;show⟨a3,U.sameBut F (cne O c e)⟩
  .let(e,n,a2,a8,a1):=D.pin p a7;show((F.2 p.1 a2).trans e,n,a2,a8,a1)
 .let a5:X.fn x=true:=by
   let U||U:=b0
   .show U
   .rw[U] at hk;cases hk
  let(c,L):=D.ok.has x (.inl hk);let(a3,U):=D.cell x c L;show wpAny_storeName_cell D.ok.kind hk L U (λh' ao F=>?_);let(aw,av,b3):=id U;show h {s with heap:=h'} (D.ok,D.os,D.bare,(λb o e n Y N=>?_,λb o e n Y N=>?_,D.base.free,λb o e N=>?_,D.base.tups,D.base.frzs,D.base.tbls),(m,a6.sameBut F (Ne.symm (cne x c L)),λj O ad J W a4=>?_),λO a0 e=>?_,D.free,D.freeC,λp a7=>?_,ax (aw,av,D.freeC x c L) F,by simpa using D.len) (c,F,.inr L)
  .show (F.2 b (YA (NA (JA e) (D.ok.cab x c a5 L)))).trans (D.base.keep b o e n Y N)
  .let(ab,J):=D.base.slot b o e n Y N;show⟨ab,(F.2 b (YA (NA (JA e) (D.ok.cab x c a5 L)))).trans J⟩
  .let(o',J):=D.base.there b o e N;show⟨o',(F.2 b (YA (NA (JA e) (D.ok.cab x c a5 L)))).trans J⟩
  .by_cases Z:j=i
   .subst Z;rw[hi] at J;cases J;rw[List.getElem?_set_self ar] at W;cases W;show(u,r,.inr (.inl hk,c,L,ao))
   .rw[List.getElem?_set_ne (Ne.symm Z)] at W;let(ac,a9,q):=au j O ad J W a4;show(ac,a9,?_);let q||(k,a0,e,bh):=q
    .show .inl q
    .show .inr (k,a0,e,bh.sameBut F ?_);rintro rfl;show Z (gZ ah J (D.ok.inj _ _ _ e L ▸ hi))
  .by_cases ap:a0=c
   .subst ap;show⟨_,ao⟩
   .let(be,z2):=D.cell O a0 e;show⟨be,z2.sameBut F ap⟩
  .let(e,n,a2,a8,a1):=D.pin p a7;show((F.2 p.1 ?_).trans e,n,a2,a8,a1);intro q;rw[q,av] at e;let bb:aw=p.2:=rA e;show a1 a3 (by rw[<-bb];show b3)
theorem jZ {M:Model} {A:Around} {E:Value->Shared->Prop} {i:Nat} {x:Str} {v:V} {u:Value} {Q:Unit->Shared->Prop} (q:HC X pins σ H s) (F:X.N.Nodup) (hi:X.N[i]?>x) (L:tQ X.env.scope x) (r:KC v u)
  (h:∀s',HC X pins (σ.set i (some v)) H s'->Q ⟨⟩ s') (J:X.fn x=true\/X.env.scope.names.lookup x>.local:=by first|exact .inl rfl|exact .inr rfl|assumption):wpAny M A (storeName X.env x u) Q E s:=
 iZ q F hi L r (λs' D ο=>h s' D) J
theorem HC.call' {s':Shared} {ch:!Addr} (q:HC X pins σ H s) (ho:s'.os=s.os) (u:Un (rE X.stack) ch H H' s.heap s'.heap) (J:IE X.prog X.w H' s'.heap) (F:AllBare s'.gens)
  (D:∀b∈ch,(b∈X.ex\/X.s₀.heap.objs.size<=b)/\b≠X.env.locals/\(∀x c,X.env.cells.lookup x>c->c≠b)/\∀p∈X.pn++pins,p.1≠b):HC X pins σ H' s':=by
 let(h',g',d',t',o'):=s';let e:o'=s.os:=ho;subst e;show q.call (g':=g') (t':=t') (d':=d') u J F D
end
abbrev XK:=Value->Option Addr->Hp->Prop
abbrev St:=!(Option V)
abbrev VK:=V->Hp->Prop
abbrev TE:=St->Hp->VK->Prop
abbrev TT:=St->Hp->(Bool->Hp->Prop)->Prop
abbrev TA:=St->Hp->(!V->Hp->Prop)->Prop
set_option genInjectivity false in
structure bF where
 nx:St->Hp->Prop
 rt:VK
 bk:St->Hp->Prop:=λο ο=>False
 ct:St->Hp->Prop:=λο ο=>False
abbrev TS:=bF->St->Hp->Prop
def EP (X:Cx) (pins:!(Addr×Obj)) (σ:St) (Q:VK) (u:Value) (s':Shared):Prop:=∃v H',HC X pins σ H' s'/\KC v u/\Q v H'
def TP (X:Cx) (pins:!(Addr×Obj)) (σ:St) (Q:Bool->Hp->Prop) (b:Bool) (s':Shared):Prop:=∃H',HC X pins σ H' s'/\Q b H'
def AP (X:Cx) (pins:!(Addr×Obj)) (σ:St) (Q:!V->Hp->Prop) (us:!Value) (s':Shared):Prop:=∃vs H',HC X pins σ H' s'/\OC vs us/\Q vs H'
def SP (X:Cx) (pins:!(Addr×Obj)) (D:bF) (f:Flow) (s':Shared):Prop:=
 match f with
 |.next=>∃σ' H',HC X pins σ' H' s'/\D.nx σ' H'
 |.brk=>∃σ' H',HC X pins σ' H' s'/\D.bk σ' H'
 |.cont=>∃σ' H',HC X pins σ' H' s'/\D.ct σ' H'
 |.ret u=>∃v σ' H',HC X pins σ' H' s'/\KC v u/\D.rt v H'
def PE (X:Cx) (e:Expr) (t:TE):Prop:=
 ∀(pins:!(Addr×Obj)) (s:Shared) (σ:St) (H:Hp) (Q:VK),HC X pins σ H s->t σ H Q->wpAny (model X.prog X.w) X.A (eval e X.env) (EP X pins σ Q) X.xe s
def PT (X:Cx) (e:Expr) (t:TT):Prop:=
 ∀(pins:!(Addr×Obj)) (s:Shared) (σ:St) (H:Hp) (Q:Bool->Hp->Prop),HC X pins σ H s->t σ H Q->wpAny (model X.prog X.w) X.A (isTrue e X.env (eval e X.env)) (TP X pins σ Q) X.xe s
def PW (X:Cx) (e:Expr) (t:TT):Prop:=
 ∀(UF:Sem Value) (pins:!(Addr×Obj)) (s:Shared) (σ:St) (H:Hp) (Q:Bool->Hp->Prop),HC X pins σ H s->t σ H Q->wpAny (model X.prog X.w) X.A (isTrue e X.env UF) (TP X pins σ Q) X.xe s
theorem PW.pt {X:Cx} {e:Expr} {t:TT} (h:PW X e t):PT X e t:=h _
def PA (X:Cx) (es:!Expr) (t:TA):Prop:=
 ∀(pos:Pos) (pins:!(Addr×Obj)) (s:Shared) (σ:St) (H:Hp) (Q:!V->Hp->Prop),HC X pins σ H s->t σ H Q->wpAny (model X.prog X.w) X.A (spliced (backTo pos (starEach es X.env))) (AP X pins σ Q) X.xe s
def PS (X:Cx) (st:Stmt) (t:TS):Prop:=
 ∀(pins:!(Addr×Obj)) (s:Shared) (σ:St) (H:Hp) (D:bF),HC X pins σ H s->t D σ H->wpAny (model X.prog X.w) X.A (exec st X.env) (SP X pins D) X.xe s
def bG (X:Cx) (st:!Stmt) (t:TS):Prop:=
 ∀(pins:!(Addr×Obj)) (s:Shared) (σ:St) (H:Hp) (D:bF),HC X pins σ H s->t D σ H->wpAny (model X.prog X.w) X.A (execs st X.env) (SP X pins D) X.xe s
theorem kD {D:Type} {t:Sem D} {Q q:D->Shared->Prop} {M:Model} {A:Around} {E:Value->Shared->Prop} {s:Shared} (h:wpAny M A t Q E s) (F:∀a s,Q a s->q a s):wpAny M A t q E s:=pB h F λο ο x=>x
section
variable {X:Cx}
def jJ (i:Nat):TE:=λσ H Q=>∃v,σ[i]?>(some v)/\Q v H
def tC (v:V):TE:=λο H Q=>Q v H
theorem kZ {i:Nat} {x:Str} {pos:Pos} (L:X.N[i]?>x) (W:rQ X.env.scope x) (hd:(x == ("__debug__":Str))=false:=by decide) (N:(x == ("__classdict__":Str))=false:=by decide):PE X (.Name x pos) (jJ i):=by
 intro Y s Z H Q q h;let(v,e,h):=h;let(m,V,O):=q.loc;let(u,r,l):=O i x v L e W;let D:EP X Y Z Q u s:=(v,H,q,r,h)
 let(hk,U)||(hk,c,F,J):=l
 .show wpAny_Name (wpAny_loadName_local q.ok.kind hk V U D) hd
 .let hk||hk:=hk
  .show wpAny_Name (wpAny_loadName_cell q.ok.kind hk F J D) hd
  .show wpAny_Name (wpAny_loadName_free q.ok.kind hk F J D N) hd
theorem NC {i j pos}:PE X (.Constant (.int i) j pos) (tC (.int i)):=λο ο ο H ο I h=>wpAny_Constant_int (.int i,H,I.tok _,⟨_,rfl⟩,h)
theorem ZH {b j pos}:PE X (.Constant (.bool b) j pos) (tC (.bl b)):=λο ο ο H ο I h=>Constant_bool (.bl b,H,I,rfl,h)
theorem CG {j pos}:PE X (.Constant .none j pos) (tC .non):=λο ο ο H ο I h=>Constant_none (.non,H,I,rfl,h)
theorem xF {x j pos}:PE X (.Constant (.str x) j pos) (tC (.str x)):=λο ο ο H ο I h=>Calls.Constant_str (.str x,H,I.tok _,⟨_,rfl⟩,h)
def Gl (X:Cx) (x:Str):Prop:=X.env.kindOf x>.globalImplicit
theorem rN {E:Value->Shared->Prop} {J:!(Addr×Obj)} {s:Shared} {L:St} {H:Hp} {x:Str} {u:Value} {pos:Pos} {Q:Value->Shared->Prop} (q:HC X J L H s) (D:Gl X x) (F:X.mg x>u) (h:Q u s)
  (hd:(x == ("__debug__":Str))=false:=by decide):wpAny (model X.prog X.w) X.A (eval (.Name x pos) X.env) Q E s:=
 Calls.Name_function_global q.ok.kind D (Calls.loadGlobal_global (by rw[q.ok.glob];show q.mod.glob.keeps q.bk) F h) hd
theorem sN {E:Value->Shared->Prop} {N:!(Addr×Obj)} {s:Shared} {O:St} {H:Hp} {x:Str} {u:Value} {pos:Pos} {Q:Value->Shared->Prop} (q:HC X N O H s) (D:Gl X x) (F:X.mg x=none) (L:bootBuiltins x>u) (h:Q u s)
  (J:x≠"__name__":=by decide) (hd:(x == ("__debug__":Str))=false:=by decide):wpAny (model X.prog X.w) X.A (eval (.Name x pos) X.env) Q E s:=by
 let(U,h1,h2):=q.mod.blt;show Calls.Name_function_global q.ok.kind D (Calls.loadGlobal_builtin (by rw[q.ok.glob];show q.mod.glob.keeps q.bk) F (by rw[q.ok.blt];show h1.keeps q.bk) ((h2 x J).trans L) h) hd
theorem i9 {x:Str} {v:V} {u:Value} {pos:Pos} (D:Gl X x) (F:X.mg x>u) (r:KC v u) (hd:(x == ("__debug__":Str))=false:=by decide):PE X (.Name x pos) (tC v):=
 λο ο ο H ο q h=>rN q D F (v,H,q,r,h) hd
theorem j9 {x:Str} {v:V} {u:Value} {pos:Pos} (D:Gl X x) (F:X.mg x=none) (L:bootBuiltins x>u) (r:KC v u) (J:x≠"__name__":=by decide) (hd:(x == ("__debug__":Str))=false:=by decide):PE X (.Name x pos) (tC v):=
 λο ο ο H ο q h=>sN q D F L (v,H,q,r,h) J hd
variable {a b:Expr} {ta tb:TE} {pos:Pos}
def PC (X:Cx) (op:CmpOp) (a b:Expr) (t:TE):Prop:=
 ∀(pins:!(Addr×Obj)) (s:Shared) (σ:St) (H:Hp) (Q:VK),HC X pins σ H s->t σ H Q->
  wpAny (model X.prog X.w) X.A (eval a X.env) (λv s₁=>wpAny (model X.prog X.w) X.A (eval b X.env) (λu s₂=>wpAny (model X.prog X.w) X.A (compareOp op v u) (EP X pins σ Q) X.xe s₂) X.xe s₁) X.xe s
theorem aI (b:Expr) {q:CmpOp} (h:q≠.In) (h2:q≠.NotIn):behindInMarks q b=false:=by
 let D:(q == CmpOp.In)=false:=by cases q<;>first|rfl|exact absurd rfl h
 let F:(q == CmpOp.NotIn)=false:=by cases q<;>first|rfl|exact absurd rfl h2
 cases b<;>simp[behindInMarks,D,F]
def tB (t:TE):TT:=λσ H Q=>t σ H λx H1=>∃c,x=.bl c/\Q c H1
theorem tN {D:CmpOp} {t:TE} (h:PC X D a b t) (h1:behindInMarks D b=false:=by first|exact aI _ (by decide) (by decide)|rfl):PT X (.Compare a [D] [b] pos) (tB t):=by
 intro O s Y H Q J N;show wpAny_isTrue_Compare1 (kD (h O s Y H _ J N) λv a0 h1=>kD h1 λu a1 h2=>kD h2 λc a2 W=>?_) h1;let(x,F,L,V,U):=W;let(Z,rfl,q):=U;cases V;show cC (F,L,q)
theorem rG {e:Expr} {t:TE} (h:PE X e t) (L:∀UF,isTrue e X.env UF=(do let v<-UF;standAt e.pos;holding [v] (truthy v)):=by intro _;rfl):PT X e (tB t):=by
 intro O s W H Q F N;show isTrue_plain (kD (h O s W H _ F N) λv Z ⟨x,D,J,V,U⟩=>?_) (L _);let(Y,rfl,q):=U;cases V;show cC (D,J,q)
variable {tA tB':TT} {rest:!Expr}
def QN (t u:TT):TT:=λσ H Q=>t σ H λc H1=>if c=true then u σ H1 Q else Q false H1
def lZ (t u:TT):TT:=λσ H Q=>t σ H λc H1=>if c=true then Q true H1 else u σ H1 Q
def RN (t:TT):TT:=λσ H Q=>t σ H λc H1=>Q (not c) H1
theorem WR (D:PT X a tA):PW X (.BoolOp .And [a] pos) tA:=by
 intro N F s J H Q q h;show isTrue_and (kD (D F s J H Q q h) λc L e=>?_);cases c with
 |true=>show isTrue_and_nil e
 |false=>show e
theorem fL (D:PT X a tA):PW X (.BoolOp .Or [a] pos) tA:=by
 intro N F s J H Q q h;show isTrue_or (kD (D F s J H Q q h) λc L e=>?_);cases c with
 |false=>show isTrue_or_nil e
 |true=>show e
theorem YR (O:PT X a tA) (U:PW X (.BoolOp .And (b::rest) pos) tB'):PW X (.BoolOp .And (a::b::rest) pos) (QN tA tB'):=by
 intro W F s L H Q N h;show isTrue_and (kD (O F s L H _ N h) λc V Y=>?_);let(q,D,J):=Y;cases c with
 |true=>show U W F V L q Q D J
 |false=>show(q,D,J)
theorem SN (O:PT X a tA) (U:PW X (.BoolOp .Or (b::rest) pos) tB'):PW X (.BoolOp .Or (a::b::rest) pos) (lZ tA tB'):=by
 intro W F s L H Q N h;show isTrue_or (kD (O F s L H _ N h) λc V Y=>?_);let(q,D,J):=Y;cases c with
 |true=>show(q,D,J)
 |false=>show U W F V L q Q D J
theorem JG (F:PT X a tA):PT X (.UnaryOp .Not a pos) (RN tA):=by
 intro J s L H Q D h;show isTrue_not (F J s L H (λc q=>Q (not c) q) D h)
def HJ (ta tb:TE):TE:=λσ H Q=>ta σ H λx H1=>∃c,x=.bl c/\if c=true then tb σ H1 Q else Q (.bl false) H1
def IJ (ta:TE):TE:=λσ H Q=>ta σ H λx H1=>∃c,x=.bl c/\Q (.bl (not c)) H1
theorem gL {op} {t:TE} (h:PE X a t):PE X (.BoolOp op [a] pos) t:=λF s J H Q q D=>BoolOp_one (h F s J H Q q D)
theorem XI (O:PE X a ta) (U:PE X (.BoolOp .And (b::rest) pos) tb):PE X (.BoolOp .And (a::b::rest) pos) (HJ ta tb):=by
 intro J s L H Q N h;show BoolOp_and (kD (O J s L H _ N h) λv W Y=>?_);let(x,D,F,V,q):=Y;let(c,rfl,q):=q;cases V;show cC ?_;cases c with
 |true=>show U J W L D Q F q
 |false=>show(.bl false,D,F,rfl,q)
theorem mZ (L:PE X a ta):PE X (.UnaryOp .Not a pos) (IJ ta):=by
 intro N s V H Q F h;show UnaryOp_ (kD (L N s V H _ F h) λv W U=>?_);let(x,D,J,O,q):=U;let(c,rfl,q):=q;cases O;show not_of (cC (.bl (not c),D,J,rfl,q))
def nZ (t:TT) (ta tb:TE):TE:=λσ H Q=>t σ H λc H1=>if c=true then ta σ H1 Q else tb σ H1 Q
theorem uN {c:Expr} (Y:PT X c tA) (V:PE X a ta) (W:PE X b tb):PE X (.IfExp c a b pos) (nZ tA ta tb):=by
 intro q s D H Q O h;show wpAny_IfExp (kD (Y q s D H _ O h) λU N Z=>?_);let(F,J,L):=Z;cases U with
 |true=>show V q N D F Q J L
 |false=>show W q N D F Q J L
end
def pD (K:PySem.W.Frag) (H:Hp) (a:Addr) (xs:!V):Prop:=
 Rd H a (.lst xs)\/
  ∃(o:Obj) (its:Array Value) (n:Nat),K.lookup a>o/\o.cls=.type "list"/\o.dict=none/\o.data=.seq its n/\its.size<=sizeLine/\OC xs its.toList
def uD (K:PySem.W.Frag) (H:Hp) (a:Addr) (xs:!V):Prop:=
 Rd H a (.tup xs)\/
  ∃(o:Obj) (its:Array Value) (n:Nat),K.lookup a>o/\o.cls=.type "tuple"/\o.data=.seq its n/\its.size<=sizeLine/\OC xs its.toList
def ZR:Value->Option V
 |.none=>some .non
 |.bool b=>some (.bl b)
 |.int i _=>some (.int i)
 |.str x _=>some (.str x)
 |.bytes b _=>some (.byt b)
 |.float b _=>some (.flt b)
 |.ref a=>↑a
 |.type n=>some (.ty n)
 |_=>none
theorem KC.abs {x:V} {u:Value} (r:KC x u):ZR u>x:=by
 cases x with
 |non=>cases r;rfl
 |bl _=>cases r;rfl
 |int _=>let(t,rfl):=r;rfl
 |str _=>let(t,rfl):=r;rfl
 |byt _=>let(t,rfl):=r;rfl
 |flt _=>let(t,rfl):=r;rfl
 |ref _=>cases r;rfl
 |ty _=>cases r;rfl
theorem KC.inj {x y:V} {u:Value} (r:KC x u) (q:KC y u):x=y:=rA (r.abs.symm.trans q.abs)
theorem OC.inj:∀{xs ys:!V} {us:!Value},OC xs us->OC ys us->xs=ys
 |_,_,_,.nil,.nil=>rfl
 |_,_,_,.cons r t,.cons r' t'=>by rw[r.inj r',OC.inj t t']
section
variable {X:Cx} {pins:!(Addr×Obj)} {σ:St} {H:Hp} {s:Shared} {a:Addr} {xs ys:!V}
theorem pD.of {K:PySem.W.Frag} (h:H a>(.lst xs)):pD K H a xs:=.inl (.inl h)
theorem uD.of {K:PySem.W.Frag} (h:H a>(.tup xs)):uD K H a xs:=.inl (.inl h)
theorem HC.list (D:HC X pins σ H s) (h:pD X.K H a xs):∃q:!Value,OC xs q/\PlainL s.heap a q.toArray/\xs.length<=sizeLine:=by
 let h||(o,q,n,hk,F,hd,J,hz,r):=h
 .let(L,q,n,r,e):=h.ok D.hok;show(q,r,(_,n,e,rfl,rfl,rfl),L)
 .show(q.toList,r,(o,n,D.kIn a o hk,F,hd,by simpa using J),?_);let e:=r.length;simp only[eC] at e;omega
theorem HC.tuple (D:HC X pins σ H s) (h:uD X.K H a xs):∃q:!Value,OC xs q/\IsTup s.heap a q.toArray/\xs.length<=sizeLine:=by
 let h||(o,q,n,hk,F,J,hz,r):=h
 .let(L,q,r,p):=h.ok D.hok;show(q,r,p,L)
 .show(q.toList,r,(o,D.kIn a o hk,F,n,by simpa using J),?_);let e:=r.length;simp only[eC] at e;omega
theorem HC.list_inj (q:HC X pins σ H s) (h:pD X.K H a xs) (h':pD X.K H a ys):xs=ys:=by
 let(L,r,(o,n,e,_,_,F),_):=q.list h;let(its',N,(o',O,D,_,_,d'),_):=q.list h';rw[e] at D;cases D;rw[F] at d';injection d' with J _;have:L=its':=by simpa using congrArg Array.toList J
 subst this;show r.inj N
theorem HC.tuple_inj (q:HC X pins σ H s) (h:uD X.K H a xs) (h':uD X.K H a ys):xs=ys:=by
 let(L,r,(o,e,_,n,F),_):=q.tuple h;let(its',N,(o',D,_,O,d'),_):=q.tuple h';rw[e] at D;cases D;rw[F] at d';injection d' with J _;have:L=its':=by simpa using congrArg Array.toList J
 subst this;show r.inj N
end
abbrev Cx.wish (X:Cx) (E:Value->Shared->Prop):Cx:={X with xe:=E}
abbrev Cx.nox (X:Cx):Cx:=X.wish λο ο=>False
theorem Cx.Ok.wish {X:Cx} (ok:X.Ok) (E:Value->Shared->Prop):(X.wish E).Ok:=
 (ok.mod,ok.kind,ok.glob,ok.blt,ok.above,ok.inj,ok.has,ok.cab,ok.hd,ok.frames,ok.stk,ok.exf,ok.bs,ok.bsz,ok.noex,ok.exfs,ok.funs,ok.frf)
theorem Cx.Ok.unwish {X:Cx} {E:Value->Shared->Prop} (ok:(X.wish E).Ok):X.Ok:=
 (ok.mod,ok.kind,ok.glob,ok.blt,ok.above,ok.inj,ok.has,ok.cab,ok.hd,ok.frames,ok.stk,ok.exf,ok.bs,ok.bsz,ok.noex,ok.exfs,ok.funs,ok.frf)
section
variable {X:Cx} {pins:!(Addr×Obj)} {σ:St} {H:Hp} {s:Shared} {E:Value->Shared->Prop}
theorem HC.wish (I:HC X pins σ H s) (E:Value->Shared->Prop):HC (X.wish E) pins σ H s:=(I.ok.wish E,I.os,I.bare,I.base,I.loc,I.cell,I.free,I.freeC,I.pin,I.hok,I.len)
theorem HC.unwish (I:HC (X.wish E) pins σ H s):HC X pins σ H s:=(I.ok.unwish,I.os,I.bare,I.base,I.loc,I.cell,I.free,I.freeC,I.pin,I.hok,I.len)
theorem SP.unwish {J:bF} {f:Flow} {s':Shared} (h:SP (X.wish E) pins J f s'):SP X pins J f s':=by
 cases f with
 |next=>let(F,H',D,q):=h;show(F,H',D.unwish,q)
 |brk=>let(F,H',D,q):=h;show(F,H',D.unwish,q)
 |cont=>let(F,H',D,q):=h;show(F,H',D.unwish,q)
 |ret u=>let(v,F,H',D,r,q):=h;show(v,F,H',D.unwish,r,q)
theorem PE.nox {e:Expr} {t:TE} (h:PE X.nox e t):PE X e t:=λL s O H Q D J=>
 pB (h L s O H Q (D.wish _) J) (λ_ _ ⟨v,H',F,r,q⟩=>(v,H',F.unwish,r,q)) λο ο N=>False.elim N
theorem PT.nox {e:Expr} {t:TT} (h:PT X.nox e t):PT X e t:=λL s O H Q D J=>
 pB (h L s O H Q (D.wish _) J) (λ_ _ ⟨H',F,q⟩=>(H',F.unwish,q)) λο ο N=>False.elim N
theorem bG.nox {st:!Stmt} {t:TS} (h:bG X.nox st t):bG X st t:=λL s O H D F J=>
 pB (h L s O H D (F.wish _) J) (λο ο q=>q.unwish) λο ο N=>False.elim N
end
section
variable {X:Cx} {st:Stmt} {rest:!Stmt} {t u:TS} {e:Expr} {te:TE} {pos:Pos}
def tNext:TS:=λD σ H=>D.nx σ H
def TN (t u:TS):TS:=λD σ H=>t {D with nx:=u D} σ H
theorem OE:bG X [] tNext:=λο ο D H ο q h=>wpAny_execs_nil (D,H,q,h)
theorem aD (h1:PS X st t) (h2:bG X rest u):bG X (st::rest) (TN t u):=by
 intro F s O H D J h;show wpAny_execs_cons (kD (h1 F s O H {D with nx:=u D} J h) λf N q=>?_);cases f with
 |next=>
  let(U,H',L,q):=q;show h2 F N U H' D L q
 |ret v=>show q
 |brk=>show q
 |cont=>show q
theorem bD (h1:PS X st t):bG X [st] t:=by
 intro J s L H D F h;show wpAny_execs_cons (kD (h1 J s L H D F h) λf N q=>?_);cases f with
 |next=>show wpAny_execs_nil q
 |ret v=>show q
 |brk=>show q
 |cont=>show q
theorem HC.quiet {D:!(Addr×Obj)} {F:St} {H:Hp} {s:Shared} (q:HC X D F H s):interactive X.env=false:=by simp[interactive,q.ok.kind]
def JJ (te:TE):TS:=λD σ H=>te σ H λο H1=>D.nx σ H1
theorem lE (L:PE X e te) (N:swapsWith e none pos.line X.env=pure false:=by rfl):PS X (.Expr e pos) (JJ te):=by
 intro O s D H V q h;show wpAny_Expr_any (kD (L O s D H _ q h) λv Y ⟨x,F,J,W,U⟩=>(D,F,J,U)) q.quiet N
def UN (te:TE):TS:=λD σ H=>te σ H D.rt
theorem PD (L:PE X e te):PS X (.Return (some e) pos) (UN te):=by
 intro N s q H V F h;show wpAny_Return_some (kD (L N s q H _ F h) λv W ⟨x,D,J,U,O⟩=>(x,q,D,J,U,O))
def tRetN:TS:=λD ο H=>D.rt .non H
theorem k9:PS X (.Return none pos) tRetN:=λο ο D H ο q h=>wpAny_Return_none (.non,D,H,q,rfl,h)
def VN (c:TT) (t u:TS):TS:=λD σ H=>c σ H λb H1=>if b=true then t D σ H1 else u D σ H1
theorem ME {c:Expr} {a b:!Stmt} {U:TT} (a0:PT X c U) (Y:bG X a t) (Z:bG X b u):PS X (.If c a b pos) (VN U t u):=by
 intro q s D H F V h;show wpAny_If (kD (a0 q s D H _ V h) λW O a1=>?_);let(J,L,N):=a1;cases W with
 |true=>show Y q O D J F L N
 |false=>show Z q O D J F L N
end
abbrev TG:=V->St->Hp->(St->Hp->Prop)->Prop
abbrev TGs:=!V->St->Hp->(St->Hp->Prop)->Prop
def PG (X:Cx) (target:Expr) (t:TG):Prop:=
 ∀(pins:!(Addr×Obj)) (s:Shared) (σ:St) (H:Hp) (v:V) (u:Value) (Q:St->Hp->Prop),HC X pins σ H s->KC v u->t v σ H Q->
  wpAny (model X.prog X.w) X.A (assign target X.env u) (λο s'=>∃σ' H',HC X pins σ' H' s'/\Q σ' H') X.xe s
def WN (X:Cx) (ts:!Expr) (t:TGs):Prop:=
 ∀(pins:!(Addr×Obj)) (s:Shared) (σ:St) (H:Hp) (vs:!V) (us:!Value) (Q:St->Hp->Prop),HC X pins σ H s->OC vs us->t vs σ H Q->
  wpAny (model X.prog X.w) X.A (assignInOrder ((assignEach ts X.env).map (·.2)) us) (λο s'=>∃σ' H',HC X pins σ' H' s'/\Q σ' H') X.xe s
abbrev TSet:=V->V->V->Hp->(Hp->Prop)->Prop
def XN (X:Cx) (t:TSet):Prop:=
 ∀(pins:!(Addr×Obj)) (s:Shared) (σ:St) (H:Hp) (o i v:V) (ov iv u:Value) (Q:Hp->Prop),HC X pins σ H s->KC o ov->KC i iv->KC v u->t o i v H Q->
  wpAny (model X.prog X.w) X.A (setItem ov iv u) (λο s'=>∃H',HC X pins σ H' s'/\Q H') X.xe s
section
variable {X:Cx} {pos:Pos}
def vH (i:Nat):TG:=λv σ H Q=>Q (σ.set i (some v)) H
theorem XF {i:Nat} {x:Str} (F:X.N.Nodup) (hi:X.N[i]?>x) (L:tQ X.env.scope x) (J:X.fn x=true\/X.env.scope.names.lookup x>.local:=by first|exact .inl rfl|exact .inr rfl|assumption):PG X (.Name x pos) (vH i):=by
 intro N s O H v u Q q r h;show wpAny_assign_Name (jZ q F hi L r (λs' D=>(_,H,D,h)) J)
def gNil:TGs:=λvs σ H Q=>vs=[]/\Q σ H
def KJ (t:TG) (u:TGs):TGs:=λvs σ H Q=>∃v r,vs=v::r/\t v σ H λσ' H'=>u r σ' H' Q
theorem oZ:WN X [] gNil:=by
 intro F s D H vs us Q q r h;let(e,h):=h;subst e;cases r;show assignInOrder_nil (D,H,q,h)
theorem YN {e:Expr} {es:!Expr} {t:TG} {u:TGs} (h1:PG X e t) (h2:WN X es u)
  (N:(assignEach (e::es) X.env).map (·.2)=assign e X.env::(assignEach es X.env).map (·.2):=by rfl):WN X (e::es) (KJ t u):=by
 intro q s Y H vs us Q F r h;let(v,a0,L,h):=h;subst L;cases r with
 |cons r U=>
  rw[N];show assignInOrder_cons (kD (h1 q s Y H _ _ _ F r h) λ_ V W=>?_);let(Z,D,J,O):=W;show h2 q V Z D _ _ Q J U O
def iL (K:PySem.W.Frag) (n:Nat) (t:TGs):TG:=λv σ H Q=>∃a xs,v=.ref a/\uD K H a xs/\xs.length=n/\t xs σ H Q
theorem pZ {es:!Expr} {k:Nat} {t:TGs} {n:Nat} (U:X.calm=true) (h:WN X es t)
  (W:(assignEach es X.env).length=n:=by rfl) (Z:(assignEach es X.env).findIdx? (·.1)=none:=by rfl):PG X (.Tuple es k pos) (iL X.K n t):=by
 intro F s L H v u Q q r D;let(a,xs,O,Y,V,D):=D;subst O;cases r;let(a2,J,a0,hz):=q.tuple Y;show assign_Tuple_tuple (q.ok.hd U) a0 (by simp[W,<-V,J.length]) Z λh' a1=>?_;let N:HC X F L H {s with heap:=h'}:=q.kept (t':=s.toks) λb o e=>a1 b o (YA (JA e)) e;show h F _ L H xs _ Q N (by simpa using J) D
def ZN (to ti:TE) (t:TSet):TG:=λv σ H Q=>to σ H λo H1=>ti σ H1 λi H2=>t o i v H2 λH3=>Q σ H3
theorem jL {o i:Expr} {to N:TE} {t:TSet} (ho:PE X o to) (hi:PE X i N) (a2:XN X t)
  (a1:∀v,assign (.Subscript o i pos) X.env v=(do
   let q<-holding [v] (eval o X.env)
   let D<-holding [v,q] (eval i X.env)
   standAt pos
   holding [v,q,D] (setItem q D v)
   release [v,q,D] []):=by intro _;rfl):PG X (.Subscript o i pos) (ZN to N t):=by
 intro L s J H v u Q W r h;rw[a1];show dA (BB (kD (ho L s J H _ W h) λq a8 F=>?_));let(x,O,Y,a6,a3):=F;show dA (BB (kD (hi L a8 J O _ Y a3) λD a9 F=>?_));let(ab,U,Z,a7,a4):=F;show dA (wpAny_standAt (dA (BB (kD (a2 L a9 J U x ab v q D u _ Z a6 a7 r a4) λ_ ac F=>?_))));let(V,a0,a5):=F;show wpAny_release (J,V,a0,a5)
def kJ (te:TE) (g:TG):TS:=λD σ H=>te σ H λx H1=>g x σ H1 D.nx
theorem kL {D e:Expr} {J:TE} {g:TG} (V:PE X e J) (W:PG X D g) (Y:swapsWithSole [D] e pos.line X.env=pure false:=by rfl) (Z:swappedStores [D] e X.env=pure none:=by rfl)
  (h1:(assignEach [D] X.env).map (·.2)=[assign D X.env]:=by rfl):PS X (.Assign [D] e pos) (kJ J g):=by
 intro F s L H a4 O h;show wpAny_Assign_stores (kD (V F s L H _ O h) λv a2 a3=>?_) Y Z;let(x,N,U,a1,a0):=a3;rw[h1];show kD (W F a2 L N x v _ U a1 a0) λο a5 q=>q
theorem SD {i:Nat} {x:Str} {e:Expr} {D:TE} {q:Pos} (O:X.N.Nodup) (hi:X.N[i]?>x) (Y:tQ X.env.scope x) (U:PE X e D) (W:swapsWith e (some (.Name x q)) pos.line X.env=pure false:=by rfl) (V:X.fn x=true\/X.env.scope.names.lookup x>.local:=by first|exact .inl rfl|exact .inr rfl|assumption):
  PS X (.Assign [.Name x q] e pos) (kJ D (vH i)):=by
 intro Z s a3 H a4 J h;show wpAny_Assign_Name (kD (U Z s a3 H _ J h) λv a5 a2=>?_) W;let(a7,F,L,a1,a0):=a2;show jZ L O hi Y a1 (λa6 N=>(_,F,N,a0)) V
end
section
variable {X:Cx} {pos:Pos}
def bI (c:TT) (tb:TS):TS:=λD σ H=>∃W:Nat->St->Hp->Prop,(∃m,W m σ H)/\∀m σ H,W m σ H->
 c σ H λb H1=>if b=true then ∃N:St->Hp->Prop,(∀σ' H',N σ' H'->∃m',m' < m/\W m' σ' H')/\tb {D with nx:=N,ct:=N,bk:=D.nx} σ H1 else D.nx σ H1
theorem m9 {c:Expr} {a4:!Stmt} {a8:TT} {a7:TS} (a6:PassesOwn (model X.prog X.w) X.A X.env X.xe) (ah:PT X c a8) (ad:bG X a4 a7):PS X (.While c a4 [] pos) (bI a8 a7):=by
 intro Z s ax H ay ab h;let(W,(ao,au),ar):=h;show wpAny_While (codeAny_whileLoop (λn s'=>∃a9 H',HC X Z a9 H' s'/\W n a9 H') ?_ ao (ax,H,ab,au));rintro n ap ⟨L,a1,ac,av⟩;show wpAny_passesOwn a6 (kD (ah Z ap L a1 _ ac (ar n L a1 av)) λb aq aw=>?_);let(a2,a3,F):=aw;cases b with
 |true=>
  let(N,a5,F):=F;rw[jA rfl];show wpAny_passesOwn a6 (kD (ad Z aq L a2 _ a3 F) λf az J=>?_);cases f with
  |next=>
   let(D,q,O,Y):=J;let(V,U,a0):=a5 D q Y;show(V,U,D,q,O,a0)
  |cont=>
   let(D,q,O,Y):=J;let(V,U,a0):=a5 D q Y;show(V,U,D,q,O,a0)
  |brk=>show J
  |ret v=>show J
 |false=>
  rw[fA AA];show wpAny_execs_nil (L,a2,a3,F)
end
set_option genInjectivity false in
structure It where
 go:Nat->Hp->Prop
 yld:Nat->Hp->V->Hp->Prop
 stop:Nat->Hp->Prop
def eF (X:Cx) (pins:!(Addr×Obj)) (H:Hp) (b:Addr):Prop:=
 H b=none/\b≠X.env.locals/\b∉X.fs/\(b∈X.ex\/X.s₀.heap.objs.size<=b)/\(∀x c,X.env.cells.lookup x>c->c≠b)/\∀p∈X.pn++pins,p.1≠b
theorem HC.fpOk {X:Cx} {L:!(Addr×Obj)} {U:St} {H H':Hp} {s:Shared} {b:Addr} (D:HC X L U H s) (F:s.heap.objs.size<=b) (N:H' b=none):eF X L H' b:=by
 show(N,Nat.ne_of_gt (NA D.lt F),D.nofs F,.inr (zB D.sz F),λx c e J=>?_,λp O J=>?_)
 .let(v,q):=D.cell x c e;show absurd (NA q.lt (by rw[J];show F)) (xC _)
 .show absurd (NA (JA (D.pin p O).1) (by rw[J];show F)) (xC _)
structure aH (P:Program) (w:World) (K:PySem.W.Frag) (tg:Expr) (J:It) (fp:!Addr) (it:Addr) (tn:Nat->Heap->Prop):Prop where
 mem:it∈fp
 obj:∀i h,tn i h->∀b∈fp,∃o,h.get? b>o/\∀v,o.data≠.cell v
 keep:∀i h h',tn i h->(∀b∈fp,∀o,h.get? b>o->h'.get? b>o)->tn i h'
 item:∀(X:Cx),X.prog=P->X.w=w->X.K=K->X.calm=true->∀(i:Nat) (pins:!(Addr×Obj)) (s:Shared) (σ:St) (H:Hp) (E:Value->Shared->Prop),HC X pins σ H s->(∀b∈fp,eF X pins H b)->tn i s.heap->J.go i H->
  wpAny (model P w) X.A (pyNext (.ref it)) (λr s1=>∃u,r>u/\
   wpAny (model P w) X.A (letOwnedTupleGo tg (.ref it) u) (λο s2=>∃x H',HC X pins σ H' s2/\KC x u/\J.yld i H x H'/\tn (i+1) s2.heap/\∀b∈fp,H' b=none) E s1) E s
 done:∀(X:Cx),X.prog=P->X.w=w->X.K=K->X.calm=true->∀(i:Nat) (pins:!(Addr×Obj)) (s:Shared) (σ:St) (H:Hp) (E:Value->Shared->Prop),HC X pins σ H s->(∀b∈fp,eF X pins H b)->tn i s.heap->J.stop i H->
  wpAny (model P w) X.A (pyNext (.ref it)) (λr s1=>r=none/\HC X pins σ H s1) E s
 self:∀(A:Around) (i:Nat) (s:Shared) (Q:Value->Shared->Prop) (E:Value->Shared->Prop),tn i s.heap->Q (.ref it) s->wpAny (model P w) A (pyIter (.ref it)) Q E s
abbrev TI:=St->Hp->(It->Hp->Prop)->Prop
def qZ (X:Cx) (pins:!(Addr×Obj)) (σ:St) (tg:Expr) (R:It->Hp->Prop) (itv:Value) (s2:Shared):Prop:=
 ∃(it:Addr) (fp:!Addr) (tn:Nat->Heap->Prop) (J:It) (H':Hp),itv=.ref it/\HC X pins σ H' s2/\aH X.prog X.w X.K tg J fp it tn/\tn 0 s2.heap/\(∀b∈fp,eF X pins H' b)/\R J H'
def PI (X:Cx) (tg iter:Expr) (wi:TI):Prop:=
 ∀(pins:!(Addr×Obj)) (s:Shared) (σ:St) (H:Hp) (R:It->Hp->Prop),HC X pins σ H s->wi σ H R->
  wpAny (model X.prog X.w) X.A (eval iter X.env) (λv s1=>wpAny (model X.prog X.w) X.A (pyIter v) (qZ X pins σ tg R) X.xe s1) X.xe s
theorem aS {M : Model} {A : Around} {E : Value -> Shared -> Prop} {s : Shared} {F : Expr} {D : Addr} {u : Value} {o : Obj} {n : String} {vs : Array Value} {Q : Unit -> Shared -> Prop} (ho : s.heap.get? D = some o) (J : o.cls = .type n) (hd : o.data = .fields vs)
    (L : ["enumerate", "zip", "dict_itemiterator", "dict_reverseitemiterator", "odict_iterator", "itertools.zip_longest", "itertools.pairwise"].contains n = false) (q : Q ⟨⟩ s) : wpAny M A (letOwnedTupleGo F (.ref D) u) Q E s := by
  unfold letOwnedTupleGo;cases F <;> first
    | show wA q
    | (cases u <;> first
        | show wA q
        | (show dA (wpAny_load ho ?_)
           rw [J, hd];change wpAny M A (if (["enumerate", "zip", "dict_itemiterator", "dict_reverseitemiterator", "odict_iterator", "itertools.zip_longest", "itertools.pairwise"].contains n && vs[0]? == some (rawInt _)) = true then _ else _) Q E s;rw [fA (by intro h; rw [L, Bool.false_and] at h; cases h)];show wA q))
def lL (K:PySem.W.Frag) (a:Addr):It:=
 (λi H=>∃xs x,pD K H a xs/\xs[i]?>x,λi H x H'=>H'=H/\∀xs,pD K H a xs->xs[i]?>x,λi H=>∃xs,pD K H a xs/\xs.length<=i)
def lJ (lo:Int) (n:Nat):It:=(λi ο=>i < n,λi H x H'=>H'=H/\x=.int (lo+i),λi ο=>n<=i)
theorem o9 {P:Program} {w:World} {K:PySem.W.Frag} {ar:Expr} (a F:Addr):aH P w K ar (lL K a) [F] F (λi h=>h.IsListIter F a i) where
 mem:=by simp
 obj:=λi h st b D=>by
  let e:b=F:=by simpa using D
  subst e;let(o,e,c,N):=st;show(o,e,λv a8=>by rw[N] at a8;cases a8)
 keep:=λi h h' st k=>st.at λo e=>k F (by simp) o e
 item:=by
  intro X a0 a2 Z a5 i a6 s a9 H E q J st a1;subst a0 a2 Z;let(xs,x,L,a3):=a1;let(ap,a4,p,hz):=q.list L;let(u,ah,aq):=a4.get a3;let(O,U,ad,V,W,Y):=J F (by simp);show wpAny_pyNext_list_item st p.isList (x:=u) (by simpa using ah) λh' a7 sb=>?_;let ab:HC X a6 a9 H {s with heap:=h'}:=q.turned (t':=s.toks) (λb o D e=>(sb.2 b D).trans e) O U V W Y;let(o,e,c,N):=id a7;show(u,rfl,aS (s:={s with heap:=h'}) e c N (by decide) (x,H,ab,aq,⟨rfl,λys ao=>by rw[q.list_inj ao L];show a3⟩,a7,λb D=>(J b D).1))
 done:=by
  intro X a0 a2 Z a5 i a6 s a9 H E q J st a1;subst a0 a2 Z;let(xs,L,a3):=a1;let(ap,a4,p,hz):=q.list L;let(O,U,ad,V,W,Y):=J F (by simp);let au:=a4.length;show wpAny_pyNext_list_end (q.ok.hd a5) st p.isList (by simp;omega) λh' ac=>⟨rfl,q.turned (t':=s.toks) (λb o D e=>ac b o D e) O U V W Y⟩
 self:=λο ο ο ο ο st h=>wpAny_pyIter_listiter st h
theorem u9 {P:Program} {w:World} {K:PySem.W.Frag} {ad:Expr} (q:Addr) (lo:Int) (n:Nat):aH P w K ad (lJ lo n) [q] q (λi h=>IsRangeIter h q (lo+(i:Nat) * 1) ((n:Int) - (i:Nat)) 1) where
 mem:=by simp
 obj:=λi h st b D=>by
  let e:b=q:=by simpa using D
  subst e;show(_,st,λv ah=>by
   let ao:Data.fields _=Data.cell v:=ah;cases ao)
 keep:=λi h h' st k=>k q (by simp) _ st
 item:=by
  intro X Z a2 Y a0 i a3 s a6 H E F J st a1;subst Z a2 Y;let(L,N,a9,O,U,V):=J q (by simp);let W:=Walks.range (prog:=X.prog) (w:=X.w) (F.ok.hd a0) q lo 1 n;show W.item i s _ _ a1 st λv h' a5 ab a4 ac=>?_;let(t,rfl):=ab;let a7:HC X a3 a6 H {s with heap:=h',toks:=a5}:=F.turned (λb o D e=>ac b o (by simpa using D) e) L N O U V;show(_,rfl,aS (s:={s with heap:=h',toks:=a5}) (n:="range_iterator") a4 rfl rfl (by decide) (.int (lo+i),H,a7,⟨t,?_⟩,⟨rfl,rfl⟩,a4,λb D=>(J b D).1));rw[Int.mul_one]
 done:=by
  intro X Z a2 Y a0 i a3 s a6 H E F J st a1;subst Z a2 Y;let(L,N,a9,O,U,V):=J q (by simp);show wpAny_pyNext_range_end (F.ok.hd a0) st (by have:n<=i:=a1;omega) λh' a8=>⟨rfl,F.turned (t':=s.toks) (λb o D e=>a8 b o D e) L N O U V⟩
 self:=λο ο ο ο ο st h=>wpAny_pyIter_rangeiter st h
section
variable {X:Cx} {tg:Expr}
def LJ (K:PySem.W.Frag) (tl:TE):TI:=λσ H R=>tl σ H λx H1=>∃a,x=.ref a/\(∃xs,pD K H1 a xs)/\R (lL K a) H1
theorem YI {l:Expr} {J:TE} (U:PE X l J):PI X tg l (LJ X.K J):=by
 intro W s a1 H R N h;show kD (U W s a1 H _ N h) λv F a0=>?_;let(x,L,D,Z,Y):=a0;let(a,e,(xs,V),q):=Y;subst e;cases Z;let(a2,a3,p,hz):=D.list V;show wpAny_pyIter_list p.isList ?_;show(F.heap.objs.size,[F.heap.objs.size],_,_,L,rfl,D.kept (t':=F.toks) λb o e=>zA _ e,o9 a _,(_,SA _ rfl,rfl,rfl),λb O=>?_,q);let e:b=F.heap.objs.size:=by simpa using O
 subst e;show D.fpOk (yA _) (D.hok.fresh (yA _))
theorem rZ {F:!(Addr×Obj)} {L:St} {H:Hp} {s:Shared} {R:It->Hp->Prop} {E:Value->Shared->Prop} {lo hi:Int} {t u v:Tok} {J:Nat} (N:HC X F L H s) (h1: -(2 ^ 62)<=lo) (h2:lo < 2 ^ 62) (V: -(2 ^ 62)<=hi) (W:hi < 2 ^ 62)
  (q:R (lJ lo (hi - lo).toNat) H):wpAny (model X.prog X.w) X.A (pyIter (.ref s.heap.objs.size)) (qZ X F L tg R) E {s with heap:=s.heap.push {cls:=.type "range",data:=.fields #[.int lo t,.int hi u,.int 1 v]},toks:=J}:=by
 show wpAny_pyIter_range (IsRange.new ..) (small_one h1 h2 V W) ?_;let D:HC X F L H {s with heap:=s.heap.push {cls:=.type "range",data:=.fields #[.int lo t,.int hi u,.int 1 v]},toks:=J}:=N.kept λb o e=>zA _ e;show((s.heap.push {cls:=.type "range",data:=.fields #[.int lo t,.int hi u,.int 1 v]}).objs.size,[(s.heap.push {cls:=.type "range",data:=.fields #[.int lo t,.int hi u,.int 1 v]}).objs.size],_,_,H,rfl,
  D.kept (t':=J) λb o e=>zA _ e,u9 _ lo (hi - lo).toNat,?_,λb Y=>?_,q)
 .let O:lo+((0:Nat):Int) * 1=lo:=by simp
  let U:(((hi - lo).toNat:Nat):Int) - ((0:Nat):Int)=Builtin.Range.rangeSize lo hi 1:=by rw[rangeSize_one];split<;>omega
  change IsRangeIter _ _ (lo+((0:Nat):Int) * 1) ((((hi - lo).toNat:Nat):Int) - ((0:Nat):Int)) 1;rw[O,U];show SA _ rfl
 .let e:b=(s.heap.push {cls:=.type "range",data:=.fields #[.int lo t,.int hi u,.int 1 v]}).objs.size:=by simpa using Y
  subst e;show D.fpOk (yA _) (D.hok.fresh (yA _))
def MJ (ta:TA):TI:=λσ H R=>ta σ H λvs H1=>∃j:Int,vs=[.int j]/\ -(2 ^ 62)<=j/\j < 2 ^ 62/\R (lJ 0 j.toNat) H1
def NJ (ta:TA):TI:=λσ H R=>ta σ H λvs H1=>∃i j:Int,vs=[.int i,.int j]/\(-(2 ^ 62)<=i/\i < 2 ^ 62/\ -(2 ^ 62)<=j/\j < 2 ^ 62)/\R (lJ i (j - i).toNat) H1
theorem uQ {a:Expr} {J:TA} {p pos:Pos} (O:Gl X "range") (U:X.mg "range"=none) (N:PA X [a] J) (V:starEach [a] X.env=[(false,eval a X.env)]:=by rfl):PI X tg (.Call (.Name "range" p) [a] [] pos) (MJ J):=by
 intro W s a2 H R F h;show Call_ (sN F O U boot_range (mC (kD (N pos W s a2 H _ F h) λus a4 a1=>?_) V rfl));let(vs,a3,L,Z,D):=a1;let(j,e,D,Y,q):=D;subst e;cases Z with
 |cons r a0=>
  cases a0;let(t,rfl):=r;show call_range_1 (rZ L ⋯ ⋯ D Y (by simpa using q))
theorem sZ {a b:Expr} {N:TA} {p pos:Pos} (V:Gl X "range") (W:X.mg "range"=none) (U:PA X [a,b] N) (Y:starEach [a,b] X.env=[(false,eval a X.env),(false,eval b X.env)]:=by rfl) (L:starEach [b] X.env=[(false,eval b X.env)]:=by rfl):
  PI X tg (.Call (.Name "range" p) [a,b] [] pos) (NJ N):=by
 intro Z s a5 H R J h;show Call_ (sN J V W boot_range (mC (kD (U pos Z s a5 H _ J h) λus a7 ⟨vs,a6,O,a4,D⟩=>?_) (by rw[Y,L]) (by rw[L];rfl)));let(i,j,e,(D,a0,a1,a2),q):=D;subst e;cases a4 with
 |cons r F=>
  cases F with
  |cons a3 F=>
   cases F;let(t,rfl):=r;let(t',rfl):=a3;show call_range_2 (rZ O D a0 a1 a2 q)
def bS (wi:TI) (g:TG) (tb:TS):TS:=λD σ H=>wi σ H λJ H1=>∃W:Nat->Nat->St->Hp->Prop,(∃m,W 0 m σ H1)/\∀i m σ H,W i m σ H->
 (J.stop i H/\D.nx σ H)\/(J.go i H/\∃N:St->Hp->Prop,(∀σ' H',N σ' H'->∃m',m' < m/\W (i+1) m' σ' H')/\∀x H',J.yld i H x H'->g x σ H' λσ2 H2=>tb {D with nx:=N,ct:=N,bk:=D.nx} σ2 H2)
def tG (fp:!Addr) (h:Heap):!(Addr×Obj):=fp.filterMap λb=>(h.get? b).map λo=>(b,o)
theorem vN {q:!Addr} {h:Heap} {b:Addr} {o:Obj} (D:b∈q) (e:h.get? b>o):(b,o)∈tG q h:=UB.mpr (b,D,by rw[e];rfl)
theorem y9 {D:!Addr} {h:Heap} {p:Addr×Obj} (L:p∈tG D h):p.1∈D/\h.get? p.1>p.2:=by
 let(b,J,e):=UB.mp L;cases q:h.get? b with
 |none=>rw[q] at e;cases e
 |some o=>
  rw[q] at e;let F:(b,o)=p:=rA e;subst F;show⟨J,q⟩
theorem HC.pinned {D:!(Addr×Obj)} {O:St} {H:Hp} {s:Shared} {q:!Addr} (J:HC X D O H s) (Z:∀b∈q,eF X D H b) (ho:∀b∈q,∃o,s.heap.get? b>o/\∀v,o.data≠.cell v):HC X (D++tG q s.heap) O H s:=
 J.pins_of λp a0=>(kA.mp a0).elim (λF=>J.pin p (vA _ F)) λF=>by
  let(N,e):=y9 F;let(V,W,Y,_):=Z p.1 N;let(o,L,U):=ho p.1 N;rw[e] at L;cases L;show(e,V,W,Y,U)
theorem HC.unpinned {D pl:!(Addr×Obj)} {F:St} {H:Hp} {s:Shared} (q:HC X (D++pl) F H s):HC X D F H s:=q.pins_of λp J=>q.pin p (vA _ (EA _ J))
theorem mL {a4:Expr} {ac:!Stmt} {aw:TI} {g:TG} {au:TS} {pos:Pos} (Y:PassesOwn (model X.prog X.w) X.A X.env X.xe) (ao:X.calm=true) (hi:PI X tg a4 aw) (bi:PG X tg g) (F:bG X ac au)
  (bn:∀x,foldedSetIterable a4 X.env x=pure x:=by intro _;rfl):PS X (.For tg a4 ac [] pos) (bS aw g au):=by
 intro O s ax H co b0 h;show wpAny_For (kD (hi O s ax H _ b0 h) λv cu h1=>kD h1 λcs cv h2=>?_) bn;let(cr,V,av,cp,ay,e,b1,T,c2,ad,W,(bp,c9),c4):=h2;subst e;let a7:∀{H':Hp},(∀b∈V,H' b=none)->∀b∈V,eF X O H' b:=λbm b F=>⟨bm b F,(ad b F).2⟩
 show codeAny_forLoop_any (λn s'=>∃i a0 H',HC X O a0 H' s'/\av i s'.heap/\(∀b∈V,H' b=none)/\W i n a0 H') ?_ bp (0,ax,ay,b1,c2,λb F=>(ad b F).1,c9);rintro n ap ⟨i,a1,a2,a9,ar,ah,cd⟩;let(c3,bt)||(go,N,bh,step):=c4 i n a1 a2 cd
 .show wpAny_passesOwn Y (kD (T.done X rfl rfl rfl ao i O ap a1 a2 X.xe a9 (a7 ah) ar c3) λr c0 U=>?_);let(a3,b2):=U;subst a3;show wpAny_execs_nil (a1,a2,b2,bt)
 .show wpAny_passesOwn Y (kD (T.item X rfl rfl rfl ao i O ap a1 a2 X.xe a9 (a7 ah) ar go) λr c0 U=>?_);let(u,a3,be):=U;subst a3;show wpAny_passesOwn Y (kD be λ_ aq U=>?_);let(x,a8,b3,bw,cl,a6,bb):=U;let b4:=b3.pinned (a7 bb) (T.obj _ _ a6);show wpAny_passesOwn Y (kD (bi _ aq a1 a8 x u _ b4 bw (step x a8 cl)) λ_ c1 U=>?_);let(cn,az,b5,br):=U;show wpAny_passesOwn Y (kD (F _ c1 cn az _ b5 br) λf a5 L=>?_);let ab:∀{J:St} {q:Hp},HC X (O++tG V aq.heap) J q a5->N J q->∃m,m < n/\∃i a0 H',HC X O a0 H' a5/\av i a5.heap/\(∀b∈V,H' b=none)/\W i m a0 H':=λ{J q} D Z=>by
   let(bo,bl,ch):=bh J q Z;show(bo,bl,i+1,J,q,D.unpinned,T.keep _ _ _ a6 λb F o e=>(D.pin (b,o) (vA _ (vA _ (vN F e)))).1,λb F=>?_,ch);let(o,e,cq):=T.obj _ _ a6 b F;show (D.pin (b,o) (vA _ (vA _ (vN F e)))).2.1
  cases f with
  |next=>let(J,q,D,Z):=L;show ab D Z
  |cont=>let(J,q,D,Z):=L;show ab D Z
  |brk=>let(J,q,D,L):=L;show(J,q,D.unpinned,L)
  |ret v=>let(ck,J,q,D,bz,L):=L;show(ck,J,q,D.unpinned,bz,L)
end
theorem N9 {K:PySem.W.Frag} {a:Addr} {xs:!V} {g:TG} {a0:TS} {F:bF} {D:St} {H:Hp} (Pv:Nat->St->Hp->Prop) (h0:Pv 0 D H) (a1:∀i D H,i<=xs.length->Pv i D H->pD K H a xs)
  (a2:∀i x D H,xs[i]?>x->Pv i D H->g x D H λU J=>a0 {F with nx:=Pv (i+1),ct:=Pv (i+1),bk:=F.nx} U J) (hd:∀D H,Pv xs.length D H->F.nx D H):
  ∃W:Nat->Nat->St->Hp->Prop,(∃m,W 0 m D H)/\∀i m D H,W i m D H->
   ((lL K a).stop i H/\F.nx D H)\/((lL K a).go i H/\∃N:St->Hp->Prop,(∀O H',N O H'->∃Z,Z < m/\W (i+1) Z O H')/\∀x H',(lL K a).yld i H x H'->g x D H' λU J=>a0 {F with nx:=N,ct:=N,bk:=F.nx} U J):=by
 show(λi m D H=>m=xs.length - i/\i<=xs.length/\Pv i D H,(xs.length,by simp,vC _,h0),?_);rintro i m D H ⟨rfl,hi,p⟩;let q:=a1 i D H hi p;by_cases Y:i < xs.length
 .show .inr ((xs,xs[i],q,by simp[Y]),Pv (i+1),λO H' a3=>(xs.length - (i+1),⋯,rfl,Y,a3),λx H' L=>?_);let(e,L):=L;subst e;show a2 i x D _ (L xs q) p
 .let e:i=xs.length:=⋯;subst e;show .inl ⟨(xs,q,yA _),hd D H p⟩
theorem O9 {lo:Int} {n:Nat} {g:TG} {Y:TS} {D:bF} {q:St} {H:Hp} (Pv:Nat->St->Hp->Prop) (h0:Pv 0 q H)
  (Z:∀i q H,i < n->Pv i q H->g (.int (lo+i)) q H λU F=>Y {D with nx:=Pv (i+1),ct:=Pv (i+1),bk:=D.nx} U F) (hd:∀q H,Pv n q H->D.nx q H):
  ∃W:Nat->Nat->St->Hp->Prop,(∃m,W 0 m q H)/\∀i m q H,W i m q H->
   ((lJ lo n).stop i H/\D.nx q H)\/((lJ lo n).go i H/\∃N:St->Hp->Prop,(∀O H',N O H'->∃V,V < m/\W (i+1) V O H')/\∀x H',(lJ lo n).yld i H x H'->g x q H' λU F=>Y {D with nx:=N,ct:=N,bk:=D.nx} U F):=by
 show(λi m q H=>m=n - i/\i<=n/\Pv i q H,(n,by simp,vC _,h0),?_);rintro i m q H ⟨rfl,hi,p⟩;by_cases J:i < n
 .show .inr (J,Pv (i+1),λO H' a0=>(n - (i+1),⋯,rfl,J,a0),λx H' L=>?_);let(e,L):=L;subst e L;show Z i q _ J p
 .let e:i=n:=⋯;subst e;show .inl ⟨yA _,hd q H p⟩
abbrev R2:=V->V->Hp->VK->Prop
def gF (X:Cx) (f:Value->Value->Sem Value) (r:R2):Prop:=
 ∀(pins:!(Addr×Obj)) (s:Shared) (σ:St) (H:Hp) (x y:V) (v u:Value) (Q:VK),HC X pins σ H s->KC x v->KC y u->r x y H Q->
  wpAny (model X.prog X.w) X.A (f v u) (EP X pins σ Q) X.xe s
def tZ (X:Cx) (f:Value->Sem Value) (r:V->Hp->VK->Prop):Prop:=
 ∀(pins:!(Addr×Obj)) (s:Shared) (σ:St) (H:Hp) (x:V) (v:Value) (Q:VK),HC X pins σ H s->KC x v->r x H Q->
  wpAny (model X.prog X.w) X.A (f v) (EP X pins σ Q) X.xe s
def xE (X:Cx) (f:Value) (r:!V->Hp->VK->Prop):Prop:=
 ∀(pins:!(Addr×Obj)) (s:Shared) (σ:St) (H:Hp) (xs:!V) (us:!Value) (Q:VK),HC X pins σ H s->OC xs us->r xs H Q->
  wpAny (model X.prog X.w) X.A (call f us) (EP X pins σ Q) X.xe s
def TruR (X:Cx) (r:V->Hp->(Bool->Hp->Prop)->Prop):Prop:=
 ∀(pins:!(Addr×Obj)) (s:Shared) (σ:St) (H:Hp) (x:V) (v:Value) (Q:Bool->Hp->Prop),HC X pins σ H s->KC x v->r x H Q->
  wpAny (model X.prog X.w) X.A (truthy v) (TP X pins σ Q) X.xe s
def aO (r:R2) (ta tb:TE):TE:=λσ H Q=>ta σ H λx H1=>tb σ H1 λy H2=>r x y H2 Q
def uZ (r:V->Hp->VK->Prop) (ta:TE):TE:=λσ H Q=>ta σ H λx H1=>r x H1 Q
def rI (C:Int->Int->Prop) (g:Int->Int->V):R2:=λx y H Q=>∃i j,x=.int i/\y=.int j/\C i j/\Q (g i j) H
def cI (g:Int->Int->V):R2:=λx y H Q=>∃i j,x=.int i/\y=.int j/\Q (g i j) H
def rU (g:Int->V):V->Hp->VK->Prop:=λx H Q=>∃i,x=.int i/\Q (g i) H
section
variable {X:Cx} {a b c:Expr} {ta tb tc:TE} {pos:Pos}
theorem nL (Z:PE X a ta) (a0:PE X b tb) {J:!(Addr×Obj)} {s:Shared} {F:St} {H:Hp} {R:V->V->Hp->Prop} (U:HC X J F H s)
  (h:ta F H λx N=>tb F N λD q=>R x D q) {Q:Value->Shared->Prop} {f:Value->Value->Sem Value}
  (a1:∀v u L x D q,HC X J F q L->KC x v->KC D u->R x D q->wpAny (model X.prog X.w) X.A (f v u) Q X.xe L):
  wpAny (model X.prog X.w) X.A (eval a X.env) (λv a7=>wpAny (model X.prog X.w) X.A (eval b X.env) (λu a8=>wpAny (model X.prog X.w) X.A (f v u) Q X.xe a8) X.xe a7) X.xe s:=by
 show kD (Z J s F H _ U h) λv a6 O=>?_;let(x,N,W,a4,a2):=O;show kD (a0 J a6 F N _ W a2) λu L O=>?_;let(D,q,Y,a5,a3):=O;show a1 v u L x D q Y a4 a5 a3
theorem KD {D:Operator} {r:R2} (ho:gF X (binaryOp D) r) (N:PE X a ta) (O:PE X b tb):PE X (.BinOp a D b pos) (aO r ta tb):=by
 intro U s a0 H Q J h;show wpAny_BinOp (nL N O J h λv u Y x Z F L V W q=>ho U Y a0 F x Z v u Q L V W q)
theorem bO {q:UnaryOp} {r:V->Hp->VK->Prop} (ho:tZ X (unaryOp q) r) (O:PE X a ta):PE X (.UnaryOp q a pos) (uZ r ta):=by
 intro D s F H Q L h;show UnaryOp_ (kD (O D s F H _ L h) λv Y ⟨x,J,N,W,U⟩=>ho D Y F J x v Q N W U)
theorem eO {f:Value->Value->Sem Value} {C:Int->Int->Prop} {g:Int->Int->Int}
  (J:∀(i j:Int) (t u:Tok) (s:Shared) (Q:Value->Shared->Prop) (E:Value->Shared->Prop),C i j->Q (.int (g i j) s.toks) {s with toks:=s.toks+1}->wpAny (model X.prog X.w) X.A (f (.int i t) (.int j u)) Q E s):
  gF X f (rI C λi j=>.int (g i j)):=by
 intro O s V H x U v u Q D L N h;let(i,j,rfl,rfl,F,q):=h;let(t,rfl):=L;let(t',rfl):=N;show J i j t t' s _ _ F (.int (g i j),H,D.tok _,⟨_,rfl⟩,q)
theorem pL {f:Value->Value->Sem Value} {g:Int->Int->Int}
  (F:∀(i j:Int) (t u:Tok) (s:Shared) (Q:Value->Shared->Prop) (E:Value->Shared->Prop),Q (.int (g i j) s.toks) {s with toks:=s.toks+1}->wpAny (model X.prog X.w) X.A (f (.int i t) (.int j u)) Q E s):
  gF X f (cI λi j=>.int (g i j)):=by
 intro N s U H x O v u Q D J L h;let(i,j,rfl,rfl,q):=h;let(t,rfl):=J;let(t',rfl):=L;show F i j t t' s _ _ (.int (g i j),H,D.tok _,⟨_,rfl⟩,q)
theorem mJ {f:Value->Value->Sem Value} {g:Int->Int->Bool}
  (F:∀(i j:Int) (t u:Tok) (s:Shared) (Q:Value->Shared->Prop) (E:Value->Shared->Prop),Q (.bool (g i j)) s->wpAny (model X.prog X.w) X.A (f (.int i t) (.int j u)) Q E s):
  gF X f (cI λi j=>.bl (g i j)):=by
 intro N s U H x O v u Q D J L h;let(i,j,rfl,rfl,q):=h;let(t,rfl):=J;let(t',rfl):=L;show F i j t t' s _ _ (.bl (g i j),H,D,rfl,q)
def gO (i j:Int):Prop:=0 < j/\j < 1073741824
def qL (i j:Int):Prop:=0<=j/\j<=1000000/\i.natAbs < 2 ^ 64
def nJ (i j:Int):Prop:=(-(2 ^ 64) < i/\i < 2 ^ 64)\/(-(2 ^ 64) < j/\j < 2 ^ 64)
theorem nJ.ok {i j:Int} (h:nJ i j):IntMulOk i j:=by
 let(h1,h2)||(h1,h2):=h
 .show .of_left (intBits_le_64 h1 h2)
 .show .of_right (intBits_le_64 h1 h2)
theorem LF:gF X (binaryOp .Add) (cI λi j=>.int (i+j)):=pL λο ο ο ο ο ο ο q=>add_int q
theorem dI:gF X (binaryOp .Sub) (cI λi j=>.int (i - j)):=pL λο ο ο ο ο ο ο q=>sub_int q
theorem OJ:gF X (binaryOp .Mult) (rI nJ λi j=>.int (i * j)):=eO λο ο ο ο ο ο ο D q=>mul_int q D.ok
theorem vQ:gF X (binaryOp .FloorDiv) (rI gO λi j=>.int (i / j)):=eO λi j ο ο ο ο ο D q=>by
 let h1:(0:Int) < j:=D.1;let h2:j < 1073741824:=D.2;show floordiv_int ⋯ (by rw[Int.fdiv_eq_ediv_of_nonneg i ⋯];show q) (.inl (PyProof.noPylong_small ⋯))
theorem OH:gF X (binaryOp .Mod) (rI (λο j=>0 < j) λi j=>.int (i % j)):=eO λi j ο ο ο ο ο D q=>by
 let h1:(0:Int) < j:=D;show mod_int' ⋯ (by rw[Int.fmod_eq_emod_of_nonneg i ⋯];show q)
theorem rL:gF X (binaryOp .Pow) (rI qL λi j=>.int (i ^ j.toNat)):=eO λο ο ο ο ο ο ο D q=>pow_int_small D.1 D.2.1 D.2.2 q
theorem vZ:gF X (binaryOp .LShift) (rI qL λi j=>.int (i * 2 ^ j.toNat)):=eO λο ο ο ο ο ο ο D q=>lshift_int_small D.1 D.2.1 D.2.2 q
theorem sL:gF X (binaryOp .BitAnd) (cI λi j=>.int (Builtin.bitAnd i j)):=pL λο ο ο ο ο ο ο q=>and_int q
end
def eI:V->V->Bool
 |.non,.non=>true|.non,.int _=>true|.int _,.non=>true|.non,.bl _=>true|.bl _,.non=>true|.non,.str _=>true|.str _,.non=>true
 |.int _,.int _=>true|.bl _,.bl _=>true|.str _,.str _=>true|.byt _,.byt _=>true
 |.int _,.str _=>true|.str _,.int _=>true|.bl _,.str _=>true|.str _,.bl _=>true
 |_,_=>false
def rEq:R2:=λx y H Q=>eI x y=true/\Q (.bl (decide (x=y))) H
def rNe:R2:=λx y H Q=>eI x y=true/\Q (.bl (not (decide (x=y)))) H
theorem wZ {i j:Int}:decide (V.int i=V.int j)=(i == j):=by
 rw[rB];simp
theorem xZ {i j:Bool}:decide (V.bl i=V.bl j)=(i == j):=by
 rw[rB];simp
theorem yZ {i j:Str}:decide (V.str i=V.str j)=(i == j):=by
 rw[rB];simp
theorem zZ {i j:Array UInt8}:decide (V.byt i=V.byt j)=(i.toList == j.toList):=by
 rw[rB];cases i;cases j;simp
section
variable {X:Cx} {a b c:Expr} {ta tb tc:TE} {pos:Pos}
theorem cF {F:!(Addr×Obj)} {J:St} {H:Hp} {s:Shared} {Q:VK} {k D:Bool} (L:HC X F J H s) (q:Q (.bl k) H) (e:k=D):EP X F J Q (.bool D) s:=by
 subst e;show(.bl k,H,L,rfl,q)
theorem fI:gF X (compareOp .Eq) rEq:=by
 intro O s U H x L v u Q D N F h;let(J,q):=h;cases x with
 |non=>
  cases N;cases L with
  |non=>cases F;show PySem.EqNone.eq_none_none (cF D q (by simp))
  |bl j=>cases F;show PySem.EqNone.eq_none_bool (cF D q (by simp))
  |int j=>let(t',rfl):=F;show PySem.EqNone.eq_none_int (cF D q (by simp))
  |str j=>let(t',rfl):=F;show PySem.EqNone.eq_none_str (cF D q (by simp))
  |_=>show absurd (show false=true from J) AA
 |bl i=>
  cases N;cases L with
  |non=>cases F;show PySem.EqNone.eq_bool_none (cF D q (by simp))
  |bl j=>cases F;show eq_bool (cF D q xZ)
  |str j=>let(t',rfl):=F;show PySem.EqMixed.eq_bool_str (cF D q (by simp))
  |_=>show absurd (show false=true from J) AA
 |int i=>
  let(t,rfl):=N;cases L with
  |non=>cases F;show PySem.EqNone.eq_int_none (cF D q (by simp))
  |int j=>let(t',rfl):=F;show eq_int (cF D q wZ)
  |str j=>let(t',rfl):=F;show PySem.EqMixed.eq_int_str (cF D q (by simp))
  |_=>show absurd (show false=true from J) AA
 |str i=>
  let(t,rfl):=N;cases L with
  |non=>cases F;show PySem.EqNone.eq_str_none (cF D q (by simp))
  |bl j=>cases F;show PySem.EqMixed.eq_str_bool (cF D q (by simp))
  |int j=>let(t',rfl):=F;show PySem.EqMixed.eq_str_int (cF D q (by simp))
  |str j=>let(t',rfl):=F;show eq_str (cF D q yZ)
  |_=>show absurd (show false=true from J) AA
 |byt i=>
  let(t,rfl):=N;cases L with
  |byt j=>let(t',rfl):=F;show PySem.W.eq_bytes (cF D q zZ)
  |_=>show absurd (show false=true from J) AA
 |_=>cases L<;>show absurd (show false=true from J) AA
theorem iO:gF X (compareOp .NotEq) rNe:=by
 intro O s U H x L v u Q D N F h;let(J,q):=h;cases x with
 |non=>
  cases N;cases L with
  |non=>cases F;show PySem.EqNone.ne_none_none (cF D q (by simp))
  |bl j=>cases F;show PySem.EqNone.ne_none_bool (cF D q (by simp))
  |int j=>let(t',rfl):=F;show PySem.EqNone.ne_none_int (cF D q (by simp))
  |str j=>let(t',rfl):=F;show PySem.EqNone.ne_none_str (cF D q (by simp))
  |_=>show absurd (show false=true from J) AA
 |bl i=>
  cases N;cases L with
  |non=>cases F;show PySem.EqNone.ne_bool_none (cF D q (by simp))
  |bl j=>cases F;show ne_bool (cF D q (congrArg not xZ))
  |str j=>let(t',rfl):=F;show PySem.EqMixed.ne_bool_str (cF D q (by simp))
  |_=>show absurd (show false=true from J) AA
 |int i=>
  let(t,rfl):=N;cases L with
  |non=>cases F;show PySem.EqNone.ne_int_none (cF D q (by simp))
  |int j=>let(t',rfl):=F;show ne_int (cF D q (congrArg not wZ))
  |str j=>let(t',rfl):=F;show PySem.EqMixed.ne_int_str (cF D q (by simp))
  |_=>show absurd (show false=true from J) AA
 |str i=>
  let(t,rfl):=N;cases L with
  |non=>cases F;show PySem.EqNone.ne_str_none (cF D q (by simp))
  |bl j=>cases F;show PySem.EqMixed.ne_str_bool (cF D q (by simp))
  |int j=>let(t',rfl):=F;show PySem.EqMixed.ne_str_int (cF D q (by simp))
  |str j=>let(t',rfl):=F;show ne_str (cF D q (congrArg not yZ))
  |_=>show absurd (show false=true from J) AA
 |byt i=>
  let(t,rfl):=N;cases L with
  |byt j=>let(t',rfl):=F;show PySem.W.ne_bytes (cF D q (congrArg not zZ))
  |_=>show absurd (show false=true from J) AA
 |_=>cases L<;>show absurd (show false=true from J) AA
theorem wQ:gF X (compareOp .Lt) (cI λi j=>.bl (decide (i < j))):=mJ λο ο ο ο ο ο ο q=>lt_int q
theorem PJ:gF X (compareOp .LtE) (cI λi j=>.bl (decide (i<=j))):=mJ λο ο ο ο ο ο ο q=>le_int q
theorem tL:gF X (compareOp .Gt) (cI λi j=>.bl (decide (j < i))):=mJ λο ο ο ο ο ο ο q=>gt_int q
theorem jO:gF X (compareOp .GtE) (cI λi j=>.bl (decide (j<=i))):=mJ λο ο ο ο ο ο ο q=>ge_int q
theorem gI:gF X (compareOp .Is) (λx F H Q=>F=.non/\Q (.bl (decide (x=.non))) H):=by
 intro N s O H x F v u Q J D L h;let(rfl,q):=h;cases L;show is_none_gen (cF J q ?_);cases x<;>first
  |(cases D;rfl)
  |(let(t,rfl):=D;rfl)
theorem AZ:gF X (compareOp .IsNot) (λx F H Q=>F=.non/\Q (.bl (not (decide (x=.non)))) H):=by
 intro N s O H x F v u Q J D L h;let(rfl,q):=h;cases L;show isnot_none_gen (cF J q ?_);cases x<;>first
  |(cases D;rfl)
  |(let(t,rfl):=D;rfl)
theorem UC (b:Expr) {q:CmpOp} (h:q≠.In:=by decide) (h2:q≠.NotIn:=by decide):behindInMarks q b=false:=by
 let D:(q == CmpOp.In)=false:=by cases q<;>first|rfl|exact absurd rfl h
 let F:(q == CmpOp.NotIn)=false:=by cases q<;>first|rfl|exact absurd rfl h2
 cases b<;>simp[behindInMarks,D,F]
theorem PH {D:CmpOp} {r:R2} (ho:gF X (compareOp D) r) (N:PE X a ta) (O:PE X b tb) (U:behindInMarks D b=false):PE X (.Compare a [D] [b] pos) (aO r ta tb):=by
 intro V s a1 H Q J h;show wpAny_Compare1 (nL N O J h λv u Z x a0 F L W Y q=>ho V Z a1 F x a0 v u Q L W Y q) U
def QJ (t:TE):TT:=λσ H Q=>t σ H λx H'=>∃k,x=.bl k/\Q k H'
theorem yF {q:CmpOp} {r:R2} (ho:gF X (compareOp q) r) (Y:PE X a ta) (Z:PE X b tb) (a0:behindInMarks q b=false):PT X (.Compare a [q] [b] pos) (QJ (aO r ta tb)):=by
 intro D s F H Q O h;show wpAny_isTrue_Compare1 (kD (Y D s F H _ O h) λv a7 ⟨x,J,U,a4,a1⟩=>kD (Z D a7 F J _ U a1) λu a8 ⟨a9,L,V,a5,a2⟩=>
  kD (ho D a8 F L x a9 v u _ V a4 a5 a2) λc ab ⟨ac,N,W,a6,k,e,a3⟩=>?_) a0
 subst e;cases a6;show cC (N,W,a3)
def iI (r r':R2) (ta tb tc:TE):TE:=λσ H Q=>ta σ H λx H1=>tb σ H1 λy H2=>r x y H2 λz H3=>∃k,z=.bl k/\
 (if k=true then tc σ H3 λw' H4=>r' y w' H4 Q else Q (.bl false) H3)
theorem P9 {F J:CmpOp} {r U:R2} (ho:gF X (compareOp F) r) (a9:gF X (compareOp J) U) (a5:PE X a ta) (a6:PE X b tb) (a7:PE X c tc)
  (a8:lastMarks [F,J] [b,c]=false:=by with_unfolding_all rfl):PE X (.Compare a [F,J] [b,c] pos) (iI r U ta tb tc):=by
 intro q s D H Q a1 h;show Compare_chain (kD (a5 q s D H _ a1 h) λv aq ⟨x,Y,a2,ah,ab⟩=>chain_link (kD (a6 q aq D Y _ a2 ab) λu ar ⟨W,Z,a3,V,ac⟩=>
  kD (ho q ar D Z x W v u _ a3 ah V ac) λay au ⟨az,L,N,ao,k,e,O⟩=>?_)) a8
 subst e;cases ao;show cC ?_;cases k with
 |false=>show ite_ff (.bl false,L,N,rfl,O)
 |true=>show ite_tt (chain_last (kD (a7 q au D L _ N O) λaw av ⟨ax,a0,a4,ap,ad⟩=>a9 q av D a0 W ax u aw Q a4 V ap ad))
def TruV (K:PySem.W.Frag) (x:V) (H:Hp) (k:Bool):Prop:=
 match x with
 |.non=>k=false
 |.bl b=>k=b
 |.int i=>k=(i != 0)
 |.str y=>y.length<=sizeLine/\k=((y.length:Int) != 0)
 |.byt y=>y.size<=sizeLine/\k=((y.size:Int) != 0)
 |.ref p=>(∃xs,pD K H p xs/\k= not xs.isEmpty)\/(∃xs,uD K H p xs/\k= not xs.isEmpty)\/∃kvs,H p>(.dK kvs)/\k= not kvs.isEmpty
 |_=>False
theorem uG:(sizeLine:Nat) < 2 ^ 63:=by rw[sizeLine_eq];decide
theorem EF {x:V} {us:!Value} (r:OC [x] us):∃u,us=[u]/\KC x u:=by
 cases r with
 |cons q D=>cases D;show(_,rfl,q)
theorem RJ {x D:V} {us:!Value} (r:OC [x,D] us):∃u q,us=[u,q]/\KC x u/\KC D q:=by
 cases r with
 |cons F J=>
  cases J with
  |cons L N=>cases N;show(_,_,rfl,F,L)
theorem Q9 (J:X.calm=true):xE X (.builtin "max") (λxs H Q=>∃i j,xs=[.int i,.int j]/\Q (.int (if GT.gt j i then j else i)) H):=by
 intro L s U H xs us Q F r h;let(i,j,rfl,q):=h;let(u,O,rfl,(t,rfl),(t',rfl)):=RJ r;show max_two_ints (F.ok.hd J) λh' N k=>(_,H,F.kept k,?_,q)
 by_cases D:GT.gt j i
 .rw[jA D,jA D];show⟨_,rfl⟩
 .rw[fA D,fA D];show⟨_,rfl⟩
theorem R9 (J:X.calm=true):xE X (.builtin "min") (λxs H Q=>∃i j,xs=[.int i,.int j]/\Q (.int (if j < i then j else i)) H):=by
 intro L s U H xs us Q F r h;let(i,j,rfl,q):=h;let(u,O,rfl,(t,rfl),(t',rfl)):=RJ r;show min_two_ints (F.ok.hd J) λh' N k=>(_,H,F.kept k,?_,q)
 by_cases D:j < i
 .rw[jA D,jA D];show⟨_,rfl⟩
 .rw[fA D,fA D];show⟨_,rfl⟩
def cS (K:PySem.W.Frag) (x:V) (H:Hp) (n:Nat):Prop:=
 match x with
 |.str y=>y.length<=sizeLine/\n=y.length
 |.byt y=>y.size<=sizeLine/\n=y.size
 |.ref p=>(∃xs,pD K H p xs/\n=xs.length)\/∃xs,uD K H p xs/\n=xs.length
 |_=>False
theorem ZI:xE X (.builtin "len") (λxs H Q=>∃x n,xs=[x]/\cS X.K x H n/\Q (.int n) H):=by
 intro a0 s a1 H xs us Q F r h;let(x,n,rfl,e,q):=h;let(u,rfl,U):=EF r;let Y:=uG;let Z:sizeLine=16777216:=sizeLine_eq;cases x with
 |str J=>
  let(t,rfl):=U;obtain⟨V,D⟩:J.length<=sizeLine/\n=J.length:=e;subst D;show len_str ⋯ (.int _,H,F.tok _,⟨_,rfl⟩,q)
 |byt J=>
  let(t,rfl):=U;obtain⟨V,D⟩:J.size<=sizeLine/\n=J.size:=e;subst D;show PySem.W.len_bytes ⋯ (.int _,H,F.tok _,⟨_,rfl⟩,q)
 |ref p=>
  cases U;let D:(∃xs,pD X.K H p xs/\n=xs.length)\/∃xs,uD X.K H p xs/\n=xs.length:=e;let(xs,N,D)||(xs,N,D):=D
  .subst D;let(W,O,pl,hz):=F.list N;let L:=O.length;show Calls.call_len_list pl.isList (by simp only[FA];omega) (.int xs.length,H,F.tok _,⟨_,by simp only[FA];rw[L]⟩,q)
  .subst D;let(W,O,pl,hz):=F.tuple N;let L:=O.length;show len_tuple pl (by simp only[FA];omega) (.int xs.length,H,F.tok _,⟨_,by simp only[FA];rw[L]⟩,q)
 |_=>show (show False from e).elim
end
structure bH (h:Heap) (x dx C:Addr) (mA:Str->Option Value):Prop where
 obj:h.get? x>(PySem.W.instObj C dx)
 ns:h.Ns1 dx mA
 ne:dx≠x
set_option tactic.hygienic true in
theorem S9 {h:Heap} {dx:Addr} {mA:Str->Option Value} (n:h.Ns1 dx mA):∃od,h.get? dx>od/\∀name,PySem.W.lookIn name od>(mA name):=by
 let(o,es,ep,ho,hd,hk,_,hm):=n;show(o,ho,λname=>?_);let e:=hm name;unfold nsFind findBy at e;rw[<-Array.find?_toList] at e;unfold PySem.W.lookIn;rw[hd];dsimp only
 split
 .rename_i y q;rw[q] at e;show congrArg some e
 .rename_i q;rw[q] at e;let a:es.toList.any (·.refKey)=false:=by
   rw[List.any_eq_false];intro y hy;let(z,t,hkey):=hk y (Array.mem_toList_iff.mp hy);simp[DictEntry.refKey,hkey]
  let a':¬es.toList.any (·.refKey)=true:=by rw[a];show AA
  rw[fA a'];show congrArg some e
theorem bH.look {h:Heap} {x F C:Addr} {J:Str->Option Value} (D:bH h x F C J):∃q,PySem.W.InstAt h x (PySem.W.instObj C F) C (some q)/\∀name,PySem.W.lookIn name q>(J name):=
 let ⟨q,ho,hl⟩:=S9 D.ns
 (q,(D.obj,rfl,rfl,ho),hl)
section
variable {prog:Program} {w:World} {A:Around} {E:Value->Shared->Prop} {s:Shared} {K:PySem.W.Frag} {x dx C f:Addr} {mA:Str->Option Value} {name:Str} {v:Value}
theorem T9 {F:Bool} {Q:Value->Shared->Prop} (X:K.In s.heap) (q:bH s.heap x dx C mA) (L:PySem.W.plainGet K C name=true) (N:PySem.W.hasDictIn K C=true)
  (J:PySem.W.findIn K (.ref C) name>none) (U:mA name>v) (V:PySem.W.handedIn v=true) (h:Q v {s with toks:=s.toks+1}):
  wpAny (model prog w) A (getAttr (.ref x) name F) Q E s:=by
 let(W,D,O):=q.look;show PySem.W.get_value X D (PySem.W.plainGet_of L).1 (PySem.W.findObj_own N J rfl (by rw[O,U])) V h
theorem U9 {pl:Sem Bool} {Q:Value×!Value->Shared->Prop} (X:K.In s.heap) (D:bH s.heap x dx C mA) (q:PySem.W.plainGet K C name=true)
  (J:PySem.W.findIn K (.ref C) name>(↑f)) (N:PySem.W.isFn K (.ref f)=true) (O:mA name=none) (h:Q (.ref f,[.ref x]) s):
  wpAny (model prog w) A (getMethod (.ref x) name pl) Q E s:=by
 let(U,F,L):=D.look;show PySem.W.method_fn X F (PySem.W.plainGet_of q).1 (PySem.W.plainGet_of q).2 J (WB.mp N) (by change (PySem.W.lookIn name U).map (·.isSome)>false;rw[L,O];rfl) h
theorem V9 {ns:!Str} {Q:Unit->Shared->Prop} (X:K.In s.heap) (q:bH s.heap x dx C mA)
  (Z:PySem.W.findIn K (.ref C) "__setattr__">(some (.builtin "object.__setattr__"))) (Y:PySem.W.plainOver K C=true) (a0:PySem.W.takerIn K C name>none) (W:PySem.W.hasDictIn K C=true)
  (a1:PySem.Within mA ns) (hsz:ns.length<=sizeLine)
  (h:∀h',bH h' x dx C (λL=>if L=name then some v else mA L)->Heap.SameBut dx s.heap h'->Q ⟨⟩ {s with heap:=h',toks:=s.toks+2}):
  wpAny (model prog w) A (setAttr (.ref x) name v) Q E s:=by
 let(a8,D,a6):=q.look;show PySem.W.set_plain X D Z (PySem.W.osa_open (s:={s with toks:=s.toks+1}) (r:=none) X D Y a0 λb=>?_);let(a3,N,U):=PySem.W.any_some W;let a2:s.heap.get? x>(.ref C,some dx,.plain, #[]):=q.obj;show dA (wA (dA (dA (wpAny_loadPart a2 (dA (PySem.W.Looks.here (s:={s with toks:=s.toks+1}) (PySem.W.looks_clsIn X N) ?_))))));rw[U];show wA (a:=some dx) (dA (wA (dA ?_)));show wpAny_nsSet1 (s:={s with toks:=s.toks+1}) q.ns λh' F J=>?_;let(a7,a5,a4,QE,V,O):=F.count (PySem.Within.cons name v a1);show dA (wpAny_lookBehind QE (by rw[V];show pastItsLine_dict (zB O (by rw[dB];omega))) ?_);show wA (h _ ((J.2 _ (Ne.symm q.ne)).trans q.obj,F,q.ne) J)
theorem W9 {R:Result->Shared->Prop} {vs:!Value} {q:!(Str×Value)} (X:K.In s.heap) (F:PySem.W.makesIn K C=true)
  (hi:PySem.W.findIn K (.ref C) "__init__">(↑f)) (D:PySem.W.typeIn K (.ref f)>(.type "function"))
  (h:codeAny (model prog w) (A.under (.builtin "type.__call__" ⟨.ref C::vs,q⟩)) (.call (.ref f) ⟨.ref (s.heap.objs.size+1)::vs,q⟩) (PySem.W.InitBack (s.heap.objs.size+1) R)
   {s with heap:=(s.heap.push PySem.W.emptyDict).push (PySem.W.instObj C s.heap.objs.size)}):
  codeAny (model prog w) A (.call (.ref C) ⟨vs,q⟩) R s:=by
 let(N,g,L,t,O):=s;show PySem.W.make_core (PySem.W.makes_of X F) (PySem.W.looks_findIn X hi) (λJ=>PySem.W.bind_fn X J D) (.inl rfl) h
end
def LC (f:Str) (v:V):!(Str×V)->!(Str×V)
 |[]=>[(f,v)]
 |(g,x)::r=>if g=f then (g,v)::r else (g,x)::LC f v r
theorem wN (f g:Str) (v:V):∀fs:!(Str×V),(LC f v fs).lookup g=if g=f then some v else fs.lookup g
 |[]=>by
  change List.lookup g [(f,v)]=_;by_cases h:g=f
  .let hb:(g == f)=true:=WB.mpr h;simp only[List.lookup,hb,jA h]
  .let hb:(g == f)=false:=SB.mpr h;simp only[List.lookup,hb,fA h]
 |(k,x)::r=>by
  let ih:=wN f g v r;rw[show LC f v ((k,x)::r)=(if k=f then (k,v)::r else (k,x)::LC f v r) from rfl];by_cases hk:k=f
  .rw[jA hk];by_cases h:g=k
   .let hb:(g == k)=true:=WB.mpr h;simp only[List.lookup,hb,jA (h.trans hk)]
   .let hb:(g == k)=false:=SB.mpr h;simp only[List.lookup,hb,fA (λe:g=f=>h (e.trans hk.symm))]
  .rw[fA hk];by_cases h:g=k
   .let hb:(g == k)=true:=WB.mpr h;simp only[List.lookup,hb,fA (λe:g=f=>hk (h.symm.trans e))]
   .let hb:(g == k)=false:=SB.mpr h;simp only[List.lookup,hb];show ih
theorem dS (f:Str) (v:V):∀fs:!(Str×V),f∈(LC f v fs).map (·.1)/\∀g,g∈fs.map (·.1)->g∈(LC f v fs).map (·.1)
 |[]=>⟨by simp[LC],λg h=>by simp at h⟩
 |(k,x)::r=>by
  let(i1,i2):=dS f v r;rw[show LC f v ((k,x)::r)=(if k=f then (k,v)::r else (k,x)::LC f v r) from rfl];by_cases hk:k=f
  .rw[jA hk];subst hk;show⟨by simp,λg h=>by simpa using h⟩
  .rw[fA hk];show⟨?_,λg h=>?_⟩
   .rw[BA];show qA _ i1
   .rw[BA] at h ⊢;let e||e:=uA.mp h
    .show uA.mpr (.inl e)
    .show qA _ (i2 g e)
theorem BZ (f:Str) (v:V):∀fs:!(Str×V),(LC f v fs).length<=fs.length+1
 |[]=>by simp[LC]
 |(k,x)::r=>by
  let ih:=BZ f v r;rw[show LC f v ((k,x)::r)=(if k=f then (k,v)::r else (k,x)::LC f v r) from rfl];by_cases hk:k=f
  .rw[jA hk,dB,dB];omega
  .rw[fA hk,dB,dB];omega
theorem wE.some_of {v:V} {o:Option Value} (r:wE (some v) o):∃u,o>u/\KC v u:=by
 cases o with
 |none=>show (show False from r).elim
 |some u=>show(u,rfl,r)
theorem wE.none_of {o:Option Value} (r:wE none o):o=none:=by
 cases o with
 |none=>rfl
 |some u=>show (show False from r).elim
theorem X9 {v:V} {u:Value} (r:KC v u):PySem.W.handedIn u=true:=by
 cases v with
 |non=>cases (show u=Value.none from r);rfl
 |bl b=>cases (show u=Value.bool b from r);rfl
 |int i=>let(t,e):=(show ∃t,u=Value.int i t from r);cases e;rfl
 |str x=>let(t,e):=(show ∃t,u=Value.str x t from r);cases e;rfl
 |byt b=>let(t,e):=(show ∃t,u=Value.bytes b t from r);cases e;rfl
 |flt b=>let(t,e):=(show ∃t,u=Value.float b t from r);cases e;rfl
 |ref a=>cases (show u=Value.ref a from r);rfl
 |ty n=>cases (show u=Value.type n from r);rfl
section
variable {P:Program} {w:World} {H H':Hp} {h h':Heap} {a C dx:Addr} {fs fs':!(Str×V)}
theorem xQ (J:IE P w H h) (e:H a>(.ins C dx fs)):∃D,bH h a dx C D/\(∀f,wE (fs.lookup f) (D f))/\PySem.Within D (fs.map (·.1))/\fs.length<=1000/\H dx>(.own a):=by
 let(F,O,L,N,D,n,r,q):=(show wD P w H h a (.ins C dx fs) from J a _ e)
 show(D,(N,n,L),r,q,O,F)
end
structure vG (K:PySem.W.Frag) (C:Addr):Prop where
 pg:PySem.W.plainGet K C Str.empty=true
 hd:PySem.W.hasDictIn K C=true
 po:PySem.W.plainOver K C=true
 sa:PySem.W.findIn K (.ref C) "__setattr__">(some (.builtin "object.__setattr__"))
theorem vG.get {K:PySem.W.Frag} {C:Addr} (c:vG K C) (f:Str):PySem.W.plainGet K C f=true:=c.pg
def qD (K:PySem.W.Frag) (C:Addr) (f:Str):Prop:=PySem.W.findIn K (.ref C) f>none
theorem qD.taker {K:PySem.W.Frag} {C:Addr} {f:Str} (n:qD K C f):PySem.W.takerIn K C f>none:=by
 unfold PySem.W.takerIn;rw[show PySem.W.findIn K (.ref C) f>none from n]
 rfl
structure cH (K:PySem.W.Frag) (C:Addr) (m:Str) (f:Addr):Prop where
 at_:PySem.W.findIn K (.ref C) m>(↑f)
 fn:PySem.W.isFn K (.ref f)=true
 kp:PySem.W.keepIn K (.ref f)=true
section
variable {X:Cx} {pins:!(Addr×Obj)} {σ:St} {H:Hp} {s:Shared} {a C dx:Addr} {fs:!(Str×V)} {f:Str} {v:V} {A:Around} {E:Value->Shared->Prop}
theorem Y9 {b:Bool} {Q:Value->Shared->Prop} (q:HC X pins σ H s) (e:H a>(.ins C dx fs)) (c:vG X.K C) (n:qD X.K C f) (l:fs.lookup f>v)
  (h:∀u s',HC X pins σ H s'->KC v u->Q u s'):wpAny (model X.prog X.w) A (getAttr (.ref a) f b) Q E s:=by
 let(L,F,r,_,_,_):=xQ q.hok e;let(u,J,D):=wE.some_of (v:=v) (o:=L f) (by rw[<-l];show r f);show T9 q.kIn F (c.get f) c.hd n J (X9 D) (h u _ (q.tok _) D)
theorem CZ {m:Str} {g:Addr} {pl:Sem Bool} {Q:Value×!Value->Shared->Prop} (q:HC X pins σ H s) (e:H a>(.ins C dx fs)) (c:vG X.K C) (k:cH X.K C m g) (l:fs.lookup m=none)
  (h:Q (.ref g,[.ref a]) s):wpAny (model X.prog X.w) A (getMethod (.ref a) m pl) Q E s:=by
 let(J,D,r,_,_,_):=xQ q.hok e;let F:J m=none:=wE.none_of (by rw[<-l];show r m);show U9 q.kIn D (c.get m) k.at_ k.fn F h
theorem Z9 {D:V} {u:Value} {Q:Unit->Shared->Prop} (F:HC X pins σ H s) (e:H a>(.ins C dx fs)) (c:vG X.K C) (n:qD X.K C f) (a0:fs.length < 1000) (Z:KC D u)
  (h:∀s',HC X pins σ (FC H a (.ins C dx (LC f D fs))) s'->Q ⟨⟩ s'):wpAny (model X.prog X.w) A (setAttr (.ref a) f u) Q E s:=by
 let(O,J,r,U,_,ho):=xQ F.hok e;let hz:(fs.map (·.1)).length<=sizeLine:=by rw[iA,sizeLine_eq];omega
 show V9 F.kIn J c.sa c.po n.taker c.hd U hz λh' L sb=>h _ ?_;let hd:∃o,h'.get? dx>o:=let ⟨o,_,_,e',_⟩:=L.ns;⟨o,e'⟩
 show F.write (x:=a) (e:=dx) (by rw[e];show True.intro) (.inr ho) (λb q W N=>(sb.2 b W).trans N) hd ?_;show(by rw[VC J.ne];show ho,?_,J.ne,L.obj,_,L.ns,λg=>?_,λg Y=>?_)
 .have:=BZ f D fs;omega
 .change wE ((LC f D fs).lookup g) (if g=f then some u else O g);rw[wN];by_cases q:g=f
  .rw[jA q,jA q];show Z
  .rw[fA q,fA q];show r g
 .by_cases q:g=f
  .rw[q];show (dS f D fs).1
  .show (dS f D fs).2 g (U g λN=>Y ?_);change (if g=f then some u else O g)=none;rw[fA q];show N
theorem HC.made (J:HC X pins σ H s):HC X pins σ (FC (FC H s.heap.objs.size (.own (s.heap.objs.size+1))) (s.heap.objs.size+1) (.ins C s.heap.objs.size []))
  {s with heap:=(s.heap.push PySem.W.emptyDict).push (PySem.W.instObj C s.heap.objs.size)}:=by
 let D:(s.heap.push PySem.W.emptyDict).get? s.heap.objs.size>PySem.W.emptyDict:=SA s.heap rfl;let N:((s.heap.push PySem.W.emptyDict).push (PySem.W.instObj C s.heap.objs.size)).get? (s.heap.objs.size+1)>(PySem.W.instObj C s.heap.objs.size):=by
  have:=SA (s.heap.push PySem.W.emptyDict) (o:=PySem.W.instObj C s.heap.objs.size) rfl;rwa[Heap.size_push] at this
 let O:(s.heap.push PySem.W.emptyDict).Ns s.heap.objs.size (λο=>none):=(PySem.W.emptyDict, #[],_,D,rfl,(λe U=>absurd U (by simp)),λο=>rfl)
 let L:=J.laid (a:=s.heap.objs.size) (o:=.own (s.heap.objs.size+1)) (h':=s.heap.push PySem.W.emptyDict) (t':=s.toks) (λb u q=>zA _ q) (yA _) ⟨_,D⟩;show L.laid (a:=s.heap.objs.size+1) (o:=.ins C s.heap.objs.size []) (t':=s.toks) (λb u q=>zA _ q) (Nat.le_of_eq (Heap.size_push _ _)) ?_;let F:s.heap.objs.size≠s.heap.objs.size+1:=YA (Nat.lt_succ_self _);show(by rw[VC F,jD],vC _,F,N,λο=>none,(Heap.Ns1.of_empty O).at λo q=>zA _ q,λο=>True.intro,λW V=>absurd rfl V)
theorem aa {prog:Program} {w:World} {env:Env} {e:Expr} {f:Str} {pos:Pos} {s:Shared} {Q:Value->Shared->Prop} (q:attributeBase e f env (eval e env)=eval e env)
  (h:wpAny (model prog w) A (eval e env) (λo D=>wpAny (model prog w) A (getAttr o f true) Q E D) E s):wpAny (model prog w) A (eval (.Attribute e f pos) env) Q E s:=
 Attribute_any_ h (by rw[arm_eval_Attribute,q])
end
def kO (K:PySem.W.Frag) (ta:TE) (f:Str):TE:=λσ H Q=>ta σ H λx H1=>∃a C dx fs v,x=.ref a/\H1 a>(.ins C dx fs)/\vG K C/\qD K C f/\fs.lookup f>v/\Q v H1
def lO (K:PySem.W.Frag) (ta tv:TE) (f:Str):TS:=λD σ H=>tv σ H λy H1=>ta σ H1 λx H2=>∃a C dx fs,x=.ref a/\H2 a>(.ins C dx fs)/\vG K C/\qD K C f/\fs.length < 1000/\
 D.nx σ (FC H2 a (.ins C dx (LC f y fs)))
section
variable {X:Cx} {o e value:Expr} {f:Str} {pos pos' tpos:Pos} {ta tv:TE}
theorem FD (U:PE X e ta) (O:attributeBase e f X.env (eval e X.env)=eval e X.env):PE X (.Attribute e f pos) (kO X.K ta f):=by
 intro V s a0 H Q F h;show aa O (kD (U V s a0 H _ F h) λu a2 Z=>?_);let(x,D,J,Y,a,C,a1,fs,v,ex,N,c,n,l,q):=Z;subst ex;obtain rfl:u=Value.ref a:=Y;show Y9 J N c n l λa4 a3 L W=>(v,D,L,W,q)
theorem cG (W:PE X o ta) (Z:PE X value tv) (Y:swapsWith value (some (.Attribute o f pos')) pos.line X.env=pure false):PS X (.Assign [.Attribute o f pos'] value pos) (lO X.K ta tv f):=by
 intro F s D H a6 L h;show plainObj_wpAny_Assign_Attribute (kD (Z F s D H _ L h) λu a4 ⟨ac,J,N,a3,q⟩=>kD (W F a4 D J _ N q) λa0 a9 a5=>?_) Y;let(x,a7,O,a2,a,C,a8,fs,ex,V,c,n,l,a1):=a5;subst ex;obtain rfl:a0=Value.ref a:=a2;show Z9 O V c n l a3 λab U=>(D,_,U,a1)
end
section
variable {X:Cx} {pins:!(Addr×Obj)} {σ:St} {H:Hp} {s:Shared} {A:Around} {E:Value->Shared->Prop} {Q:Value->Shared->Prop} {c:Value} {b:Bool}
inductive iF (K:PySem.W.Frag) (H:Hp):V->Value->Prop where
 |non:iF K H .non (.type "NoneType")
 |bl (x:Bool):iF K H (.bl x) (.type "bool")
 |int (i:Int):iF K H (.int i) (.type "int")
 |str (x:Str):iF K H (.str x) (.type "str")
 |flt (x:UInt64):iF K H (.flt x) (.type "float")
 |lst {a:Addr} {xs:!V} (e:H a>(.lst xs)):iF K H (.ref a) (.type "list")
 |frz {a:Addr} {o:Obj} {xs:!V} (e:H a>(.frz o (.lst xs))):iF K H (.ref a) (.type "list")
 |tup {a:Addr} {xs:!V} (e:H a>(.tup xs)):iF K H (.ref a) (.type "tuple")
 |dK {a:Addr} {kvs:!(Key×V)} (e:H a>(.dK kvs)):iF K H (.ref a) (.type "dict")
 |dT {a:Addr} {kvs:!(!Key×V)} (e:H a>(.dT kvs)):iF K H (.ref a) (.type "dict")
 |ins {a C dx:Addr} {fs:!(Str×V)} (e:H a>(.ins C dx fs)) (cl:vG K C) (ha:PySem.W.findIn K (.ref C) "__class__">(some (.builtin "object.__class__")))
  (hn:PySem.W.specialIn K (.builtin "object.__class__") "__get__">(some (.builtin "getset_descriptor.__get__"))) (htk:PySem.W.takesIn K (.builtin "object.__class__")>true)
  (hm:PySem.W.mroIn K C (.type "object")>true):iF K H (.ref a) (.ref C)
theorem ba {x:V} {u t:Value} (F:HC X pins σ H s) (J:KC x u) (ty:iF X.K H x t) (e:PySem.W.kitOne X.K t c>b) (h:∀U,Q (.bool b) {s with toks:=U}):
  wpAny (model X.prog X.w) A (call (.builtin "isinstance") [u,c]) Q E s:=by
 cases ty with
 |non=>cases (show u=Value.none from J);show PySem.W.kia_one PySem.W.kitx_none F.kIn True.intro e nofun h
 |bl L=>cases (show u=Value.bool L from J);show PySem.W.kia_one PySem.W.kitx_bool F.kIn True.intro e nofun h
 |int i=>let(t,q):=(show ∃t,u=Value.int i t from J);cases q;show PySem.W.kia_one PySem.W.kitx_int F.kIn True.intro e nofun h
 |str L=>let(t,q):=(show ∃t,u=Value.str L t from J);cases q;show PySem.W.kia_one PySem.W.kitx_str F.kIn True.intro e nofun h
 |flt L=>let(t,q):=(show ∃t,u=Value.float L t from J);cases q;show PySem.W.kia_one PySem.W.kitx_float F.kIn True.intro e nofun h
 |@lst a xs ea=>
  cases (show u=Value.ref a from J);let(_,_,n,_,h1):=(show wD X.prog X.w H s.heap a (.lst xs) from F.hok a _ ea)
  show PySem.W.kia_one PySem.W.kitx_list F.kIn (_,h1,rfl) e nofun h
 |@frz a ob xs ea=>
  cases (show u=Value.ref a from J);let(_,_,_,n,_,h1):=(show wD X.prog X.w H s.heap a (.frz ob (.lst xs)) from F.hok a _ ea)
  show PySem.W.kia_one PySem.W.kitx_list F.kIn (_,h1,rfl) e nofun h
 |@tup a xs ea=>
  cases (show u=Value.ref a from J);let(_,_,_,p):=(show wD X.prog X.w H s.heap a (.tup xs) from F.hok a _ ea)
  let(o,h1,h2,_):=p;show PySem.W.kia_one PySem.W.kitx_tuple F.kIn (o,h1,h2) e nofun h
 |@dK a kvs ea=>
  cases (show u=Value.ref a from J);let(_,_,vs,_,p):=(show wD X.prog X.w H s.heap a (.dK kvs) from F.hok a _ ea)
  let(o,es,ep,h1,h2,_):=p;show PySem.W.kia_one PySem.W.kitx_dict F.kIn (o,h1,h2.1) e nofun h
 |@dT a kvs ea=>
  cases (show u=Value.ref a from J);let(_,_,xs,_,o,es,ep,h1,h2,_):=(show wD X.prog X.w H s.heap a (.dT kvs) from F.hok a _ ea)
  show PySem.W.kia_one PySem.W.kitx_dict F.kIn (o,h1,h2.1) e nofun h
 |@ins a C dx fs ea cl ha hn htk hm=>
  cases (show u=Value.ref a from J);let(W,O,_):=xQ F.hok ea;let(Y,N,_):=O.look;show PySem.W.kia_one (PySem.W.kitx_own (cl.get _) cl.hd ha hn htk hm) F.kIn N e nofun h
end
structure VD (k:Nat) (A:Around):Prop where
 hd:A.handled=none
 dp:A.depth+3 * k+5 < recursionLimit
 un:A.units+16 * k+200 < cLine
theorem VD.mono {j k:Nat} {A:Around} (r:VD k A) (h:j<=k):VD j A:=(r.hd,by have:=r.dp;omega,by have:=r.un;omega)
theorem VD.deeper {k:Nat} {A:Around} (r:VD (k+1) A) (env:Env):VD k (A.deeper env):=
 (r.hd,by have:=r.dp;change A.depth+1+3 * k+5 < _;omega,by have:=r.un;change A.units+3+16 * k+200 < _;omega)
theorem ca {A:Around} {C:Addr} {us:!Value} {q:!(Str×Value)}:(A.under (.builtin "type.__call__" ⟨.ref C::us,q⟩)).depth=A.depth+1:=by
 first|rfl|simp[Around.under,Code.weight,Code.isCreation,Code.isGuard,Code.isCaller,Code.frames,Code.isFrame,guardIds]
theorem da {A:Around} {C:Addr} {us:!Value} {q:!(Str×Value)}:(A.under (.builtin "type.__call__" ⟨.ref C::us,q⟩)).units=A.units+1:=by
 first|rfl|simp[Around.under,Code.cUnits,Code.frames,Code.isFrame]
theorem VD.make {k:Nat} {A:Around} (r:VD (k+1) A) (C:Addr) (us:!Value) (q:!(Str×Value)):VD k (A.under (.builtin "type.__call__" ⟨.ref C::us,q⟩)):=
 (r.hd,by have:=r.dp;rw[ca];omega,by have:=r.un;rw[da];omega)
theorem VD.depth {k:Nat} {A:Around} (r:VD k A):A.depth < recursionLimit:=by have:=r.dp;omega
theorem VD.units {k:Nat} {A:Around} (r:VD k A):A.units+64 < cLine:=by have:=r.un;omega
def tNil:TA:=λο H Q=>Q [] H
def SJ (ta:TE) (tr:TA):TA:=λσ H Q=>ta σ H λx H1=>tr σ H1 λxs H2=>Q (x::xs) H2
section
variable {X:Cx} {e:Expr} {es:!Expr} {te:TE} {t:TA} {pos:Pos}
theorem IC:PA X [] tNil:=λο ο ο ο H Q I h=>Calls.spliced_nil ([],H,I,.nil,h)
theorem EC (U:PE X e te) (V:PA X es t) (W:starEach (e::es) X.env=(false,eval e X.env)::starEach es X.env:=by rfl):PA X (e::es) (SJ te t):=by
 intro pos q s D H Q L h;rw[W];change wpAny _ _ (spliced ((false,eval e X.env)::backTo pos (starEach es X.env))) _ _ s;show Calls.spliced_cons (kD (U q s D H _ L h) λu a2 a3=>?_);let(x,F,N,a0,Y):=a3;show kD (V pos q a2 D F _ N Y) λus a4 ⟨xs,J,O,a1,Z⟩=>(x::xs,J,O,.cons a0 a1,Z)
def mO (t:TA):TE:=λσ H Q=>t σ H λxs H1=>xs.length<=sizeLine/\∀p,H1 p=none->Q (.ref p) (FC H1 p (.tup xs))
def nO (t:TA):TE:=λσ H Q=>t σ H λxs H1=>xs.length<=sizeLine/\∀p,H1 p=none->Q (.ref p) (FC H1 p (.lst xs))
theorem dG {x1} (h:PA X es t):PE X (.Tuple es x1 pos) (mO t):=by
 intro V s W H Q N U;show wpAny_Tuple_spliced (kD (h pos V s W H _ N U) λus D ⟨xs,F,J,r,L,q⟩=>⟨by rw[<-r.length];show L,?_⟩);let O:F D.heap.objs.size=none:=J.hok.fresh (yA _);show(.ref D.heap.objs.size,FC F D.heap.objs.size (.tup xs),J.laid (t':=D.toks) (λb u e=>zA _ e) (yA _) ?_,rfl,q _ O);show(L,us,r,(_,SA _ rfl,rfl,_,rfl))
theorem oJ (h:PA X es t):PE X (.List es pos) (nO t):=by
 intro V s W H Q N U;show wpAny_List_spliced (kD (h pos V s W H _ N U) λus D ⟨xs,F,J,r,L,q⟩=>⟨by rw[<-r.length];show L,?_⟩);let O:F D.heap.objs.size=none:=J.hok.fresh (yA _);show(.ref D.heap.objs.size,FC F D.heap.objs.size (.lst xs),J.laid (t':=D.toks) (λb u e=>zA _ e) (yA _) ?_,rfl,q _ O);show(L,us,0,r,SA _ rfl)
end
abbrev Sp:=!V->Hp->VK->XK->Prop
abbrev CXT:=!Env->Hp->Shared->XK->Value->Shared->Prop
structure dH (P:Program) (w:World) (K:PySem.W.Frag) (mg:Str->Option Value) (base:Heap) (A:Around) (outer:!Env) (s:Shared) (H:Hp):Prop where
 frames:A.frames>outer
 mod:Mod K mg base
 bs:∀b o,base.get? b>o->s.heap.get? b>o/\H b=none
 bsz:base.objs.size<=s.heap.objs.size
 funs:s.heap.FunFrames base outer
 frf:∀b∈rE outer,H b=none
 hok:IE P w H s.heap
 bare:AllBare s.gens
def CE (outer:!Env) (P:Program) (w:World) (H:Hp) (s:Shared) (Q:VK) (u:Value) (s':Shared):Prop:=
 ∃v H',s'.os=s.os/\AllBare s'.gens/\Un (rE outer) [] H H' s.heap s'.heap/\IE P w H' s'.heap/\KC v u/\Q v H'
def CR (CX:CXT) (outer:!Env) (P:Program) (w:World) (H:Hp) (s:Shared) (Q:VK) (E:XK) (r:Result) (s':Shared):Prop:=
 match r with
 |.ok (.ret u)=>CE outer P w H s Q u s'
 |.ok _=>False
 |.error e=>CX outer H s E e s'
structure NF (P:Program) (w:World) (K:PySem.W.Frag) (mg:Str->Option Value) (base:Heap) (CX:CXT) (k:Nat) (f:Addr) (fd:FuncData) (ps:!Str) (sp:Sp):Prop where
 len:∀vs H Q E,sp vs H Q E->vs.length=ps.length
 run:∀(A:Around) (outer:!Env) (s:Shared) (H:Hp) (args:Args) (us:!Value) (vs:!V) (Q:VK) (E:XK),VD k A->dH P w K mg base A outer s H->BindsTo s fd args (ps.zip us)->OC vs us->sp vs H Q E->
  codeAny (model P w) A (.call (.ref f) args) (CR CX outer P w H s Q E) s
theorem dH.make {P:Program} {w:World} {K:PySem.W.Frag} {mg:Str->Option Value} {base:Heap} {A:Around} {q:!Env} {s:Shared} {H:Hp} (e:dH P w K mg base A q s H) (C:Addr) (us:!Value) (D:!(Str×Value)):
 dH P w K mg base (A.under (.builtin "type.__call__" ⟨.ref C::us,D⟩)) q s H:=(by first|exact e.frames|(simpa[Around.under,Code.envs,Code.isFrame,pushEnvs] using e.frames),e.mod,e.bs,e.bsz,e.funs,e.frf,e.hok,e.bare)
section
variable {X:Cx} {pins:!(Addr×Obj)} {σ:St} {H:Hp} {s s':Shared}
theorem HC.env0 (I:HC X pins σ H s):dH X.prog X.w X.K X.mg X.base X.A X.stack s H:=
 (I.ok.frames,I.ok.mod,I.bs,zB I.ok.bsz I.sz,I.stack,I.stkFree,I.hok,I.bare)
theorem HC.after {Q:VK} {u:Value} (D:HC X pins σ H s) (h:CE X.stack X.prog X.w H s Q u s'):EP X pins σ Q u s':=by
 let(v,H',O,F,un,N,r,q):=h;let(L,g,J,t,U):=s';obtain rfl:U=s.os:=O;show(v,H',D.call (h':=L) (g':=g) (d':=J) (t':=t) (ch:=[]) un N F (λb V=>absurd V (by simp)),r,q)
end
def sE (K:PySem.W.Frag) (fd:FuncData) (ps:!Str) (ds:!Value):Prop:=
 ∀(s:Shared) (us:!Value),K.In s.heap->(us++ds).length=ps.length->BindsTo s fd ⟨us,[]⟩ (ps.zip (us++ds))
theorem sE.all {K:PySem.W.Frag} {D:FuncData} {q:!Str} (h:∀us:!Value,us.length=q.length->bindArgs D ⟨us,[]⟩=pure (q.zip us)):sE K D q []:=λs us ο F=>by
 rw[uB] at F ⊢;show .of_eq (h us F)
section
variable {X:Cx} {CX:CXT} {k:Nat} {f C:Addr} {fd:FuncData} {ps:!Str} {sp:Sp} {dvs:!V} {ds:!Value} {E:XK} {x m:Str} {p pos apos:Pos} {e o:Expr} {es:!Expr} {ta:TE} {t:TA}
structure Mk (K:PySem.W.Frag) (C f:Addr):Prop where
 makes:PySem.W.makesIn K C=true
 init:PySem.W.findIn K (.ref C) "__init__">(↑f)
 fn:PySem.W.isFn K (.ref f)=true
 kp:PySem.W.keepIn K (.ref C)=true
end
section
variable {X:Cx} {CX:CXT} {k:Nat} {f C:Addr} {fd:FuncData} {ps ks:!Str} {sp:Sp} {E:XK} {x m:Str} {p pos apos kpos:Pos} {e o:Expr} {es:!Expr} {kws:!Keyword} {te ta:TE} {t tk:TA} {nm:Option Str}
variable {g:!Value->!Value->!Value} {gV:!V->!V->!V}
end
structure DC (N P:!Str) (sc:Scope):Prop where
 kind:sc.kind=.function
 co:sc.isCoroutine=false
 gen:sc.isGenerator=false
 nd:N.Nodup
 pre:N.take P.length=P
 par:∀x∈P,sc.names.lookup x>.local\/sc.names.lookup x>.cell
 nofree:∀y∈sc.names,y.2≠.free
theorem DZ {kindOf:Str->Option NameKind} {x:Str}:∀{binds:!(Str×Value)} {m:Str->Option Value},(∀v,(x,v)∉binds)->bindL kindOf binds m x=m x
 |[],_,_=>rfl
 |(n,v)::r,m,h=>by
  unfold bindL;rw[DZ λw hw=>h w (qA _ hw)]
  split
  .have:x≠n:=by rintro rfl;show h v aA
   simp[this]
  .rfl
theorem EZ {kindOf:Str->Option NameKind} {x:Str}:∀{binds:!(Str×Value)} {m:Str->Option Value},(∀v,(x,v)∉binds)->bindC kindOf binds m x=m x
 |[],_,_=>rfl
 |(n,v)::r,m,h=>by
  unfold bindC;rw[EZ λw hw=>h w (qA _ hw)]
  split
  .rfl
  .have:x≠n:=by rintro rfl;show h v aA
   simp[this]
theorem FZ {kindOf:Str->Option NameKind} {x:Str} {v:Value}:∀{P:!Str} {vs:!Value} {i:Nat} {m:Str->Option Value},P.Nodup->P[i]?>x->vs[i]?>v->kindOf x>.local->
  bindL kindOf (P.zip vs) m x>v
 |[],_,_,_,_,h,_,_=>by simp at h
 |_::_,[],_,_,_,_,h,_=>by simp at h
 |p::P,w::vs,0,m,nd,h1,h2,hk=>by
  simp at h1 h2;subst h1;subst h2;change bindL kindOf ((p,w)::P.zip vs) m p=_;unfold bindL;rw[DZ λv hv=>(KA.mp nd).1 (List.of_mem_zip hv).1,jA hk];simp
 |p::P,w::vs,i+1,m,nd,h1,h2,hk=>by
  change bindL kindOf ((p,w)::P.zip vs) m x=_;unfold bindL;show FZ (i:=i) (KA.mp nd).2 (by simpa using h1) (by simpa using h2) hk
theorem GZ {kindOf:Str->Option NameKind} {x:Str} {v:Value}:∀{P:!Str} {vs:!Value} {i:Nat} {m:Str->Option Value},P.Nodup->P[i]?>x->vs[i]?>v->kindOf x≠some .local->
  bindC kindOf (P.zip vs) m x>v
 |[],_,_,_,_,h,_,_=>by simp at h
 |_::_,[],_,_,_,_,h,_=>by simp at h
 |p::P,w::vs,0,m,nd,h1,h2,hk=>by
  simp at h1 h2;subst h1;subst h2;change bindC kindOf ((p,w)::P.zip vs) m p=_;unfold bindC;rw[EZ λv hv=>(KA.mp nd).1 (List.of_mem_zip hv).1,fA hk];simp
 |p::P,w::vs,i+1,m,nd,h1,h2,hk=>by
  change bindC kindOf ((p,w)::P.zip vs) m x=_;unfold bindC;show GZ (i:=i) (KA.mp nd).2 (by simpa using h1) (by simpa using h2) hk
def start (N:!Str) (vs:!V):St:=vs.map some++List.replicate (N.length - vs.length) none
def tE (CX:CXT) (P:Program) (w:World) (K:PySem.W.Frag) (mg:Str->Option Value) (base:Heap) (N:!Str) (qual:Str) (scope:Scope) (f:Addr) (cd:Value) (A:Around) (outer:!Env) (s:Shared) (H:Hp) (E:XK):Cx where
 prog:=P
 w:=w
 K:=K
 mg:=mg
 base:=base
 A:=A.deeper (envOfC qual scope s.heap.objs.size f cd)
 N:=N
 s₀:=s
 H₀:=H
 env:=envOfC qual scope s.heap.objs.size f cd
 outer:=outer
 stack:=envOfC qual scope s.heap.objs.size f cd::outer
 ex:=[]
 calm:=true
 fn:=λο=>true
 pn:=[]
 xe:=λe s'=>wpAny (model P w) (A.deeper (envOfC qual scope s.heap.objs.size f cd)) (leaving (envOfC qual scope s.heap.objs.size f cd) e) (λο s''=>CX outer H s E e s'') (λe' s''=>CX outer H s E e' s'') s'
theorem HZ {D:Scope} {n:Nat} {x:Str} (h:D.names.lookup x>.cell):∃c,(cellsFrom n D.names []).lookup x>c:=by
 let q:=PySem.W.cellsFrom_some D.names n [] (.inl h);show Option.isSome_iff_exists.mp q
theorem ga {CX:CXT} {P:Program} {w:World} {K:PySem.W.Frag} {mg:Str->Option Value} {base:Heap} {N L:!Str} {Y:Str} {scope:Scope} {f:Addr} {W:Value} {A:Around} {a0:!Env} {s a3:Shared} {H:Hp} {E:XK} {us:!Value} {vs:!V}
  (S:DC N L scope) (hd:A.handled=none) (F:dH P w K mg base A a0 s H) (a7:vs.length=L.length) (r:OC vs us)
  (x:InCallC s s.heap.objs.size (bindL (envOfC Y scope s.heap.objs.size f W).kindOf (L.zip us) λο=>none) (cellsFrom (s.heap.objs.size+1) scope.names []) (bindC (envOfC Y scope s.heap.objs.size f W).kindOf (L.zip us) λο=>none) a3):
  HC (tE CX P w K mg base N Y scope f W A a0 s H E) [] (start N vs) H a3:=by
 let a8:L.length<=N.length:=by have:=congrArg List.length S.pre;rw[aB] at this;omega
 let(h1,a9,rfl,hk):=x.done;let Z:∀b:Addr,b∉(tE CX P w K mg base N Y scope f W A a0 s H E).ex:=λb O=>absurd (show b∈([]:!Addr) from O) (by simp);show((F.mod,S.kind,rfl,rfl,yA _,λD O c h1 h2=>?_,λD J=>?_,λD c ο h=>?_,λο=>hd,Around.frames_deeper F.frames,.inr ⟨rfl,rfl⟩,λb O=>absurd O (Z b),F.bs,F.bsz,λb ο ο=>Z b,λb O=>absurd O (Z b),F.funs,F.frf),
  rfl,F.bare,Un.kept hk,(_,x.toInCall.ns,λi D v h1 h2 a6=>?_),λD c h=>⟨_,x.cell D c h⟩,F.hok.fresh (yA _),λD c h=>?_,λp U=>absurd (show p∈([]:!(Addr×Obj)) from U) (by simp),F.hok.kept hk,?_)
 .show name_of_addr x.apart (PySem.mem_of_lookup h1) (PySem.mem_of_lookup h2)
 .let J:scope.names.lookup D>.cell\/scope.names.lookup D>.free:=J;let J||J:=J
  .show HZ J
  .show absurd rfl (S.nofree _ (PySem.mem_of_lookup J))
 .show Nat.le_of_lt (x.above D c (PySem.mem_of_lookup h))
 .let hi:i < vs.length:=by
   unfold start at h2;by_cases hi:i < vs.length
   .show hi
   .rw[jB (by simpa using hi)] at h2;rw[bC] at h2
    split at h2<;>cases h2
  let a4:vs[i]?>v:=by
   unfold start at h2;rw[xB (by simpa using hi),iB] at h2;cases e:vs[i]? with
   |none=>rw[e] at h2;cases h2
   |some a=>rw[e] at h2;cases h2;rfl
  let(u,a1,a5):=r.get a4;let U:L[i]?>D:=by
   rw[<-S.pre,List.getElem?_take_of_lt ⋯];show h1
  let a2:L.Nodup:=by rw[<-S.pre];show S.nd.sublist (List.take_sublist _ _)
  show(u,a5,?_);let k||k:=S.par D (VA U)
  .show .inl ⟨k,FZ a2 U a1 k⟩
  .let(c,e):=HZ (n:=s.heap.objs.size+1) k;show .inr (.inl k,c,e,?_);let q:=x.cell D c e;rw[GZ a2 U a1 (by change scope.names.lookup D≠_;rw[k];decide)] at q;show q
 .show F.hok.fresh (Nat.le_of_lt (x.above D c (PySem.mem_of_lookup h)))
 .unfold start;change _=N.length;rw[xA,iA,qB];omega
theorem fS {CX:CXT} {P:Program} {w:World} {K:PySem.W.Frag} {mg:Str->Option Value} {base:Heap} {k:Nat} {f:Addr} {name J:Str} {ac:Arguments} {Z:!Stmt} {scope:Scope} {a6 kV a7 pm F a5 b2:Value} {a4 b3:Option Addr}
  {b4:Array (Option Value)} {N W:!Str} {sp:Sp} (b1:K.lookup f>(b2,b3,.func (PySem.W.fnOf name J ac Z scope a6 kV a7 pm a4 F a5),b4)) (ar:PySem.W.codeIn K F J=true) (S:DC N W scope)
  (ab:∀vs H Q E,sp vs H Q E->vs.length=W.length)
  (aq:∀(A:Around) (O:!Env) (s:Shared) (H:Hp) (vs:!V) (Q:VK) (E:XK),VD k (A.deeper (envOfC J scope s.heap.objs.size f F))->sp vs H Q E->
   ∃t,bG (tE CX P w K mg base N J scope f F A O s H E) Z t/\t {nx:=λο H'=>Q .non H',rt:=Q} (start N vs) H):
  NF P w K mg base CX (k+1) f (PySem.W.fnOf name J ac Z scope a6 kV a7 pm a4 F a5) W sp:=by
 show⟨ab,λA O s H args us vs Q E a0 U ap r a9=>?_⟩;let aw:=ab _ _ _ _ a9;let a3:K.In s.heap:=U.mod.kin.keeps λb o e=>(U.bs b o e).1;let b0:s.heap.NoLimit:=U.mod.nolimit.keeps λb o e=>(U.bs b o e).1;let av:∀a2∈W.zip us,scope.names.lookup a2.1>.local\/(scope.names.lookup a2.1>.cell/\((cellsFrom (s.heap.objs.size+1) scope.names []).lookup a2.1).isSome=true):=λ⟨n,v⟩ az=>by
  let q||q:=S.par n (List.of_mem_zip az).1
  .show .inl q
  .show .inr ⟨q,PySem.W.cellsFrom_some _ _ _ (.inl q)⟩
 show codeAny_call_function a0.depth (a3 _ _ b1) rfl S.co S.gen rfl (PySem.W.codeRec_of a3 ar) (ap _ _ _ _ ?_);show wpAny_newFunctionEnv_cells S.kind av λenv au ad x=>?_;subst au;show⟨b0.keeps x.toInCall.keep,codeAny_func ?_⟩;let(t,ay,ax):=aq A O s H vs Q E (a0.deeper _) a9;let ah:HC (tE CX P w K mg base N J scope f F A O s H E) [] (start N vs) H ad:=ga S a0.hd U aw r x;show pB (ay [] ad (start N vs) H _ ah ax) (λao s' L=>?_) λe s' L=>L;let a8:∀{Y:St} {H':Hp} {v:V} {u:Value},HC (tE CX P w K mg base N J scope f F A O s H E) [] Y H' s'->KC v u->Q v H'->CE O P w H s Q u s':=
  λ{Y H' v u} D a1 q=>(v,H',D.os,D.bare,D.base,D.hok,a1,q)
 cases ao with
 |ret u=>
  let(v,Y,H',D,a1,q):=L;show a8 D a1 q
 |next=>
  let(Y,H',D,q):=L;show a8 (v:=V.non) (u:=Value.none) D rfl q
 |brk=>
  let(_,_,_,q):=L;show False.elim q
 |cont=>
  let(_,_,_,q):=L;show False.elim q
section
variable {X:Cx} {x:Str} {p pos:Pos} {e:Expr} {es:!Expr} {t:TA} {id T:String} {r:!V->Hp->VK->Prop}
def gS (r:!V->Hp->VK->Prop) (t:TA):TE:=λσ H Q=>t σ H λvs H1=>r vs H1 Q
theorem YF (O:xE X (.builtin id) r) (W:Gl X x) (Y:X.mg x=none) (a1:bootBuiltins x>(.builtin id)) (N:PA X (e::es) t) (Z:x≠"__name__":=by decide) (U:(x == ("__debug__":Str))=false:=by decide)
  (V:starEach (e::es) X.env=(false,eval e X.env)::starEach es X.env:=by rfl) (a0:(backTo pos (starEach es X.env)).any (·.1)=false:=by rfl):PE X (.Call (.Name x p) (e::es) [] pos) (gS r t):=by
 intro D s F H Q q h;show wpAny_Call_Name_kw (sN q W Y a1 ?_ Z U);show PyProof.Rows.callWith_builtin1 (kD (N pos D s F H _ q h) λus a4 ⟨vs,J,L,a3,a2⟩=>O D a4 F J vs us Q L a3 a2) V a0
theorem xN (O:xE X (.type T) r) (W:Gl X x) (Y:X.mg x=none) (a1:bootBuiltins x>(.type T)) (N:PA X (e::es) t) (Z:x≠"__name__":=by decide) (U:(x == ("__debug__":Str))=false:=by decide)
  (V:starEach (e::es) X.env=(false,eval e X.env)::starEach es X.env:=by rfl) (a0:(backTo pos (starEach es X.env)).any (·.1)=false:=by rfl):PE X (.Call (.Name x p) (e::es) [] pos) (gS r t):=by
 intro D s F H Q q h;show wpAny_Call_Name_kw (sN q W Y a1 ?_ Z U);show mC (kD (N pos D s F H _ q h) λus a4 ⟨vs,J,L,a3,a2⟩=>O D a4 F J vs us Q L a3 a2) V a0
end
end L2
namespace HT
open PySem PyProof.Rows
section
open PySem.SeqAt
open PySem.AutoSeq1 (wpAny_loadPart')
open PySem.MeetsSeq PySem.MeetsSeq2 PySem.MeetsSeq3
end
section
variable {prog:Program} {w:World} {A:Around} {E:Value->Shared->Prop} {s:Shared}
theorem ia {t b:Addr} {vs q:!Value} {Q:Value->Shared->Prop} (a0:IsTup s.heap t vs.toArray) (Z:IsTup s.heap b q.toArray) (U:vs≠[])
  (h1:q=[]->Q (.ref t) s) (h2:q≠[]->Q (.ref s.heap.objs.size) {s with heap:=s.heap.push {cls:=.type "tuple",data:=.seq (vs++q).toArray}})
  (hsz:vs.length+q.length<=sizeLine):wpAny (model prog w) A (binaryOp .Add (.ref t) (.ref b)) Q E s:=by
 let((cls,dd,data,W),ho,L,n,hd):=id a0;let((a1,J,a2,Y),D,N,V,O):=id Z;simp only at L hd N O;subst L hd N O;let e:vs.toArray++q.toArray=(vs++q).toArray:=by simp
 by_cases F:q=[]
 .show concat_meets (_,ho,rfl) (_,D,rfl) noFill_tuple_add seq_tuple_add PySem.F.slot_tuple_add PySem.F.entry_tuple_add (PySem.F.args_tuple_add_2 _ _)
   (tuple_addW1 t b vs.toArray q.toArray n V dd J W Y (by simpa using U) (by simp[F])) (ho,D,h1 F)
 .show concat_meets (_,ho,rfl) (_,D,rfl) noFill_tuple_add seq_tuple_add PySem.F.slot_tuple_add PySem.F.entry_tuple_add (PySem.F.args_tuple_add_2 _ _)
   (tuple_addW2 t b vs.toArray q.toArray n V dd J W Y (by simpa using U) (by simpa using F) (by rw[FA,FA];show hsz)) (ho,D,?_)
  rw[e];show h2 F
def cE (n d:Nat):Option Int->Nat
 |none=>d
 |some v=>if v < 0 then (v+(n:Int)).toNat else min v.toNat n
theorem uL (n q:Nat) (hd:q<=n) (o:Option Int):cE n q o<=n:=by
 cases o with
 |none=>show hd
 |some v=>
  change (if v < 0 then (v+(n:Int)).toNat else min v.toNat n)<=n;by_cases D:v < 0
  .rw[jA D];omega
  .rw[fA D];show Nat.min_le_right _ _
theorem IZ (v:Int) (n D:Nat):(if v < 0 then max (v+(n:Int)) 0 else min v (n:Int))=((cE n D (some v):Nat):Int):=by
 change (if v < 0 then max (v+(n:Int)) 0 else min v (n:Int))=(((if v < 0 then (v+(n:Int)).toNat else min v.toNat n):Nat):Int);by_cases q:v < 0
 .simp only[jA q];omega
 .simp only[fA q];omega
theorem ja (lo hi:Option Int) (n:Nat):Builtin.Slice.sliceAdjust lo hi 1 (n:Int)=(((cE n 0 lo:Nat):Int),((cE n n hi:Nat):Int)):=by
 let h1:¬((1:Int) < 0):=⋯;unfold Builtin.Slice.sliceAdjust;simp only[h1,HB];show Prod.ext ?_ ?_
 .cases lo with
  |none=>rfl
  |some v=>show IZ v n 0
 .cases hi with
  |none=>rfl
  |some v=>show IZ v n n
theorem ka (i j:Nat):Builtin.Slice.slicePlaces (i:Int) (j:Int) 1=j - i:=by
 unfold Builtin.Slice.slicePlaces;let h1:GT.gt (1:Int) 0:=⋯;simp only[h1,yC,Int.ediv_one]
 split<;>omega
theorem JZ {v:Value} {o:Option Int} {Q:Option Int->Shared->Prop} (p:IsPart v o) (h:Q o s):wpAny (model prog w) A (Builtin.Slice.slicePartIndex v) Q E s:=by
 cases p with
 |none=>show slicePart_none h
 |int i t=>show slicePart_int h
theorem ma {L:Addr} {F J:Value} {lo hi:Option Int} {n:Nat} {Q:Int×Int×Nat->Shared->Prop} (N:s.heap.IsSliceOf L F J .none) (pl:IsPart F lo) (O:IsPart J hi)
  (h:Q (((cE n 0 lo:Nat):Int),(1,cE n n hi - cE n 0 lo)) s):wpAny (model prog w) A (Builtin.Slice.sliceApplied (.ref L) (pure (n:Int))) Q E s:=by
 let(V,D,U,q):=id N;unfold Builtin.Slice.sliceApplied Builtin.Slice.sliceFields;show dA (dA (wpAny_field D q (x:=F) rfl (dA (wpAny_field D q (x:=J) rfl (dA (wpAny_field D q (x:=.none) rfl (wA ?_)))))));show dA (slicePart_none ?_);change wpAny _ _ (if ((1:Int) == 0)=true then _ else _) _ _ s;rw[fA (by decide)];show dA (JZ pl (dA (JZ O (dA (wA ?_)))));change wpAny _ _ (match Builtin.Slice.sliceAdjust lo hi 1 (n:Int) with|(lo,hi)=>pure (lo,((1:Int),Builtin.Slice.slicePlaces lo hi 1))) _ _ s;rw[ja lo hi n];change wpAny _ _ (pure (((cE n 0 lo:Nat):Int),((1:Int),Builtin.Slice.slicePlaces ((cE n 0 lo:Nat):Int) ((cE n n hi:Nat):Int) 1))) _ _ s;rw[ka];show wA h
theorem na (xs:Array Value) (i k:Nat):((List.range k).filterMap λ(m:Nat)=>xs[((i:Int)+(m:Int) * 1).toNat]?).toArray=((xs.toList.drop i).take k).toArray:=by
 let e:(λ(m:Nat)=>xs[((i:Int)+(m:Int) * 1).toNat]?)=λm=>xs[i+m]?:=by
  funext m;have:((i:Int)+(m:Int) * 1).toNat=i+m:=⋯;rw[this]
 rw[e];have:=pick_run xs i k;rw[List.filterMap_map] at this;let q:((λx=>xs[x]?) ∘ λx=>i+x)=λm=>xs[i+m]?:=rfl;rw[q] at this;rw[this]
theorem qa {t L:Addr} {D:Array Value} {O U:Value} {lo hi:Option Int} {Q:Value->Shared->Prop} (F:IsTup s.heap t D) (N:s.heap.IsSliceOf L O U .none) (pl:IsPart O lo) (a2:IsPart U hi)
  (a0:¬(cE D.size 0 lo=0/\cE D.size D.size hi=D.size))
  (h:Q (.ref s.heap.objs.size) {s with heap:=s.heap.push {cls:=.type "tuple",data:=.seq ((D.toList.drop (cE D.size 0 lo)).take (cE D.size D.size hi - cE D.size 0 lo)).toArray}})
  (hsz:D.size<=sizeLine):wpAny (model prog w) A (getItem (.ref t) (.ref L)) Q E s:=by
 let J:sizeOk (.seq ((D.toList.drop (cE D.size 0 lo)).take (cE D.size D.size hi - cE D.size 0 lo)).toArray):=by
  change ((D.toList.drop (cE D.size 0 lo)).take (cE D.size D.size hi - cE D.size 0 lo)).toArray.size<=sizeLine;rw[FA,aB,TB,eC];omega
 let a4:cE D.size D.size hi<=D.size:=uL _ _ (yA _) hi;let(a1,Z,W,a3):=id N;let V:s.TypeIs (.ref L) "slice":=(a1,Z,W)
 unfold getItem
 try with_reducible show BB ?_
 first|refine dA (wA ?_)|skip
 show dA (wpAny_sequenceKey F.typeIs (by decide) ?_);show dA (wpAny_callSpecial?_slot (name:=Str.ofString "__getitem__") F.typeIs PyProof.Rows.slot_tuple_getitem
  (wpAny_call_entry PyProof.Rows.slot_tuple_getitem F.typeIs entry_tuple_getitem ?_ (args_tuple_getitem _ _)))
 change wpAny _ _ (Builtin.Tuple.tupleItemsOf (.ref t) >>= _) _ _ s;show dA (tupleItemsOf_ F ?_);show dA (wpAny_typeOf V ?_);rw[jA (by decide)];show dA (ma N pl a2 ?_);let Y:¬((((cE D.size 0 lo:Nat):Int) == 0&&(1:Int) == 1&&(cE D.size D.size hi - cE D.size 0 lo) == D.size)=true):=by
  intro q;rw[MA,MA] at q;let a5:((cE D.size 0 lo:Nat):Int)=0:=eq_of_beq q.1.1;let a6:cE D.size D.size hi - cE D.size 0 lo=D.size:=eq_of_beq q.2;show a0 ⟨⋯,⋯⟩
 change wpAny _ _ (if (((cE D.size 0 lo:Nat):Int) == 0&&(1:Int) == 1&&(cE D.size D.size hi - cE D.size 0 lo) == D.size)=true then _ else _) _ _ s;rw[fA Y,na]
 first
  |exact dA (m:=Builtin.Tuple.tupleExact _) (wpAny_newObj_type (wA (_,rfl,wA h)) J)
  |exact dA (m:=Builtin.Tuple.tupleExact _) (wpAny_newObj_type (dA (wA (wA (_,rfl,wA h)))) J)
  |exact dA (dA (m:=Builtin.Tuple.tupleExact _) (wpAny_newObj_type (wA (wA (_,rfl,wA h))) J))
  |exact dA (dA (m:=Builtin.Tuple.tupleExact _) (wpAny_newObj_type (wA (_,rfl,wA h)) J))
end
end HT
namespace L2
open PySem PySem.Spec PyProof.Rows
abbrev TO:=St->Hp->(Option Int->Hp->Prop)->Prop
def PO (X:Cx) (e:Option Expr) (t:TO):Prop:=
 ∀(pins:!(Addr×Obj)) (s:Shared) (σ:St) (H:Hp) (Q:Option Int->Hp->Prop),HC X pins σ H s->t σ H Q->
  wpAny (model X.prog X.w) X.A (evalPart e X.env) (λu s'=>∃o H',HC X pins σ H' s'/\IsPart u o/\Q o H') X.xe s
def tNoPart:TO:=λο H Q=>Q none H
def TJ (t:TE):TO:=λσ H Q=>t σ H λx H1=>∃i,x=.int i/\Q (some i) H1
section
variable {X:Cx} {e:Expr} {te:TE} {lo hi:Option Expr} {tl th:TO} {pos p2:Pos}
theorem yQ:PO X none tNoPart:=by
 intro D s F H Q q h;rw[evalPart_none];show wA (none,H,q,.none,h)
theorem aJ (h:PE X e te):PO X (some e) (TJ te):=by
 intro N s W H Q F L;rw[evalPart_some];show kD (h N s W H _ F L) λu Y V=>?_;let(x,D,J,U,O):=V;let(i,rfl,q):=O;let(t,rfl):=U;show(some i,D,J,.int i t,q)
def iS (X:Cx) (r:V->Option Int->Option Int->Hp->VK->Prop):Prop:=
 ∀(pins:!(Addr×Obj)) (s:Shared) (σ:St) (H:Hp) (x:V) (v vl vu:Value) (lo hi:Option Int) (sl:Addr) (Q:VK),HC X pins σ H s->KC x v->s.heap.IsSliceOf sl vl vu .none->IsPart vl lo->IsPart vu hi->r x lo hi H Q->
  ∃T id,typeLookup (.type T) "__getitem__"=pure (some (.builtin id))/\s.TypeIs v T/\wpAny (model X.prog X.w) X.A (getItem v (.ref sl)) (EP X pins σ Q) X.xe s
def KZ (r:V->Option Int->Option Int->Hp->VK->Prop) (te:TE) (tl th:TO):TE:=λσ H Q=>te σ H λx H1=>tl σ H1 λl H2=>th σ H2 λu H3=>r x l u H3 Q
theorem vL {r:V->Option Int->Option Int->Hp->VK->Prop} (a8:iS X r) (a5:PE X e te) (a7:PO X lo tl) (ab:PO X hi th):PE X (.Subscript e (.Slice lo hi none p2) pos) (KZ r te tl th):=by
 intro F s J H Q Z h;show Subscript_ (kD (a5 F s J H _ Z h) λv aq O=>?_);let(x,W,a0,ap,ad):=O;show wpAny_Slice (kD (a7 F aq J W _ a0 ad) λL ar ⟨l,Y,a1,pl,ah⟩=>kD (ab F ar J Y _ a1 ah) λN D O=>?_);let(u,U,a2,ac,ao):=O;rw[evalPart_none];show wA ?_;let a3:HC X F J U {D with heap:=D.heap.push {cls:=.type "slice",data:=.fields #[L,N,.none]}}:=a2.kept (t':=D.toks) λb au q=>zA _ q;let(T,id,a4,a9,a6):=a8 F {D with heap:=D.heap.push {cls:=.type "slice",data:=.fields #[L,N,.none]}} J U x v L N l u D.heap.objs.size Q a3 ap (Heap.IsSliceOf.new ..) pl ac ao;change wpAny (model X.prog X.w) X.A (subscriptTail e (.Slice lo hi none p2) v (.ref D.heap.objs.size)) (EP X F J Q) X.xe {D with heap:=D.heap.push {cls:=.type "slice",data:=.fields #[L,N,.none]}};show tail_any (ops:=[.ref D.heap.objs.size,v]) a9 a4 a6 (by with_unfolding_all rfl)
def hE (xs:!V) (lo hi:Option Int):!V:=(xs.drop (HT.cE xs.length 0 lo)).take (HT.cE xs.length xs.length hi - HT.cE xs.length 0 lo)
theorem LZ (xs:!V) (lo hi:Option Int):(hE xs lo hi).length<=xs.length:=by
 unfold hE;rw[aB,TB];omega
def oO (K:PySem.W.Frag):V->Option Int->Option Int->Hp->VK->Prop:=λx lo hi H Q=>∃a xs,x=.ref a/\uD K H a xs/\
 ¬(HT.cE xs.length 0 lo=0/\HT.cE xs.length xs.length hi=xs.length)/\∀p,H p=none->Q (.ref p) (FC H p (.tup (hE xs lo hi)))
theorem MZ:iS X (oO X.K):=by
 intro Z s a3 H x v a1 a2 lo hi a0 Q D W L pl V h;let(a,xs,rfl,O,N,q):=h;cases W;let(U,r,J,hz):=D.tuple O;let F:U.toArray.size=xs.length:=by rw[FA];show r.length.symm
 show("tuple",_,PyProof.Rows.slot_tuple_getitem.lookup,J.typeIs,?_);show HT.qa J L pl V (by rw[F];show N) ?_ (by rw[F];show hz);rw[F];show(.ref s.heap.objs.size,_,D.laid (t':=s.toks) (o:=.tup (hE xs lo hi)) (λb Y q=>zA _ q) (yA _) ?_,rfl,q _ (D.hok.fresh (yA _)));show(zB (LZ xs lo hi) hz,_,(r.drop (HT.cE xs.length 0 lo)).take (HT.cE xs.length xs.length hi - HT.cE xs.length 0 lo),IsTup.new _ _)
def UJ (K:PySem.W.Frag):R2:=λx y H Q=>∃a b xs ys,x=.ref a/\y=.ref b/\uD K H a xs/\uD K H b ys/\xs≠[]/\xs.length+ys.length<=sizeLine/\
 (ys=[]->Q (.ref a) H)/\(ys≠[]->∀p,H p=none->Q (.ref p) (FC H p (.tup (xs++ys))))
theorem OC.nil_iff {xs:!V} {us:!Value} (r:OC xs us):us=[]↔xs=[]:=by
 cases r with
 |nil=>simp
 |cons _ _=>simp
theorem NZ:gF X (binaryOp .Add) (UJ X.K):=by
 intro a5 s a7 H x a6 v u Q D a0 a1 h;let(a,b,xs,ys,rfl,rfl,N,O,U,hz,Y,Z):=h;cases a0;cases a1;let(a2,L,V,_):=D.tuple N;let(a3,J,W,_):=D.tuple O;show HT.ia V W (λF=>U (L.nil_iff.mp F)) (λF=>(.ref a,H,D,rfl,Y (J.nil_iff.mp F))) (λF=>?_) (by rw[<-L.length,<-J.length];show hz);show(.ref s.heap.objs.size,_,D.laid (t':=s.toks) (o:=.tup (xs++ys)) (λb a4 q=>zA _ q) (yA _) ?_,rfl,Z (λw=>F (J.nil_iff.mpr w)) _ (D.hok.fresh (yA _)));show(by rw[xA];show hz,_,L.append J,IsTup.new _ _)
end
def jI (n:Nat) (i:Int):Option Nat:=if 0<=i then (if i < n then some i.toNat else none) else if -(n:Int)<=i then some (i+n).toNat else none
def SG {α:Type} (xs:!α) (i:Int):Option α:=(jI xs.length i).bind λj=>xs[j]?
theorem OZ {n:Nat} {i:Int} {j:Nat} (h:jI n i>j):seqIndex? i n>j/\j < n/\ -(n:Int)<=i/\i < n:=by
 unfold jI at h;by_cases h0:0<=i
 .rw[jA h0] at h;by_cases h1:i < n
  .rw[jA h1] at h;let e:i.toNat=j:=rA h;show(by rw[seqIndex_of h0 h1,e],⋯,⋯,h1)
  .rw[fA h1] at h;cases h
 .rw[fA h0] at h;by_cases h1: -(n:Int)<=i
  .rw[jA h1] at h;let e:(i+n).toNat=j:=rA h;show(by rw[seqIndex_neg ⋯ h1,e],⋯,h1,⋯)
  .rw[fA h1] at h;cases h
theorem PZ {q:Type} {xs:!q} {i:Int} {v:q} (h:SG xs i>v):∃j,seqIndex? i xs.length>j/\xs[j]?>v/\j < xs.length/\ -(xs.length:Int)<=i/\i < xs.length:=by
 unfold SG at h;cases e:jI xs.length i with
 |none=>rw[e] at h;cases h
 |some j=>
  rw[e] at h;let(h1,h2,D,F):=OZ e;show(j,h1,h,h2,D,F)
theorem QH {q:Type} {xs:!q} {j:Nat} {v:q} (h:xs[j]?>v):SG xs (j:Int)>v:=by
 let D:j < xs.length:=(QA.mp h).1;let e:jI xs.length (j:Int)>j:=by
  unfold jI;rw[jA ⋯,jA ⋯];simp
 unfold SG;rw[e];show h
def pJ (b:Expr):Prop:=∀o i,subscripted b false o i=operate [o,i] (getItem o i)
def pO (X:Cx) (r:R2):Prop:=
 ∀(value slice:Expr) (pins:!(Addr×Obj)) (s:Shared) (σ:St) (H:Hp) (x y:V) (v u:Value) (Q:VK),HC X pins σ H s->KC x v->KC y u->r x y H Q->
  subscripted slice false v u=operate [v,u] (getItem v u)->wpAny (model X.prog X.w) X.A (subscriptTail value slice v u) (EP X pins σ Q) X.xe s
def QZ (X:Cx) (id:String) (r:V->!V->Hp->VK->Prop):Prop:=
 ∀(pins:!(Addr×Obj)) (s:Shared) (σ:St) (H:Hp) (x:V) (xs:!V) (v:Value) (us:!Value) (Q:VK),HC X pins σ H s->KC x v->OC xs us->r x xs H Q->
  wpAny (model X.prog X.w) X.A (call (.builtin id) (v::us)) (EP X pins σ Q) X.xe s
section
variable {X:Cx} {a b:Expr} {ta tb:TE} {pos:Pos}
theorem WD {r:R2} (O:pO X r) (L:PE X a ta) (N:PE X b tb) (U:pJ b):PE X (.Subscript a b pos) (aO r ta tb):=by
 intro V s a1 H Q F h;show Subscript_ (nL L N F h λv u Z x a0 D J W Y q=>O a b V Z a1 D x a0 v u Q J W Y q (U _ _))
def qO (K:PySem.W.Frag):R2:=λx y H Q=>∃p xs i v,x=.ref p/\y=.int i/\pD K H p xs/\SG xs i>v/\Q v H
def wL (K:PySem.W.Frag):R2:=λx y H Q=>∃p xs i v,x=.ref p/\y=.int i/\uD K H p xs/\SG xs i>v/\Q v H
theorem lI:pO X (qO X.K):=by
 intro a9 a8 O s U H x ab v u Q F a3 a4 h N;let(p,xs,i,a5,rfl,rfl,a0,Y,q):=h;cases a3;let(t,rfl):=a4;let(a1,r,pl,hz):=F.list a0;let(j,h1,h2,a6,V,W):=PZ Y;let(w,J,a2):=r.get h2;let Z:=r.length;let a7:=uG;let L:EP X O U Q w s:=(a5,H,F,a2,q)
 by_cases h0:0<=i
 .let D:i.toNat=j:=by
   rw[seqIndex_of h0 W] at h1;show rA h1
  show item_listR pl.isList h0 ⋯ (by rw[D];simpa using J) L N
 .let D:(i+(a1.toArray.size:Int)).toNat=j:=by
   rw[seqIndex_neg ⋯ V] at h1;rw[FA,<-Z];show rA h1
  show subscriptTail_builtinR (x:=w) pl.isList.typeIs slot_list_getitem.lookup
   (wpAny_getItem_list_neg (Q:=λr s'=>r=w/\EP X O U Q r s') pl.isList ⋯ (by rw[FA]<;>omega) ⋯ (by rw[D];simpa using J) ⟨rfl,L⟩) N
theorem vE:pO X (wL X.K):=by
 intro a8 a7 F s J H x a9 v u Q D Z a0 h W;let(p,xs,i,a1,rfl,rfl,V,O,q):=h;cases Z;let(t,rfl):=a0;let(a6,r,pl,hz):=D.tuple V;let(j,h1,h2,a2,a3,a4):=PZ O;let(w,L,Y):=r.get h2;let U:=r.length;let a5:=uG;let N:EP X F J Q w s:=(a1,H,D,Y,q)
 show subscriptTail_builtinR (x:=w) pl.typeIs slot_tuple_getitem.lookup
  (getItem_tuple (j:=j) (Q:=λr s'=>r=w/\EP X F J Q r s') pl ⋯ ⋯ (by rw[FA,<-U];show h1) (by simpa using L) ⟨rfl,N⟩) W
theorem ra (q:!Value) (n j:Nat) (u:Value):Obj.mapSeq (·.setIfInBounds j u) {cls:=.type "list",data:=.seq q.toArray n}={cls:=.type "list",data:=.seq (q.set j u).toArray n}:=by
 simp[Obj.mapSeq]
theorem HC.lst {F:!(Addr×Obj)} {L:St} {H:Hp} {s:Shared} {p:Addr} {xs:!V} (D:HC X F L H s) (h:H p>(.lst xs)):
  ∃(q:!Value) (n:Nat),OC xs q/\s.heap.get? p>{cls:=.type "list",data:=.seq q.toArray n}/\xs.length<=sizeLine:=by
 let(J,q,n,r,e):=D.hok p _ h;show(q,n,r,e,J)
theorem HC.lstUpd {L:!(Addr×Obj)} {N:St} {H:Hp} {s:Shared} {p:Addr} {xs ys:!V} {J its':!Value} {n D:Nat} {f:Obj->Obj} (O:HC X L N H s) (h:H p>(.lst xs))
  (ho:s.heap.get? p>{cls:=.type "list",data:=.seq J.toArray n}) (F:f {cls:=.type "list",data:=.seq J.toArray n}={cls:=.type "list",data:=.seq its'.toArray D}) (r:OC ys its') (hz:ys.length<=sizeLine) (t:Nat):
  HC X L N (FC H p (.lst ys)) {s with heap:=s.heap.update p f,toks:=t}:=by
 let e:(s.heap.update p f).get? p>{cls:=.type "list",data:=.seq its'.toArray D}:=by
  rw[Heap.get?_update_self f ho (by rw[F]<;>rfl),F]
 show O.write (x:=p) (e:=p) (by rw[h];trivial) (.inl rfl) (λb u U q=>(NB _ _ (Ne.symm U)).trans q) ⟨_,e⟩ ?_;show(hz,its',D,r,e)
def rSetL:V->V->V->Hp->(Hp->Prop)->Prop:=λo i v H Q=>∃p xs k j,o=.ref p/\i=.int k/\H p>(.lst xs)/\jI xs.length k>j/\Q (FC H p (.lst (xs.set j v)))
theorem ua:XN X rSetL:=by
 intro W s a1 H o i v a4 a3 u Q F Z Y a0 h;let(p,xs,k,j,rfl,rfl,O,V,q):=h;cases Z;let(t,rfl):=Y;let(U,n,r,ho,hz):=F.lst O;let(h1,h2,L,N):=OZ V;let D:=r.length;let a2:=uG;let J:HC X W a1 (FC H p (.lst (xs.set j v))) {s with heap:=s.heap.update p (Obj.mapSeq (·.setIfInBounds j u))}:=
  F.lstUpd O ho (ra U n j u) (r.set a0 j) (by rw[List.length_set];show hz) s.toks
 by_cases h0:0<=k
 .let hk:k.toNat=j:=by
   rw[seqIndex_of h0 N] at h1;show rA h1
  show PySem.W.ki_setAt ho h0 ⋯ (by rw[FA,<-D];show N) (by rw[hk];show(_,J,q))
 .let hk:(k+(U.toArray.size:Int)).toNat=j:=by
   rw[seqIndex_neg ⋯ L] at h1;rw[FA,<-D];show rA h1
  show PySem.W.ki_setBack ho ⋯ (by rw[FA,<-D];show L) ⋯ (by rw[hk];show(_,J,q))
theorem va (lo hi:Option Int) (n:Nat):(sliceBounds lo hi none n).1=((HT.cE n 0 lo:Nat):Int)/\(sliceBounds lo hi none n).2.1=((HT.cE n n hi:Nat):Int)/\(sliceBounds lo hi none n).2.2=1:=by
 show(?_,?_,rfl)
 .cases lo with
  |none=>simp[sliceBounds,HT.cE]
  |some i=>
   simp only[sliceBounds,HT.cE,Option.getD_none,show GT.gt (1:Int) 0 by decide,yC];by_cases h:i < 0
   .simp only[h,yC]<;>omega
   .simp only[h,HB]<;>omega
 .cases hi with
  |none=>simp[sliceBounds,HT.cE]
  |some i=>
   simp only[sliceBounds,HT.cE,Option.getD_none,show GT.gt (1:Int) 0 by decide,yC];by_cases h:i < 0
   .simp only[h,yC]<;>omega
   .simp only[h,HB]<;>omega
theorem wa (q:!Value) (lo hi:Option Int):slicePick q.toArray lo hi none=((q.drop (HT.cE q.length 0 lo)).take (HT.cE q.length q.length hi - HT.cE q.length 0 lo)).toArray:=by
 let(h1,h2,D):=va lo hi q.toArray.size;unfold slicePick;rw[h1,h2,D];simp only[sliceRange_one,pick_run,FA]<;>rfl
def rO (K:PySem.W.Frag):V->Option Int->Option Int->Hp->VK->Prop:=λx lo hi H Q=>∃a xs,x=.ref a/\pD K H a xs/\∀p,H p=none->Q (.ref p) (FC H p (.lst (hE xs lo hi)))
theorem sO:iS X (rO X.K):=by
 intro Y s a2 H x v a0 a1 lo hi Z Q D U L pl O h;let(a,xs,rfl,N,q):=h;cases U;let(V,r,F,hz):=D.list N;let J:=r.length;show("list",_,slot_list_getitem.lookup,F.isList.typeIs,?_);show wpAny_getItem_list_slice F.isList L pl O .none (by simp) ?_ (by rw[FA]<;>omega);rw[wa,<-J];show(.ref s.heap.objs.size,_,D.laid (t':=s.toks) (o:=.lst (hE xs lo hi)) (λb W q=>zA _ q) (yA _) ?_,rfl,q _ (D.hok.fresh (yA _)));show(zB (LZ xs lo hi) hz,_,0,(r.drop (HT.cE xs.length 0 lo)).take (HT.cE xs.length xs.length hi - HT.cE xs.length 0 lo),SA _ rfl)
def KG:V->Bool
 |.non=>true
 |.bl _=>true
 |.int _=>true
 |.str _=>true
 |_=>false
def uO:V->V->Bool
 |.non,.non=>true
 |.bl a,.bl b=>a == b
 |.bl a,.int b=>(if a then 1 else 0) == b
 |.int a,.bl b=>a == (if b then 1 else 0)
 |.int a,.int b=>a == b
 |.str a,.str b=>a == b
 |_,_=>false
theorem xL {A:Around} {s:Shared} {J x:V} {u v:Value} (F:KC J u) (q:KC x v) (L:KG J=true) (D:KG x=true):SeqAt.EqAt A s u v (uO J x):=by
 cases J with
 |non=>
  cases F;cases x with
  |non=>cases q;show SeqAt.EqAt.same _
  |bl b=>cases q;show SeqAt.EqAt.none_bool b
  |int b=>let(t,rfl):=q;show SeqAt.EqAt.none_int b t
  |str b=>let(t,rfl):=q;show SeqAt.EqAt.none_str b t
  |_=>show absurd (show false=true from D) AA
 |bl a=>
  cases F;cases x with
  |non=>cases q;show SeqAt.EqAt.bool_none a
  |bl b=>cases q;show SeqAt.EqAt.bool_bool a b
  |int b=>let(t,rfl):=q;show SeqAt.EqAt.bool_int a b t
  |str b=>let(t,rfl):=q;show SeqAt.EqAt.bool_str a b t
  |_=>show absurd (show false=true from D) AA
 |int a=>
  let(t',rfl):=F;cases x with
  |non=>cases q;show SeqAt.EqAt.int_none a t'
  |bl b=>cases q;show SeqAt.EqAt.int_bool a t' b
  |int b=>let(t,rfl):=q;show SeqAt.EqAt.int_int a t' b t
  |str b=>let(t,rfl):=q;show SeqAt.EqAt.int_str a t' b t
  |_=>show absurd (show false=true from D) AA
 |str a=>
  let(t',rfl):=F;cases x with
  |non=>cases q;show SeqAt.EqAt.str_none a t'
  |bl b=>cases q;show SeqAt.EqAt.str_bool a t' b
  |int b=>let(t,rfl):=q;show SeqAt.EqAt.str_int a t' b t
  |str b=>let(t,rfl):=q;show SeqAt.EqAt.str_str a t' b t
  |_=>show absurd (show false=true from D) AA
 |_=>show absurd (show false=true from L) AA
theorem zQ:xE X (.type "list") (λxs H Q=>∃p ys,xs=[.ref p]/\(pD X.K H p ys\/uD X.K H p ys)/\∀l,H l=none->Q (.ref l) (FC H l (.lst ys))):=by
 intro W s Z H xs us Q N r h;let(p,ys,rfl,L,q):=h;let(u,rfl,Y):=EF r;cases Y;let U:∀(D:!Value),OC ys D->ys.length<=sizeLine->∀(h':Heap) (F:Nat),(∀b o',s.heap.get? b>o'->h'.get? b>o')->
   h'.get? s.heap.objs.size>{cls:=.type "list",dict:=none,data:=.seq D.toArray F,slots:= #[]}->EP X W Z Q (.ref s.heap.objs.size) {s with heap:=h'}:=λD J hz h' F kp e=>
  (.ref s.heap.objs.size,_,N.laid (t':=s.toks) kp (yA _) (show wD X.prog X.w _ h' _ (.lst ys) from (hz,D,F,J,e)),rfl,q _ (N.hok.fresh (yA _)))
 let L||L:=L
 .let(D,J,pl,hz):=N.list L;let V:=J.length;let(o,ho,O,n,hd):=pl.isList;show call_list_seq p (.inl rfl) ho O hd (λh' F kp e=>U D J hz h' F kp e) (by simp only[FA]<;>omega)
 .let(D,J,pl,hz):=N.tuple L;let V:=J.length;let(o,ho,O,n,hd):=pl;show call_list_seq p (.inr rfl) ho O hd (λh' F kp e=>U D J hz h' F kp e) (by simp only[FA]<;>omega)
def jS (K:PySem.W.Frag) (T:String) (x:V) (H:Hp):Prop:=match x with
 |.str _=>T="str"
 |.int _=>T="int"
 |.ref p=>(T="list"/\∃xs,pD K H p xs)\/(T="tuple"/\∃o,K.lookup p>o/\o.cls=.type "tuple"/\o.dict=none)\/
  (T="dict"/\((∃kvs,H p>(.dK kvs))\/∃kvs,H p>(.dT kvs)))\/(T="set"/\∃S n,H p>(.set S n))
 |_=>False
theorem RZ {O:!(Addr×Obj)} {U:St} {H:Hp} {s:Shared} {T:String} {x:V} {v:Value} (q:HC X O U H s) (r:KC x v) (ty:jS X.K T x H):
  s.TypeIs v T/\∀a,v=.ref a->∃J,s.heap.get? a>J/\J.dict=none:=by
 cases x with
 |str F=>
  let(t,rfl):=r;cases (show T="str" from ty);show⟨typeIs_str s F t,λο e=>nomatch e⟩
 |int i=>
  let(t,rfl):=r;cases (show T="int" from ty);show⟨typeIs_int s i t,λο e=>nomatch e⟩
 |ref p=>
  cases r;let(rfl,xs,N)||(rfl,o,hk,L,hd)||(rfl,hk)||(rfl,S,n,hk):=ty
  .let(W,_,pl,_):=q.list N;show⟨pl.isList.typeIs,λa e=>?_⟩;cases e;let(o,n,e,c,hd,_):=pl;show(o,e,hd)
  .show⟨(o,q.kIn p o hk,L),λa e=>?_⟩;cases e;show(o,q.kIn _ o hk,hd)
  .let F:∃o,s.heap.get? p>o/\o.ExactDict:=by
    let(kvs,hk)||(kvs,hk):=hk
    .let(_,_,_,_,o,_,_,e,ex,_):=q.hok p _ hk;show(o,e,ex)
    .let(_,_,_,_,o,_,_,e,ex,_):=q.hok p _ hk;show(o,e,ex)
   let(o,e,ex):=F;show⟨(o,e,ex.1),λa D=>?_⟩;cases D;show(o,e,ex.2.1)
  .let(o,_,_,_,e,ex,_):=q.hok p _ hk;show⟨(o,e,ex.1),λa D=>?_⟩;cases D;show(o,e,ex.2.1)
 |_=>show False.elim ty
def vO (K:PySem.W.Frag) (T:String) (r:V->!V->Hp->VK->Prop) (to:TE):TE:=λσ H Q=>to σ H λx H1=>jS K T x H1/\r x [] H1 Q
def SZ (K:PySem.W.Frag) (T:String) (r:V->!V->Hp->VK->Prop) (to:TE) (t:TA):TE:=λσ H Q=>to σ H λx H1=>jS K T x H1/\t σ H1 λxs H2=>r x xs H2 Q
variable {o e:Expr} {es:!Expr} {to:TE} {t:TA} {name:Str} {apos cpos:Pos} {T id:String} {r:V->!V->Hp->VK->Prop}
theorem yL (Y:PlainAttrs T) (a1:Slot T name id) (W:typeOf (.builtin id)=pure (.type "method_descriptor")) (V:QZ X id r) (ho:PE X o to)
  (O:attributeBase o name X.env (eval o X.env)=eval o X.env:=by rfl) (U:(apos.endLine == cpos.line)=true:=by rfl):PE X (.Call (.Attribute o name apos) [] [] cpos) (vO X.K T r to):=by
 intro D s J H Q N h;show wpAny_Call_method0_late O U (kD (ho D s J H _ N h) λv a0 a2=>?_);let(x,L,q,F,ty,Z):=a2;let(h1,h2):=RZ q F ty;show(T,id,Y,a1,W,h1,h2,MB rfl (PySem.evalArgs_none (V D a0 J L x [] v [] Q q F .nil Z)))
theorem zL (a5:PlainAttrs T) (ac:Slot T name id) (a4:typeOf (.builtin id)=pure (.type "method_descriptor")) (a1:QZ X id r) (ho:PE X o to) (W:PA X (e::es) t)
  (Y:attributeBase o name X.env (eval o X.env)=eval o X.env:=by rfl)
  (Z:((backTo cpos (starEach (e::es) X.env)).all (λx=> not x.1)&&(backToKw cpos (keywordEach [] X.env)).all (λx=>x.1.isSome)
   &&decide ((e::es).length+([]:!Keyword).length+(if ([]:!Keyword).isEmpty then 0 else 1) < 30))=true:=by rfl)
  (a0:(apos.endLine == cpos.line)=true:=by rfl) (a3:starEach (e::es) X.env=(false,eval e X.env)::starEach es X.env:=by rfl) (a2:(backTo cpos (starEach es X.env)).any (·.1)=false:=by rfl):
  PE X (.Call (.Attribute o name apos) (e::es) [] cpos) (SZ X.K T r to t):=by
 intro q s D H Q U h;show wpAny_Call_method_late Y Z a0 rfl (kD (ho q s D H _ U h) λv a9 ad=>?_);let(x,N,F,L,ty,a6):=ad;let(h1,h2):=RZ F L ty;show(T,id,a5,ac,a4,h1,h2,?_);let J:=W cpos q a9 D N _ F a6;rw[a3] at J ⊢;show MB (by change (false || (backTo cpos (starEach es X.env)).any (·.1))=false;rw[a2]<;>rfl) (Calls.evalArgs_plain ?_);show kD J λus ab ⟨vs,O,V,a8,a7⟩=>a1 q ab D O x vs v us Q V L a8 a7
end
def kS (X:Cx) (id:String) (r:V->!V->Hp->VK->Prop):Prop:=
 ∀(pins:!(Addr×Obj)) (s:Shared) (σ:St) (H:Hp) (x:V) (xs:!V) (v:Value) (us:!Value) (Q:VK),HC X pins σ H s->KC x v->OC xs us->r x xs H Q->
  wpAny (model X.prog X.w) X.A (call (.builtin id) (v::us)) (EP X pins σ Q) X.xe s
theorem OC.one:∀{x:V} {us:!Value},OC [x] us->∃u,us=[u]/\KC x u:=by
 intro x us h;cases h with
 |cons r h=>cases h;show(_,rfl,r)
theorem OC.two:∀{x y:V} {us:!Value},OC [x,y] us->∃u v,us=[u,v]/\KC x u/\KC y v:=by
 intro x y us h;cases h with
 |cons r h=>
  cases h with
  |cons q h=>cases h;show(_,_,rfl,r,q)
theorem OC.zero:∀{us:!Value},OC [] us->us=[]
 |_,.nil=>rfl
theorem OC.dropLast {xs:!V} {us:!Value} (h:OC xs us):OC xs.dropLast us.dropLast:=by
 induction h with
 |nil=>show .nil
 |cons r t D=>
  cases t with
  |nil=>show .nil
  |cons q t'=>show .cons r D
theorem OC.rep {xs:!V} {us:!Value} (h:OC xs us):∀k:Nat,OC (List.replicate k xs).flatten (List.replicate k us).flatten
 |0=>.nil
 |k+1=>by
  rw[QB,QB,aC,aC];show OC.append h (OC.rep h k)
theorem xa {D:Type} (l:!D):l.eraseIdx (l.length - 1)=l.dropLast:=by
 induction l with
 |nil=>rfl
 |cons a r q=>
  cases r with
  |nil=>rfl
  |cons b r=>
   let e:(a::b::r).length - 1=((b::r).length - 1)+1:=by
    let h1:(a::b::r).length=r.length+2:=rfl;let h2:(b::r).length=r.length+1:=rfl;omega
   rw[e,List.eraseIdx_cons_succ,q]
   all_goals rfl
theorem TZ (its:!Value):∀(k:Nat) (acc:!Value),
  List.foldl (λx1 x2=>x1++x2) acc.toArray (List.replicate k its.toArray)=(acc++(List.replicate k its).flatten).toArray
 |0,acc=>by simp
 |k+1,acc=>by
  let e:acc.toArray++its.toArray=(acc++its).toArray:=by simp
  let e2:(acc++its)++(List.replicate k its).flatten=acc++(List.replicate (k+1) its).flatten:=by
   rw[QB,aC,UA]
  rw[<-e2,<-TZ its k (acc++its),<-e,QB,List.foldl_cons]
section
variable {X:Cx} {pins:!(Addr×Obj)} {σ:St} {H:Hp} {s:Shared} {l b:Addr} {xs ys zs:!V}
theorem HC.lset {D its':!Value} {n:Nat} {f:Array Value->Array Value} {t':Nat} (F:HC X pins σ H s) (J:H l>(.lst xs))
  (e:s.heap.get? l>{cls:=.type "list",data:=.seq D.toArray n}) (N:f D.toArray=its'.toArray) (U:OC ys its') (hz:ys.length<=sizeLine):
  HC X pins σ (FC H l (.lst ys)) {s with heap:=s.heap.update l (Obj.mapSeq f),toks:=t'}:=by
 let q:=PySem.IsL.update e f;rw[N] at q;show F.write (x:=l) (e:=l) (by rw[J];show trivial) (.inl rfl) (λV u L O=>(NB s.heap (Obj.mapSeq f) (Ne.symm L)).trans O) ⟨_,q⟩ ?_;show(hz,its',_,U,q)
theorem HC.lnew {D:!Value} {t':Nat} (F:HC X pins σ H s) (J:OC ys D) (hz:ys.length<=sizeLine):
  HC X pins σ (FC H s.heap.objs.size (.lst ys)) {s with heap:=s.heap.push {cls:=.type "list",data:=.seq D.toArray},toks:=t'}:=
 F.laid (λο ο q=>zA _ q) (yA _) (hz,D,0,J,SA _ rfl)
theorem HC.fresh (I:HC X pins σ H s):H s.heap.objs.size=none:=I.hok.fresh (yA _)
theorem HC.lstM (D:HC X pins σ H s) (F:H l>(.lst xs)):xs.length<=sizeLine/\∃(q:!Value) (n:Nat),OC xs q/\xs.length=q.length/\s.heap.get? l>{cls:=.type "list",data:=.seq q.toArray n}:=by
 let(J,q,n,r,e):=D.hok l _ F;show(J,q,n,r,r.length,e)
theorem LG {n:Nat} (h:n<=sizeLine):Builtin.List.listTooLong n=false:=by
 unfold Builtin.List.listTooLong;show DA ⋯
end
section
variable {X:Cx}
def rAppend:V->!V->Hp->VK->Prop:=λx vs H Q=>∃l xs y,x=.ref l/\vs=[y]/\H l>(.lst xs)/\xs.length < sizeLine/\Q .non (FC H l (.lst (xs++[y])))
theorem AL:kS X "list.append" rAppend:=by
 intro W s a0 H x vs v us Q D U O h;let(l,xs,Y,rfl,rfl,J,hz,q):=h;cases U;let(u,rfl,N):=O.one;let(Z,L,n,r,V,e):=D.lstM J;show call_meets F.slot_list_append (_,e,rfl) F.entry_list_append (F.args_list_append_2 _ _) (PySem.list_append l L.toArray n u (by rw[FA];omega)) ⟨e,?_⟩;show(.non,_,D.lset (its':=L++[u]) J e (by simp) (r.append (.cons N .nil)) ?_,rfl,q);rw[xA,yB];omega
def rExtend:V->!V->Hp->VK->Prop:=λx vs H Q=>∃l b xs zs,x=.ref l/\vs=[.ref b]/\H l>(.lst xs)/\H b>(.lst zs)/\xs.length+zs.length<=sizeLine/\Q .non (FC H l (.lst (xs++zs)))
theorem ya:kS X "list.extend" rExtend:=by
 intro a4 s a7 H x vs v us Q L a1 a0 h;let(l,b,xs,a6,rfl,rfl,N,U,hz,q):=h;cases a1;let(u,rfl,Z):=a0.one;cases Z;let(a5,D,n,r,a2,e):=L.lstM N;let(z2,J,W,Y,a3,O):=L.lstM U;let hsz:D.toArray.size+J.toArray.size<=sizeLine:=by rw[FA,FA];omega
 let V:¬(not D.toArray.isEmpty&&Builtin.List.listTooLong (D.toArray.size+J.toArray.size))=true:=by
  rw[LG hsz,Bool.and_false];show AA
 show call_meets F.slot_list_extend (_,e,rfl) F.entry_list_extend (F.args_list_extend_2 _ _)
  (AutoSeq1.list_extend_list_list_0 l D.toArray n b J.toArray W V (by rw[FA];omega) ⋯) (e,O,?_)
 show(.non,_,L.lset (its':=D++J) N e (by simp) (r.append Y) ?_,rfl,q);rw[xA];omega
def rPop:V->!V->Hp->VK->Prop:=λx vs H Q=>∃l xs y,x=.ref l/\vs=[]/\H l>(.lst xs)/\xs[xs.length - 1]?>y/\Q y (FC H l (.lst xs.dropLast))
theorem BL:kS X "list.pop" rPop:=by
 intro a2 s a4 H x vs v us Q J a0 Z h;let(l,xs,a1,rfl,rfl,L,V,q):=h;cases a0;let U:=Z.zero;subst U;let(a3,D,n,r,N,e):=J.lstM L;let(u,O,Y):=r.get V;let W:D.toArray[D.toArray.size - 1]?>u:=by
  change D.toArray[D.length - 1]?>u;rw[<-Array.getElem?_toList,<-N];show O
 show call_meets F.slot_list_pop (_,e,rfl) F.entry_list_pop (F.args_list_pop_1 _) (MeetsSeq.list_pop_last l D.toArray n u W (by rw[FA];omega)) ⟨e,?_⟩;show(a1,_,J.lset (its':=D.dropLast) L e ?_ r.dropLast ?_,Y,q)
 .change D.toArray.eraseIdxIfInBounds (D.toArray.size - 1)=D.dropLast.toArray;rw[FA,List.eraseIdxIfInBounds_toArray,xa]
 .rw[List.length_dropLast];omega
def rCat:R2:=λx y H Q=>∃l b xs zs,x=.ref l/\y=.ref b/\H l>(.lst xs)/\H b>(.lst zs)/\xs.length+zs.length<=sizeLine/\∀p,H p=none->Q (.ref p) (FC H p (.lst (xs++zs)))
theorem AQ:gF X (binaryOp .Add) rCat:=by
 intro a2 s a6 H x a3 v u Q D W Y h;let(l,b,xs,a5,rfl,rfl,U,O,hz,q):=h;cases W;cases Y;let(a4,F,n,r,Z,e):=D.lstM U;let(z2,J,a1,V,a0,L):=D.lstM O;show PySem.P.add_list e L ?_ (by rw[FA,FA];omega);let N:F.toArray++J.toArray=(F++J).toArray:=by simp
 rw[N];show(.ref _,_,D.lnew (t':=s.toks) (r.append V) (by rw[xA];omega),rfl,q _ D.fresh)
def rRep:R2:=λx y H Q=>∃l k xs,x=.ref l/\y=.int k/\H l>(.lst xs)/\ -(2 ^ 63)<=k/\k < 2 ^ 63/\xs.length * k.toNat<=sizeLine/\
 ∀p,H p=none->Q (.ref p) (FC H p (.lst (List.replicate k.toNat xs).flatten))
theorem za {D:Type} (xs:!D) (k:Nat):(List.replicate k xs).flatten.length=k * xs.length:=by
 induction k with
 |zero=>simp
 |succ k q=>rw[QB,aC,xA,q,Nat.succ_mul,Nat.add_comm]
theorem CL:gF X (binaryOp .Mult) rRep:=by
 intro a5 s a9 H x a7 v u Q J a3 a4 h;let(l,k,xs,rfl,rfl,V,h1,h2,hz,q):=h;cases a3;let(t,rfl):=a4;let(a8,D,n,r,Z,e):=J.lstM V;let a0:D.toArray.size * k.toNat<=sizeLine:=by rw[FA,<-Z];show hz
 let W:¬GT.gt (D.toArray.size * k.toNat) ((2 ^ 63 - 1) / 8):=by
  have:(sizeLine:Nat)<=(2 ^ 63 - 1) / 8:=by decide
  omega
 let Y:¬(not (Builtin.List.listFitsIndex k))=true:=by
  rw[fitsIndex_both h1 h2];show AA
 let a1:¬Builtin.List.listTooLong (D.toArray.size * k.toNat)=true:=by
  rw[LG a0];show AA
 let a2:List.foldl (λL N=>L++N) #[] (List.replicate (if D.toArray.isEmpty=true then 0 else k.toNat) D.toArray)=(List.replicate k.toNat D).flatten.toArray:=by
  let O:∀m:Nat,List.foldl (λL N=>L++N) #[] (List.replicate m D.toArray)=(List.replicate m D).flatten.toArray:=λm=>by
   have:=TZ D m [];rw[List.nil_append] at this;show this
  rw[O];cases D with
  |nil=>simp
  |cons a a6=>rw[fA (by simp)]
 show wpAny_binaryOp_repeat_ref (T:="list") (U:="int") (by decide) (_,e,rfl) (λs'=>typeIs_int s' k t) noFill_list_mul F.fills_int_mul F.slot_int_rmul repeat_list F.slot_int_index.lookup
  (call_meets F.slot_int_rmul (typeIs_int s k t) F.entry_int_rmul (F.args_int_rmul_2 _ _) (int___rmul___int_list k t l D.toArray n)
   (e,rfl,(_,e,rfl),call_meets F.slot_list_mul (_,e,rfl) F.entry_list_mul (F.args_list_mul_2 _ _) (AutoListH.list___mul___list_int_3 l D.toArray n k t Y W a1) ⟨e,?_⟩))
 rw[a2];show(.ref _,_,J.lnew (t':=s.toks) (r.rep k.toNat) (by rw[za,Nat.mul_comm];show hz),rfl,q _ J.fresh)
end
section
variable {prog:Program} {w:World} {A:Around} {E:Value->Shared->Prop} {s:Shared}
end
section
variable {X:Cx}
end
section
variable {κ:Type} [DecidableEq κ]
def SC (kvs:!(κ×V)) (k:κ):Option V:=(kvs.find? λkv=>decide (kv.1=k)).map (·.2)
def zD (kvs:!(κ×V)) (k:κ) (v:V):!(κ×V):=
 if (kvs.any λkv=>decide (kv.1=k))=true then kvs.map (λkv=>if kv.1=k then (kv.1,v) else kv) else kvs++[(k,v)]
def DD (kvs:!(κ×V)) (k:κ):!(κ×V):=kvs.filter λkv=>decide (kv.1≠k)
theorem UG {p:κ×V} {r:!(κ×V)} {k:κ} (e:p.1=k):SC (p::r) k>p.2:=by simp[SC,List.find?_cons,e]
theorem fH {p:κ×V} {r:!(κ×V)} {k:κ} (e:¬p.1=k):SC (p::r) k=SC r k:=by simp[SC,List.find?_cons,e]
theorem qJ (k:κ):∀kvs:!(κ×V),(kvs.any λkv=>decide (kv.1=k))=(SC kvs k).isSome
 |[]=>rfl
 |p::r=>by
  rw[List.any_cons];by_cases e:p.1=k
  .simp only[UG e,pA e,Bool.true_or,Option.isSome_some]
  .rw[fH e,DA e,Bool.false_or];show qJ k r
theorem UZ (k j:κ) (y:V):∀kvs:!(κ×V),SC (kvs.map λkv=>if kv.1=k then (kv.1,y) else kv) j=(SC kvs j).map λx=>if j=k then y else x
 |[]=>rfl
 |p::r=>by
  let ih:=UZ k j y r;rw[BA];by_cases h:p.1=k
  .rw[jA h];by_cases e:p.1=j
   .rw[UG (p:=(p.1,y)) e,UG e,rC,jA (e.symm.trans h)]
   .rw[fH (p:=(p.1,y)) e,fH e,ih]
  .rw[fA h];by_cases e:p.1=j
   .rw[UG (p:=p) e,UG e,rC,fA (λz=>h (e.trans z))]
   .rw[fH (p:=p) e,fH e,ih]
theorem BQ (k j:κ) (y:V):∀kvs:!(κ×V),SC kvs k=none->SC (kvs++[(k,y)]) j=if j=k then some y else SC kvs j
 |[],_=>by
  by_cases e:k=j
  .rw[jA e.symm];show UG (p:=(k,y)) e
  .rw[fA (λz=>e z.symm)];show fH (p:=(k,y)) e
 |p::r,hn=>by
  rw[List.cons_append];let hk:¬p.1=k:=λz=>by rw[UG z] at hn;cases hn
  rw[fH hk] at hn;let ih:=BQ k j y r hn;by_cases e:p.1=j
  .rw[UG e,UG e,fA (λz=>hk (e.trans z))]
  .rw[fH e,fH e,ih]
theorem yN (kvs:!(κ×V)) (k j:κ) (D:V):SC (zD kvs k D) j=if j=k then some D else SC kvs j:=by
 unfold zD;by_cases a:(kvs.any λJ=>decide (J.1=k))=true
 .rw[jA a,UZ];rw[qJ] at a;by_cases e:j=k
  .let(x,F):=Option.isSome_iff_exists.mp a;rw[jA e,e,F,rC,jA rfl]
  .rw[fA e];cases SC kvs j with
   |none=>rfl
   |some x=>rw[rC,fA e]
 .rw[fA a];show BQ k j D kvs ?_;rw[qJ] at a;cases q:SC kvs k with
  |none=>rfl
  |some x=>rw[q] at a;show (a rfl).elim
theorem DL (kvs:!(κ×V)) (k:κ) (v:V):(zD kvs k v).length<=kvs.length+1:=by
 unfold zD
 split
 .rw[iA];omega
 .rw[xA,dB,List.length_nil];omega
theorem CQ {kvs:!(κ×V)} {k:κ} (v:V) (h:SC kvs k=none):zD kvs k v=kvs++[(k,v)]:=by
 unfold zD;rw[qJ,h];show fA (by decide)
theorem wE.isSome_eq {o:Option V} {u:Option Value} (r:wE o u):o.isSome=u.isSome:=by
 cases o with
 |none=>cases u with
  |none=>rfl
  |some _=>show (show False from r).elim
 |some _=>cases u with
  |none=>show (show False from r).elim
  |some _=>rfl
theorem wE.getD {o:Option V} {u:Option Value} {q:V} {d':Value} (r:wE o u) (D:KC q d'):KC (o.getD q) (u.getD d'):=by
 cases o with
 |none=>cases u with
  |none=>show D
  |some _=>show (show False from r).elim
 |some _=>cases u with
  |none=>show (show False from r).elim
  |some _=>show r
theorem KV.val {kvs:!(κ×V)} {vs:!(κ×Value)} (r:KV kvs vs) (k:κ):wE (SC kvs k) (valueAt vs k):=by
 unfold KV at r
 induction r with
 |nil=>show True.intro
 |@cons p q ps qs h t ih=>
  let(h1,h2):=h;by_cases e:p.1=k
  .let D:q.1=k:=h1.symm.trans e;let b:valueAt (q::qs) k>q.2:=by simp[valueAt,List.find?_cons,D]
   rw[UG e,b];show h2
  .let D:¬q.1=k:=λF=>e (h1.trans F);let b:valueAt (q::qs) k=valueAt qs k:=by simp[valueAt,List.find?_cons,D]
   rw[fH e,b];show ih
theorem KV.any {kvs:!(κ×V)} {vs:!(κ×Value)} (r:KV kvs vs) (k:κ):(kvs.any λq=>decide (q.1=k))=vs.any λq=>decide (q.1=k):=by
 unfold KV at r
 induction r with
 |nil=>rfl
 |cons h t D=>rw[List.any_cons,List.any_cons,D,h.1]
theorem KV.repl {kvs:!(κ×V)} {vs:!(κ×Value)} (r:KV kvs vs) (k:κ) {F:V} {u:Value} (J:KC F u):
  KV (kvs.map λD=>if D.1=k then (D.1,F) else D) (vs.map λD=>if D.1=k then (D.1,u) else D):=by
 unfold KV at r ⊢
 induction r with
 |nil=>show .nil
 |@cons p q ps qs h t ih=>
  rw[BA,BA];show .cons ?_ ih;let(h1,h2):=h;by_cases e:p.1=k
  .rw[jA e,jA (h1.symm.trans e)];show⟨h1,J⟩
  .rw[fA e,fA (λL=>e (h1.trans L))];show⟨h1,h2⟩
theorem KV.put {kvs:!(κ×V)} {vs:!(κ×Value)} (r:KV kvs vs) (k:κ) {D:V} {u:Value} (q:KC D u):KV (zD kvs k D) (stored vs k u):=by
 unfold zD stored;rw[r.any k];by_cases e:(vs.any λF=>decide (F.1=k))=true
 .rw[jA e,jA e];show r.repl k q
 .rw[fA e,fA e];show Paired.snoc r ⟨rfl,q⟩
theorem KV.drop {kvs:!(κ×V)} {vs:!(κ×Value)} (r:KV kvs vs) (k:κ):KV (DD kvs k) (without vs k):=by
 unfold KV at r ⊢;unfold DD without
 induction r with
 |nil=>show .nil
 |@cons p q ps qs h t ih=>
  let(h1,h2):=h;rw[vB,vB];by_cases e:p.1=k
  .let a:¬decide (p.1≠k)=true:=by simp[e]
   let b:¬decide (q.1≠k)=true:=by simp[h1.symm.trans e]
   rw[fA a,fA b];show ih
  .let D:¬q.1=k:=λF=>e (h1.trans F);let a:decide (p.1≠k)=true:=by simp[e]
   let b:decide (q.1≠k)=true:=by simp[D]
   rw[jA a,jA b];show .cons ⟨h1,h2⟩ ih
theorem KV.keys {kvs:!(κ×V)} {vs:!(κ×Value)} (r:KV kvs vs):kvs.map (·.1)=vs.map (·.1):=by
 unfold KV at r
 induction r with
 |nil=>rfl
 |cons h t q=>rw[BA,BA,q,h.1]
theorem KV.length {kvs:!(κ×V)} {vs:!(κ×Value)} (r:KV kvs vs):kvs.length=vs.length:=Paired.length r
theorem Oa (kvs:!(κ×V)) (k:κ):(DD kvs k).length<=kvs.length:=FB _ _
end
theorem VJ {P:Program} {w:World} {k:Key} {u:Value} (r:KC (kV k) u):(fD P w).is k u=true:=by
 cases k with
 |inl i=>let(t,e):=(show ∃t,u=Value.int i t from r);subst e;show W8 P w i t
 |inr x=>let(t,e):=(show ∃t,u=Value.str x t from r);subst e;show X8 P w x t
theorem VZ {P:Program} {w:World}:∀{ks:!Key} {us:!Value},OC (ks.map kV) us->ItemsAre (fD P w) ks us
 |[],_,r=>by rw[IB] at r;cases r;show .nil
 |k::ks,_,r=>by
  rw[BA] at r;cases r with
  |cons h t=>show .cons (VJ h) (VZ t)
abbrev KT (H:Hp):!(!Key×V)->!(!Key×Addr×Value)->Prop:=Paired λp q=>p.1=q.1/\H q.2.1>(.tup (p.1.map kV))/\KC p.2 q.2.2
theorem KT.val {H:Hp} {kvs:!(!Key×V)} {xs:!(!Key×Addr×Value)} (r:KT H kvs xs) (k:!Key):wE (SC kvs k) ((atKey xs k).map (·.2)):=by
 induction r with
 |nil=>show True.intro
 |@cons p q ps qs h t ih=>
  let(h1,_,h2):=h;by_cases e:p.1=k
  .let D:q.1=k:=h1.symm.trans e;let b:atKey (q::qs) k>q.2:=by simp[atKey,List.find?_cons,D]
   rw[UG e,b];show h2
  .let D:¬q.1=k:=λF=>e (h1.trans F);let b:atKey (q::qs) k=atKey qs k:=by simp[atKey,List.find?_cons,D]
   rw[fH e,b];show ih
theorem KT.repl {H:Hp} {kvs:!(!Key×V)} {xs:!(!Key×Addr×Value)} (r:KT H kvs xs) (k:!Key) {F:V} {u:Value} (L:KC F u):
  KT H (kvs.map λD=>if D.1=k then (D.1,F) else D) (xs.map (putAt k u)):=by
 induction r with
 |nil=>show .nil
 |@cons p q ps qs h t ih=>
  rw[BA,BA];show .cons ?_ ih;let(h1,h2,J):=h;unfold putAt;by_cases e:p.1=k
  .rw[jA e,jA (h1.symm.trans e)];show(h1,h2,L)
  .rw[fA e,fA (λN=>e (h1.trans N))];show(h1,h2,J)
theorem KT.put {H:Hp} {kvs:!(!Key×V)} {xs:!(!Key×Addr×Value)} (r:KT H kvs xs) (k:!Key) {b:Addr} {F:V} {u:Value} (J:H b>(.tup (k.map kV))) (D:KC F u):
  KT H (zD kvs k F) (storedH xs k b u):=by
 let e:(kvs.any λL=>decide (L.1=k))=(atKey xs k).isSome:=by
  rw[qJ,(r.val k).isSome_eq,Option.isSome_map]
 unfold zD storedH;rw[e];by_cases q:(atKey xs k).isSome=true
 .rw[jA q,jA q];show r.repl k D
 .rw[fA q,fA q];show Paired.snoc r (rfl,J,D)
theorem KT.keeps {H H':Hp} {kvs:!(!Key×V)} {xs:!(!Key×Addr×Value)} (r:KT H kvs xs) (D:∀b ys,H b>(.tup ys)->H' b>(.tup ys)):KT H' kvs xs:=
 Paired.mapP r λο ο q=>(q.1,D _ _ q.2.1,q.2.2)
section
variable {P:Program} {w:World} {H:Hp} {h:Heap} {a:Addr}
theorem WJ {u:HO} (ok:IE P w H h) (e:Rd H a u):wD P w H h a u:=e.ok ok
theorem mI {kvs:!(Key×V)} (ok:IE P w H h) (e:Rd H a (.dK kvs)):kvs.length<=sizeLine/\(a == sysModules)=false/\∃vs,KV kvs vs/\h.DictOf (fD P w) a vs:=
 show wD P w H h a (.dK kvs) from WJ ok e
theorem DQ {kvs:!(Key×V)} (ok:IE P w H h) (e:H a>(.dK kvs)):kvs.length<=sizeLine/\(a == sysModules)=false/\∃vs,KV kvs vs/\h.DictOf (fD P w) a vs:=mI ok (.inl e)
theorem bJ {ks:!Key} (ok:IE P w H h) (e:H a>(.tup (ks.map kV))):(tupleKind (fD P w)).is h ks a:=by
 let(_,D,r,o,h1,h2,n,q):=(show wD P w H h a (.tup (ks.map kV)) from ok a _ e)
 show(o,D.toArray,n,h1,h2,q,by simpa using VZ r)
theorem EL {kvs:!(!Key×V)} (ok:IE P w H h) (e:Rd H a (.dT kvs)):kvs.length<=sizeLine/\(a == sysModules)=false/\
  ∃xs,KT H kvs xs/\h.DictOfH (tupleKind (fD P w)) a xs:=by
 let(O,N,xs,r,o,es,ep,h1,h2,F,J,L):=(show wD P w H h a (.dT kvs) from WJ ok e)
 show(O,N,xs,r,o,es,ep,h1,h2,F,J,λx D=>?_,L);let all:∀{l:!(!Key×V)} {m:!(!Key×Addr×Value)},KT H l m->∀x∈m,(tupleKind (fD P w)).is h x.1 x.2.1:=by
  intro l m q
  induction q with
  |nil=>intro x D;show nomatch D
  |@cons p q ps qs hq t ih=>
   intro x D;let e||D:=uA.mp D
   .subst e;show bJ ok (by rw[<-hq.1];show hq.2.1)
   .show ih x D
 show all r x D
theorem XJ {kvs:!(!Key×V)} (ok:IE P w H h) (e:H a>(.dT kvs)):kvs.length<=sizeLine/\(a == sysModules)=false/\
 ∃xs,KT H kvs xs/\h.DictOfH (tupleKind (fD P w)) a xs:=EL ok (.inl e)
end
def UE (H:Hp) (a:Addr) (y:V) (r:Option V):Prop:=
 (∃kvs k,Rd H a (.dK kvs)/\y=kV k/\r=SC kvs k)\/∃kvs k b,Rd H a (.dT kvs)/\y=.ref b/\H b>(.tup (k.map kV))/\r=SC kvs k
def BH (H:Hp) (a:Addr) (y v:V) (H':Hp):Prop:=
 (∃kvs k,H a>(.dK kvs)/\y=kV k/\kvs.length < sizeLine/\H'=FC H a (.dK (zD kvs k v)))\/
 ∃kvs k b,H a>(.dT kvs)/\y=.ref b/\H b>(.tup (k.map kV))/\kvs.length < sizeLine/\H'=FC H a (.dT (zD kvs k v))
theorem UE.k {H:Hp} {a:Addr} {kvs:!(Key×V)} {k:Key} (e:H a>(.dK kvs)):UE H a (kV k) (SC kvs k):=.inl (kvs,k,.inl e,rfl,rfl)
theorem UE.t {H:Hp} {a b:Addr} {kvs:!(!Key×V)} {k:!Key} (e:H a>(.dT kvs)) (q:H b>(.tup (k.map kV))):UE H a (.ref b) (SC kvs k):=.inr (kvs,k,b,.inl e,rfl,q,rfl)
theorem BH.k {H:Hp} {a:Addr} {kvs:!(Key×V)} {k:Key} {v:V} (e:H a>(.dK kvs)) (q:kvs.length < sizeLine):BH H a (kV k) v (FC H a (.dK (zD kvs k v))):=.inl (kvs,k,e,rfl,q,rfl)
theorem BH.t {H:Hp} {a b:Addr} {kvs:!(!Key×V)} {k:!Key} {v:V} (e:H a>(.dT kvs)) (q:H b>(.tup (k.map kV))) (D:kvs.length < sizeLine):
 BH H a (.ref b) v (FC H a (.dT (zD kvs k v))):=.inr (kvs,k,b,e,rfl,q,D,rfl)
section
variable {X:Cx} {pins:!(Addr×Obj)} {σ:St} {H:Hp} {s:Shared} {a:Addr} {y v:V} {u r:Value} {o:Option V} {A:Around} {E:Value->Shared->Prop}
theorem HC.big (I:HC X pins σ H s):sysModules < s.heap.objs.size:=by
 let h:mainGlobals < s.heap.objs.size:=(I.mod.glob.keeps I.bk).lt;show Nat.lt_trans (by decide) h
theorem Pa {Q:Value->Shared->Prop} (Y:A.units+1 < cLine) (D:HC X pins σ H s) (g:UE H a y (some v)) (O:KC y u) (h:∀q s',HC X pins σ H s'->KC v q->Q q s'):
  wpAny (model X.prog X.w) A (getItem (.ref a) u) Q E s:=by
 let(kvs,k,e,F,l)||(kvs,k,b,e,F,U,l):=g
 .subst F;let(Z,hd,vs,L,dd):=mI D.hok e;let(q,J,N):=wE.some_of (v:=v) (o:=valueAt vs k) (by rw[l];show L.val k);show wpAny_getItem_of (VJ O) dd.mapOf J (h q _ (D.tok _) N)
 .subst F;cases (show u=Value.ref b from O);let(Z,hd,xs,L,dd):=EL D.hok e;let(q,J,N):=wE.some_of (v:=v) (o:=(atKey xs k).map (·.2)) (by rw[l];show L.val k);let(p,V,W):=cB.mp J;show wpAny_getItem_heap (tupleKind_room_in1 Y) (bJ D.hok U) dd V ?_;rw[W];show h q _ (D.tok _) N
theorem mS {Q:Value->Shared->Prop} (O:A.units+1 < cLine) (D:HC X pins σ H s) (g:UE H a y o) (L:KC y u) (h:∀s',HC X pins σ H s'->Q (.bool o.isSome) s'):
  wpAny (model X.prog X.w) A (compareOp .In u (.ref a)) Q E s:=by
 let(kvs,k,e,F,l)||(kvs,k,b,e,F,N,l):=g
 .subst F;let(U,hd,vs,J,dd):=mI D.hok e;show wpAny_in_of (VJ L) hd dd.mapOf ?_;rw[<-(J.val k).isSome_eq,<-l];show h _ (D.tok _)
 .subst F;cases (show u=Value.ref b from L);let(U,hd,xs,J,dd):=EL D.hok e;show wpAny_in_heap (tupleKind_room_in1 O) (bJ D.hok N) hd dd ?_;let q:=(J.val k).isSome_eq;rw[Option.isSome_map] at q;rw[<-q,<-l];show h _ (D.tok _)
theorem Qa {Q:Value->Shared->Prop} (O:A.units+1 < cLine) (D:HC X pins σ H s) (g:UE H a y o) (L:KC y u) (h:∀s',HC X pins σ H s'->Q (.bool (not o.isSome)) s'):
  wpAny (model X.prog X.w) A (compareOp .NotIn u (.ref a)) Q E s:=by
 let(kvs,k,e,F,l)||(kvs,k,b,e,F,N,l):=g
 .subst F;let(U,hd,vs,J,dd):=mI D.hok e;show wpAny_notIn_of (VJ L) hd dd.mapOf ?_;rw[<-(J.val k).isSome_eq,<-l];show h _ (D.tok _)
 .subst F;cases (show u=Value.ref b from L);let(U,hd,xs,J,dd):=EL D.hok e;show wpAny_notIn_heap (tupleKind_room_in1 O) (bJ D.hok N) hd dd ?_;let q:=(J.val k).isSome_eq;rw[Option.isSome_map] at q;rw[<-q,<-l];show h _ (D.tok _)
theorem wO {h':Heap} {t':Nat} {D:HO} (F:HC X pins σ H s) (O:qN (H a)) (N:Heap.SameBut a s.heap h') (L:∃q,h'.get? a>q) (new:wD X.prog X.w (FC H a D) h' a D):
  HC X pins σ (FC H a D) {s with heap:=h',toks:=t'}:=
 F.write (x:=a) (e:=a) O (.inl rfl) (λb q J U=>(N.2 b J).trans U) L new
theorem EQ {P:Program} {w:World} {H':Hp} {h':Heap} {kvs:!(Key×V)} {vs:!(Key×Value)} (D:kvs.length<=sizeLine) (hd:(a == sysModules)=false) (q:KV kvs vs) (dd:h'.DictOf (fD P w) a vs):
 wD P w H' h' a (.dK kvs):=(D,hd,vs,q,dd)
theorem Ra {H':Hp} {Q:Unit->Shared->Prop} (a6:A.units+1 < cLine) (D:HC X pins σ H s) (g:BH H a y v H') (a1:KC y u) (a0:KC v r) (h:∀s',HC X pins σ H' s'->Q ⟨⟩ s'):
  wpAny (model X.prog X.w) A (setItem (.ref a) u r) Q E s:=by
 let(kvs,k,e,U,l,O)||(kvs,k,b,e,U,Y,l,O):=g
 .subst U O;let(J,hd,vs,F,dd):=DQ D.hok e;let hz:vs.length<=sizeLine:=by rw[<-F.length];show J
  let V:(zD kvs k v).length<=sizeLine:=by have:=DL kvs k v;omega
  show wpAny_setItem_pairs (hsz:=hz) (VJ a1) dd λh' L W=>h _ ?_;let a5:∃q,h'.get? a>q:=let ⟨q,_,_,N,_⟩:=L;⟨q,N⟩
  show wO D (by rw[e];show True.intro) W a5 (EQ V hd (F.put k a0) L)
 .subst U O;cases (show u=Value.ref b from a1);let(J,hd,xs,F,dd):=XJ D.hok e;let hz:xs.length<=sizeLine:=by rw[<-Paired.length F];show J
  let V:(zD kvs k v).length<=sizeLine:=by have:=DL kvs k v;omega
  show wpAny_setItem_heap (hsz:=hz) (tupleKind_room_in1 a6) (bJ D.hok Y) dd λh' L W=>h _ ?_;let(q,es,ep,N,h2,a2,a3,_,a4):=L;show wO D (by rw[e];show True.intro) W ⟨q,N⟩ (V,hd,_,(F.put k Y a0).keeps λc ys Z=>?_,q,es,ep,N,h2,a2,a3,a4);rw[VC (cD Z e nofun)];show Z
end
section
variable {X:Cx} {pins:!(Addr×Obj)} {σ:St} {H:Hp} {s:Shared} {a:Addr} {kvs:!(Key×V)} {k:Key} {u:Value} {A:Around} {E:Value->Shared->Prop}
theorem xO {v:V} {more:!Value} {Q:Value->Shared->Prop} (L:HC X pins σ H s) (e:H a>(.dK kvs)) (J:KC (kV k) u) (l:SC kvs k>v) (O:more=[]\/∃x,more=[x])
  (h:∀D s',HC X pins σ (FC H a (.dK (DD kvs k))) s'->KC v D->Q D s'):wpAny (model X.prog X.w) A (call (.builtin "dict.pop") (.ref a::u::more)) Q E s:=by
 let(U,hd,vs,F,dd):=DQ L.hok e;let(D,a1,a2):=wE.some_of (v:=v) (o:=valueAt vs k) (by rw[<-l];show F.val k);let Z:(keyPart u).isSome=true:=by
  cases k with
  |inl i=>let(t,q):=(show ∃t,u=Value.int i t from J);subst q;rfl
  |inr x=>let(t,q):=(show ∃t,u=Value.str x t from J);subst q;rfl
 let W:argsOk "dict.pop" ⟨.ref a::u::more,[]⟩:=by
  let q||(x,q):=O
  .subst q;show PySem.F.args_dict_pop_2 _ _
  .subst q;show PySem.F.args_dict_pop_3 _ _ _
 show call_meetsIn PySem.F.slot_dict_pop dd.typeIs PySem.F.entry_dict_pop W (meets_dict_pop_there (fD X.prog X.w) a (VJ J) more O Z)
  (vs,D,dd,by rw[<-F.length];show U,a1,λh' N a0=>h D _ ?_ a2)
 let Y:∃q,h'.get? a>q:=let ⟨q,_,_,hq,_⟩:=N;⟨q,hq⟩
 show wO L (by rw[e];show True.intro) a0 Y (EQ (zB (Oa kvs k) U) hd (F.drop k) N)
theorem yO {Q:Value->Shared->Prop} (q:HC X pins σ H s) (e:Rd H a (.dK kvs)) (h:∀t s',HC X pins σ H s'->Q (.int kvs.length t) s'):wpAny (model X.prog X.w) A (call (.builtin "len") [.ref a]) Q E s:=by
 let(F,hd,vs,D,dd):=mI q.hok e;show call_len_dict hd dd (by rw[<-D.length];rw[sizeLine_eq] at F;omega) ?_;rw[<-D.length];show h _ _ (q.tok _)
end
def FL (i:Expr):Prop:=∀ov iv,subscripted i false ov iv=operate [ov,iv] (getItem ov iv)
theorem WZ {prog:Program} {w:World} {A:Around} {E:Value->Shared->Prop} {s:Shared} {env:Env} {L q:Expr} {pos:Pos} {T id:String} {Q:Value->Shared->Prop}
  (V:typeLookup (.type T) "__getitem__"=pure (some (.builtin id))) (W:FL q)
  (h:wpAny (model prog w) A (eval L env) (λo O=>wpAny (model prog w) A (eval q env) (λi D=>D.TypeIs o T/\wpAny (model prog w) A (getItem o i) Q E D) E O) E s):
  wpAny (model prog w) A (eval (.Subscript L q pos) env) Q E s:=by
 show Subscript_ (pB h (λo O Y=>pB Y (λi D J=>?_) λο ο x=>x) λο ο x=>x);let(N,J):=J;unfold subscriptTail;show dA ?_;rw[getitemInPython_of_ne N.not_modules];show dA (wpAny_specialOf N V ?_);let F:wpAny (model prog w) A (subscripted q false o i) (λr U=>wpAny (model prog w) A (letTemporaryGo L o r >>= λο=>pure r) Q E U) E D:=by
  rw[W o i];show wpAny_operating (pB J (λr U Z=>dA (wpAny_letTemporaryGo (wA Z))) λο ο x=>x)
 first
  |exact wA (dA F)
  |exact dA (wA (dA F))
  |exact dA F
theorem Sa {X:Cx} {D:!(Addr×Obj)} {J:St} {H:Hp} {s:Shared} {a:Addr} {F:V} {o:Option V} (q:HC X D J H s) (g:UE H a F o):s.TypeIs (.ref a) "dict":=by
 let(kvs,k,e,_,_)||(kvs,k,b,e,_,_,_):=g
 .let(_,_,vs,_,dd):=mI q.hok e;show dd.typeIs
 .let(_,_,xs,_,dd):=EL q.hok e;show dd.typeIs
def eE (td ty:TE):TE:=λσ H Q=>td σ H λx H1=>ty σ H1 λy H2=>∃a v,x=.ref a/\UE H2 a y (some v)/\Q v H2
def GL (ty td:TE):TE:=λσ H Q=>ty σ H λy H1=>td σ H1 λx H2=>∃a o,x=.ref a/\UE H2 a y o/\Q (.bl o.isSome) H2
def jF (ty td:TE):TE:=λσ H Q=>ty σ H λy H1=>td σ H1 λx H2=>∃a o,x=.ref a/\UE H2 a y o/\Q (.bl (not o.isSome)) H2
def kE (td ty tv:TE):TS:=λD σ H=>tv σ H λv H1=>td σ H1 λx H2=>ty σ H2 λy H3=>∃a H4,x=.ref a/\BH H3 a y v H4/\D.nx σ H4
section
variable {X:Cx} {o i e value:Expr} {pos pos' tpos:Pos} {td ty tv:TE}
theorem FF (W:X.A.units+1 < cLine) (ho:PE X o td) (hi:PE X i ty) (V:FL i):PE X (.Subscript o i pos) (eE td ty):=by
 intro D s F H Q N h;show WZ PySem.F.slot_dict_getitem.lookup V (kD (ho D s F H _ N h) λu a3 ⟨x,J,O,a1,Y⟩=>kD (hi D a3 F J _ O Y) λa5 a6 a4=>?_);let(a9,L,q,a2,a,v,ex,g,Z):=a4;subst ex;obtain rfl:u=Value.ref a:=a1;show⟨Sa q g,Pa W q g a2 λa8 a7 U a0=>(v,L,U,a0,Z)⟩
theorem XZ (V:X.A.units+1 < cLine) (hi:PE X i ty) (ho:PE X o td):PC X .In i o (GL ty td):=by
 intro q s D H Q L h;show kD (hi q s D H _ L h) λa4 a2 ⟨a7,F,N,a1,Y⟩=>kD (ho q a2 D F _ N Y) λu a5 a3=>?_;let(x,J,O,a0,a,W,ex,g,Z):=a3;subst ex;obtain rfl:u=Value.ref a:=a0;show mS V O g a1 λa6 U=>(.bl W.isSome,J,U,rfl,Z)
theorem FQ (V:X.A.units+1 < cLine) (hi:PE X i ty) (ho:PE X o td):PC X .NotIn i o (jF ty td):=by
 intro q s D H Q L h;show kD (hi q s D H _ L h) λa4 a2 ⟨a7,F,N,a1,Y⟩=>kD (ho q a2 D F _ N Y) λu a5 a3=>?_;let(x,J,O,a0,a,W,ex,g,Z):=a3;subst ex;obtain rfl:u=Value.ref a:=a0;show Qa V O g a1 λa6 U=>(.bl (not W.isSome),J,U,rfl,Z)
theorem gH (Z:X.A.units+1 < cLine) (ho:PE X o td) (hi:PE X i ty) (a0:PE X value tv) (Y:swapsWith value (some (.Subscript o i pos')) pos.line X.env=pure false):
  PS X (.Assign [.Subscript o i pos'] value pos) (kE td ty tv):=by
 intro D s q H ab N h;show wpAny_Assign_Subscript (kD (a0 D s q H _ N h) λr a7 ⟨v,F,O,a4,a1⟩=>kD (ho D a7 q F _ O a1) λu a8 ⟨x,J,U,a5,a2⟩=>kD (hi D a8 q J _ U a2) λad ah a9=>?_) Y;let(ap,ac,V,a6,a,L,ex,g,a3):=a9;subst ex;obtain rfl:u=Value.ref a:=a5;show Ra Z V g a6 a4 λao W=>(q,L,W,a3)
end
theorem YZ {P:Program} {w:World} {H:Hp} (h:Heap) (q:sysModules < h.objs.size):wD P w H (h.push {cls:=.type "dict",data:=.dict #[]}) h.objs.size (.dK []):=
 (vC _,SB.mpr (Ne.symm (YA q)),[],.nil,Heap.DictOf.new h)
theorem Ta {P:Program} {w:World} {H:Hp} (h:Heap) (q:sysModules < h.objs.size):wD P w H (h.push {cls:=.type "dict",data:=.dict #[]}) h.objs.size (.dT []):=
 (vC _,SB.mpr (Ne.symm (YA q)),[],.nil,_, #[],0,SA _ rfl,(rfl,rfl,rfl),rfl,rfl,List.nodup_nil)
def tDNewK:TE:=λο H Q=>∀p,H p=none->Q (.ref p) (FC H p (.dK []))
def tDNewT:TE:=λο H Q=>∀p,H p=none->Q (.ref p) (FC H p (.dT []))
section
variable {X:Cx} {pos:Pos}
theorem YJ:PE X (.Dict [] [] pos) tDNewK:=λF s J H Q D h=>
 wpAny_Dict_empty (.ref s.heap.objs.size,_,D.laid (a:=s.heap.objs.size) (o:=.dK []) (t':=s.toks) (λο ο q=>zA _ q) (yA _) (YZ s.heap D.big),rfl,h _ (D.hok.fresh (yA _)))
theorem Ua:PE X (.Dict [] [] pos) tDNewT:=λF s J H Q D h=>
 wpAny_Dict_empty (.ref s.heap.objs.size,_,D.laid (a:=s.heap.objs.size) (o:=.dT []) (t':=s.toks) (λο ο q=>zA _ q) (yA _) (Ta s.heap D.big),rfl,h _ (D.hok.fresh (yA _)))
end
def wG:!(TE×TE)->St->Hp->(!(V×V)->Hp->Prop)->Prop
 |[],_,H,Q=>Q [] H
 |(tk,tv)::r,σ,H,Q=>tk σ H λx H1=>tv σ H1 λy H2=>wG r σ H2 λps H3=>Q ((x,y)::ps) H3
abbrev VV:!(V×V)->!(Value×Value)->Prop:=Paired λp q=>KC p.1 q.1/\KC p.2 q.2
def zO (X:Cx) (pos:Pos) (keys:!(Option Expr)) (values:!Expr) (trs:!(TE×TE)):Prop:=
 ∀(pins:!(Addr×Obj)) (s:Shared) (σ:St) (H:Hp) (Q:!(V×V)->Hp->Prop),HC X pins σ H s->wG trs σ H Q->
  wpAny (model X.prog X.w) X.A (evalPairs (pairTrees keys values X.env pos)) (λvs s'=>∃ps H',HC X pins σ H' s'/\VV ps vs/\Q ps H') X.xe s
theorem Va {X:Cx} {pos:Pos}:zO X pos [] [] []:=λD s F H Q q h=>pairTrees_nil_walk ([],H,q,.nil,h)
theorem Wa {X:Cx} {pos:Pos} {k v:Expr} {ks:!(Option Expr)} {vs:!Expr} {F L:TE} {J:!(TE×TE)} (hk:PE X k F) (a1:PE X v L) (a0:zO X pos ks vs J):
  zO X pos (some k::ks) (v::vs) ((F,L)::J):=λq s D H Q V h=>
 pairTrees_cons_walk (kD (hk q s D H _ V h) λu a9 ⟨x,N,W,a7,a3⟩=>kD (a1 q a9 D N _ W a3) λah ab ⟨ac,O,Y,a8,a4⟩=>
  kD (a0 q ab D O _ Y a4) λao ad ⟨a2,U,Z,a6,a5⟩=>((x,ac)::a2,U,Z,.cons ⟨a7,a8⟩ a6,a5))
def zF (kvs more:!(Key×V)):!(Key×V):=more.foldl (λacc kv=>zD acc kv.1 kv.2) kvs
theorem KV.merge:∀{more:!(Key×V)} {rs:!(Key×Value)} {kvs:!(Key×V)} {vs:!(Key×Value)},KV more rs->KV kvs vs->KV (zF kvs more) (merged vs rs):=by
 intro more rs kvs vs r;unfold KV at r
 induction r generalizing kvs vs with
 |nil=>intro q;show q
 |@cons p q ps qs h t ih=>
  intro D;let e:KV (zD kvs p.1 p.2) (stored vs q.1 q.2):=by
   have:=D.put p.1 h.2;rw[<-h.1];show this
  show ih e
theorem ZZ:∀(more kvs:!(Key×V)),(zF kvs more).length<=kvs.length+more.length
 |[],kvs=>by change kvs.length<=kvs.length+0;omega
 |p::r,kvs=>by
  let h1:=ZZ r (zD kvs p.1 p.2);let h2:=DL kvs p.1 p.2;change (zF (zD kvs p.1 p.2) r).length<=_;rw[dB];omega
theorem i0 {P:Program} {w:World}:∀{kvs:!(Key×V)} {ws:!(Value×Value)},VV (kvs.map λkv=>(kV kv.1,kv.2)) ws->∃rs,Carries (fD P w) ws rs/\KV kvs rs
 |[],_,r=>by rw[IB] at r;cases r;show([],True.intro,.nil)
 |p::kvs,_,r=>by
  rw[BA] at r;cases r with
  |@cons a b as bs h t=>
   let(rs,c,q):=i0 (P:=P) (w:=w) t;let(b1,b2):=b;show((p.1,b2)::rs,(VJ h.1,rfl,c),.cons ⟨rfl,h.2⟩ q)
def nI (trs:!(TE×TE)):TE:=λσ H Q=>∀p,H p=none->wG trs σ (FC H p (.dK [])) λps H2=>H2 p>(.dK [])/\∃kvs:!(Key×V),ps=kvs.map (λkv=>(kV kv.1,kv.2))/\kvs.length<=15/\Q (.ref p) (FC H2 p (.dK (zF [] kvs)))
theorem Xa {X:Cx} {pos:Pos} {keys:!(Option Expr)} {F:!Expr} {N:!(TE×TE)} (h:zO X pos keys F N) (V:keys.all (·.isSome)=true) (Y:keys.length=F.length) (h0:keys≠[])
  (U:keys.length<=15):PE X (.Dict keys F pos) (nI N):=by
 intro a1 s a7 H Q D q;let Z:=D.hok.fresh (yA s.heap.objs.size);let O:=D.laid (a:=s.heap.objs.size) (o:=.dK []) (h':=s.heap.push {cls:=.type "dict",data:=.dict #[]}) (t':=s.toks) (λο ο q=>zA _ q) (yA _) (YZ s.heap D.big);show wpAny_Dict_walk (knd:=fD X.prog X.w) V Y h0 U (kD (h a1 _ a7 _ _ O (q _ Z)) λah ac a6=>?_);let(ab,a8,J,a4,e,kvs,ep,a9,a2):=a6;subst ep;let(rs,c,a5):=i0 (P:=X.prog) (w:=X.w) a4;let(ao,hd,ad,a3,dd):=DQ J.hok e;cases a3;show(rs,c,dd,λh' L a0=>(.ref s.heap.objs.size,_,?_,rfl,a2));let hz:(zF [] kvs).length<=sizeLine:=by
  let h1:=ZZ kvs [];rw[List.length_nil] at h1;rw[sizeLine_eq];omega
 let W:∃q,h'.get? s.heap.objs.size>q:=let ⟨q,_,_,hq,_⟩:=L;⟨q,hq⟩
 show wO J (by rw[e];show True.intro) a0 W (EQ hz hd (a5.merge .nil) L)
structure M1 (X:Cx) (o:Expr) (m:Str) (apos:Pos) (e:Expr) (cpos:Pos):Prop where
 base:attributeBase o m X.env (eval o X.env)=eval o X.env
 few:((backTo cpos (starEach [e] X.env)).all (λx=> not x.1)&&(backToKw cpos (keywordEach [] X.env)).all (λx=>x.1.isSome)
  &&decide (([e]:!Expr).length+([]:!Keyword).length+(if ([]:!Keyword).isEmpty then 0 else 1) < 30))=true
 line:(apos.endLine == cpos.line)=true
 trees:backTo cpos (starEach [e] X.env)=[(false,eval e X.env)]
structure M2 (X:Cx) (o:Expr) (m:Str) (apos:Pos) (e f:Expr) (cpos:Pos):Prop where
 base:attributeBase o m X.env (eval o X.env)=eval o X.env
 few:((backTo cpos (starEach [e,f] X.env)).all (λx=> not x.1)&&(backToKw cpos (keywordEach [] X.env)).all (λx=>x.1.isSome)
  &&decide (([e,f]:!Expr).length+([]:!Keyword).length+(if ([]:!Keyword).isEmpty then 0 else 1) < 30))=true
 line:(apos.endLine == cpos.line)=true
 trees:backTo cpos (starEach [e,f] X.env)=[(false,eval e X.env),(false,eval f X.env)]
def GQ (H:Hp) (a:Addr):Prop:=(∃kvs,Rd H a (.dK kvs))\/∃kvs,Rd H a (.dT kvs)
theorem nS {X:Cx} {L:!(Addr×Obj)} {N:St} {H:Hp} {s:Shared} {a:Addr} (F:HC X L N H s) (J:GQ H a):
  s.TypeIs (.ref a) "dict"/\(∀b,Value.ref a=.ref b->∃D,s.heap.get? b>D/\D.dict=none)/\(a == sysModules)=false:=by
 let(kvs,e)||(kvs,e):=J
 .let(_,hd,vs,_,dd):=mI F.hok e;show(dd.typeIs,λb q=>?_,hd);cases q;let(D,_,_,h1,h2,_):=dd;show(D,h1,h2.2.1)
 .let(_,hd,xs,_,dd):=EL F.hok e;show(dd.typeIs,λb q=>?_,hd);cases q;let(D,_,_,h1,h2,_):=dd;show(D,h1,h2.2.1)
section
variable {X:Cx} {pins:!(Addr×Obj)} {σ:St} {H:Hp} {s:Shared} {a:Addr} {y d:V} {u r:Value} {o:Option V} {A:Around} {E:Value->Shared->Prop}
theorem HL {Q:Value->Shared->Prop} (O:A.units+1 < cLine) (q:HC X pins σ H s) (g:UE H a y o) (J:KC y u) (h:∀L s',HC X pins σ H s'->KC (o.getD .non) L->Q L s'):
  wpAny (model X.prog X.w) A (call (.builtin "dict.get") [.ref a,u]) Q E s:=by
 let(kvs,k,e,D,l)||(kvs,k,b,e,D,N,l):=g
 .subst D;let(U,hd,vs,F,dd):=mI q.hok e;show call_meetsIn PySem.F.slot_dict_get dd.typeIs PySem.F.entry_dict_get (PySem.F.args_dict_get_2 _ _) (meets_dict_get (fD X.prog X.w) a (VJ J) hd) (_,dd.mapOf,h _ _ (q.tok _) ?_);rw[l];show (F.val k).getD rfl
 .subst D;cases (show u=Value.ref b from J);let(U,hd,xs,F,dd):=EL q.hok e;show call_meetsIn PySem.F.slot_dict_get dd.typeIs PySem.F.entry_dict_get (PySem.F.args_dict_get_2 _ _) (meetsH_dict_get (tupleKind (fD X.prog X.w)) a b hd) (tupleKind_room_in1 O,k,xs,bJ q.hok N,dd,h _ _ (q.tok _) ?_);rw[l];show (F.val k).getD rfl
end
def oI (td ty:TE):TE:=λσ H Q=>td σ H λx H1=>∃a,x=.ref a/\GQ H1 a/\ty σ H1 λy H2=>∃o,UE H2 a y o/\Q (o.getD .non) H2
def AF (td ty:TE):TE:=λσ H Q=>td σ H λx H1=>∃a,x=.ref a/\GQ H1 a/\ty σ H1 λy H2=>∃kvs k v,H2 a>(.dK kvs)/\y=kV k/\SC kvs k>v/\Q v (FC H2 a (.dK (DD kvs k)))
section
variable {X:Cx} {o e f:Expr} {apos cpos:Pos} {td ty tx:TE}
theorem Za (Y:X.A.units+1 < cLine) (ho:PE X o td) (W:PE X e ty) (m:M1 X o "get" apos e cpos):PE X (.Call (.Attribute o "get" apos) [e] [] cpos) (oI td ty):=by
 intro D s F H Q N h;show wpAny_Call_method m.base m.few m.line PySem.F.plainAttrs_dict PySem.F.slot_dict_get PySem.F.type_dict_get (kD (ho D s F H _ N h) λu a4 a7=>?_);let(x,J,q,a2,a,ex,V,Z):=a7;subst ex;obtain rfl:u=Value.ref a:=a2;let(a5,a6,_):=nS q V;show(a5,a6,?_);rw[m.trees];show MB rfl (Calls.evalArgs_plain (Calls.spliced_cons (kD (W D a4 F J _ q Z) λa8 ab ⟨ah,L,O,a3,a9,g,a0⟩=>Calls.spliced_nil ?_)));show HL Y O g a3 λad ac U a1=>(_,L,U,a1,a0)
theorem IL (ho:PE X o td) (Y:PE X e ty) (m:M1 X o "pop" apos e cpos):PE X (.Call (.Attribute o "pop" apos) [e] [] cpos) (AF td ty):=by
 intro D s F H Q L h;show wpAny_Call_method m.base m.few m.line PySem.F.plainAttrs_dict PySem.F.slot_dict_pop PySem.F.type_dict_pop (kD (ho D s F H _ L h) λu a4 a7=>?_);let(x,J,q,a2,a,ex,U,Z):=a7;subst ex;obtain rfl:u=Value.ref a:=a2;let(a5,a6,_):=nS q U;show(a5,a6,?_);rw[m.trees];show MB rfl (Calls.evalArgs_plain (Calls.spliced_cons (kD (Y D a4 F J _ q Z) λa9 ab ⟨ah,a8,N,a3,kvs,k,v,V,W,l,a0⟩=>Calls.spliced_nil ?_)));subst W;show xO N V a3 l (.inl rfl) λad ac O a1=>(v,_,O,a1,a0)
end
section
variable {X:Cx} {pins:!(Addr×Obj)} {σ:St} {H:Hp} {s:Shared} {a:Addr} {kvs:!(Key×V)} {A:Around} {E:Value->Shared->Prop}
theorem cb {Q:Value->Shared->Prop} (D:HC X pins σ H s) (e:Rd H a (.dK kvs)) (h:∀p s',H p=none->HC X pins σ (FC H p (.dK kvs)) s'->Q (.ref p) s'):wpAny (model X.prog X.w) A (call (.type "dict") [.ref a]) Q E s:=by
 let(L,hd,vs,J,dd):=mI D.hok e;show kt_call_dict hd dd (by rw[<-J.length];show L) λh' N O=>?_;show h _ _ (D.hok.fresh (yA _)) (D.laid (a:=s.heap.objs.size) (o:=.dK kvs) (t':=s.toks) (λb q F=>?_) (yA _) (EQ L (SB.mpr (Ne.symm (YA D.big))) J N));show (O.2 b (YA (JA F))).trans (zA _ F)
end
section
variable {X:Cx} {pins:!(Addr×Obj)} {σ:St} {H:Hp} {s:Shared} {a:Addr} {y:V} {u:Value} {A:Around} {E:Value->Shared->Prop}
end
end L2
namespace Att
open PySem PySem.W PySem.Calls PyProof.Rows
theorem db {P:Params} {h:Heap}:∀(ns:!Int) (vs:!Value),WellAll P h vs (ns.map WData.int)->IntsAre vs ns:=by
 intro ns
 induction ns with
 |nil=>
  intro vs w;rw[IB] at w;cases w;show .nil
 |cons n ns q=>
  intro vs w;rw[BA] at w;cases w with
  |cons a b=>
   cases a;show .cons _ _ (q _ b)
theorem fb {l:OpenLaw} {n:Nat} (W:l.most>n) {P:Params} {h:Heap} {args:!WData} {N:!Value}
  (L:l.row.toRowW.claim.pre args=true) (Z:WellAll P h N args):
  ∃a vs ns,N=[Value.ref a]/\args=[WData.list (ns.map WData.int)]/\h.get? a>{cls:=.type "list",data:=.seq vs.toArray}/\IntsAre vs ns/\ns.length<=n:=by
 let Y:WShape.hasAll [] args [.list .int]=true:=(pre_splitW L).1;let J:l.pre.holds [] {args:=args}=true:=(pre_splitW L).2;let(a3,r,rfl,h1,h2):=hasAllW_cons Y;obtain rfl:=hasAllW_nil h2;let(xs,rfl,O):=hasW_list h1;let(ns,rfl):=items_int O;let V:ns.length<=n:=by
  unfold OpenLaw.pre at J;let D:(WTm.not (.lt (.lit (.int (n:Int))) (.len (.arg 0)))).holds [] {args:=[.list (ns.map .int)]}=true:=by
   let D:=(holds_andW J).1;rw[W] at D;show D
  let F:=condW_of D (w_not (w_lt w_lit (w_len_list (w_arg rfl))));rw[iA] at F;show Nat.le_of_not_lt λq=>?_;let a0:(n:Int) < ((ns.length:Nat):Int):=⋯
  first
   |(rw[pA a0] at F;show absurd F (by decide))
   |(simp at F;omega)
 cases Z with
 |cons a1 a2=>
  cases a2;cases a1 with
  |list ho U=>show(_,_,ns,rfl,rfl,ho,db ns _ U,V)
theorem gb (l:OpenLaw) (args:!WData):l.row.toRowW.claim.post args (.bool true) args=true:=
 postW_of (r:=l.row.toRowW) (X:=(true == true))
  (show WShape.has [] (.bool true) .bool=true by first|rfl|decide|simp[WShape.has,WShape.arms,WShape.armsAll])
  (show (WTm.eq .res (.lit (.bool true))).value [] {args:=args,res:=some (.bool true),after:=args}>(.bool (true == true)) from w_eq_bool (w_res rfl) w_lit) rfl
theorem ib {l:OpenLaw} {n:Nat} {q:Program} {loose:!Str} {XP:(Str->Option Value)->Heap->Prop} {YP:World->Heap->Prop} {F:DefRec}
  (a9:l.most>n) (a3:F.params.defaults=[])
  (call:∀(w:World) (U D:Shared) (mg O:Str->Option Value) (J:Addr) (o:Obj) (pm L N:Value) (a:Addr) (vs:!Value) (ns:!Int),
   Ground q loose [] XP w U mg O D.heap->YP w D.heap->
   D.heap.get? J>o->o.data=.func (docDef F.name F.params F.body F.scope pm L N)->D.heap.CodeRec L F.name->mg F.name=↑J->
   D.heap.get? a>{cls:=.type "list",data:=.seq vs.toArray}->IntsAre vs ns->ns.length<=n->D.gens= #[]->
   codeAny (model l.prog w) callerA (.call (.ref J) ⟨[.ref a],[]⟩) (λr s'=>r=.ok (.ret (.bool true))/\OldK D.heap s'.heap/\s'.os=D.os/\AllBare s'.gens) D):
  WalkO q loose XP YP l.row.toRowW F [] (λf vs=>PySem.call f vs):=by
 intro w U D mg O W Y J o pm L N Z kV ho hd a2 V a8 a4 args ar as ac ao aq ah ap;obtain rfl:Z=.none:=Dflts.none V a3;obtain rfl:kV=.none:=Dflts.noKw V;let(a,vs,ns,rfl,rfl,ab,a5,a6):=fb a9 ac ah;show enter_call (codeAny_mono (call w U D mg O J o pm L N a vs ns W Y ho (fd_plain hd) a2 a8 ab a5 a6 a4) λr s' ad=>?_);let(rfl,h2,a0,a1):=ad;show(.inl (.bool true,.bool true,[],rfl,λο=>rfl,.bool true,gb l _,λο=>⟨List.Pairwise.nil,λο a7=>(nomatch a7)⟩),h2,a0,a1)
section
variable {prog:Program} {w:World} {A:Around} {E:Value->Shared->Prop} {s:Shared} {K:Frag}
def ledger (h:Heap) (L d:Addr):!(Addr×Obj):=(List.range h.objs.size).filterMap λa=>if a=L\/a=d then none else (h.get? a).map λo=>(a,o)
end
end Att
namespace L2
open PySem PySem.Spec PyProof.Rows
theorem q0:∀{vs:!Value} {ns:!Int},IntsAre vs ns->OC (ns.map V.int) vs
 |_,_,.nil=>.nil
 |_,_,.cons n t h=>.cons ⟨t,rfl⟩ (q0 h)
def JL (H:Hp):Prop:=∀b,H b=none\/∃o xs,H b>(.frz o (.lst xs))
theorem jb {P:Program} {w:World} {K:PySem.W.Frag} {mg Z:Str->Option Value} {CX:CXT} {k:Nat} {Y a:Addr} {a4:FuncData} {x:Str} {sp:Sp} {D:Shared} {vs:!Value} {ns:!Int}
  (a0:K.In D.heap) (a9:D.heap.Ns mainGlobals mg) (J:D.heap.Ns builtinsNs Z) (ax:∀x:Str,x≠"__name__"->Z x=bootBuiltins x) (b0:D.heap.NoLimit) (az:D.gens= #[])
  (O:D.heap.get? a>{cls:=.type "list",data:=.seq vs.toArray}) (hi:IntsAre vs ns) (a8:ns.length<=sizeLine) (b2:VD k callerA)
  (ad:∀base:Heap,K.In base->base.Ns mainGlobals mg->NF P w K mg base CX k Y a4 [x] sp) (ay:∀(s:Shared) (u:Value),BindsTo s a4 ⟨[u],[]⟩ [(x,u)])
  (b3:∀H:Hp,JL H->pD K H a (ns.map V.int)->sp [.ref a] H (λv ο=>v=.bl true) λο ο ο=>False)
  (ar:∀H e s',CX [] H D (λο ο ο=>False) e s'->False):
  codeAny (model P w) callerA (.call (.ref Y) ⟨[.ref a],[]⟩) (λr s'=>r=.ok (.ret (.bool true))/\OldK D.heap s'.heap/\s'.os=D.os/\AllBare s'.gens) D:=by
 let ac:=q0 hi;let b4:=hi.length;let a2:∀H:Hp,JL H->pD K H a (ns.map V.int)->IE P w H D.heap->(∀b,H b≠none->b=a)->(H a≠none->K.lookup a=none)->
   codeAny (model P w) callerA (.call (.ref Y) ⟨[.ref a],[]⟩) (λr s'=>r=.ok (.ret (.bool true))/\OldK D.heap s'.heap/\s'.os=D.os/\AllBare s'.gens) D:=by
  intro H a7 aw ab a5 au;let a1:∀{b:Addr} {o:Obj},D.heap.get? b>o->H b=none->(qG D.heap H).get? b>o:=λe n=>b9 e n;let b5:∀{b:Addr} {o:Obj} {es:Array DictEntry} {ep:Nat},D.heap.get? b>o->o.data=.dict es ep->H b=none:=λ{b o es ep} e N=>by
   cases q:H b with
   |none=>rfl
   |some u=>
    let W:b=a:=a5 b (by rw[q];simp);subst W;rw[O] at e;cases e;let d':Data.seq vs.toArray _=Data.dict es ep:=N;cases d'
  let U:∀{b:Addr} {m:Str->Option Value},D.heap.Ns b m->(qG D.heap H).Ns b m:=λ{b m} ⟨o,es,ep,e,N,r⟩=>(o,es,ep,a1 e (b5 e N),N,r)
  let a6:K.In (qG D.heap H):=λb o e=>a1 (a0 b o e) (by
   cases q:H b with
   |none=>rfl
   |some u=>
    let W:b=a:=a5 b (by rw[q];simp);subst W;rw[au (by rw[q];simp)] at e;cases e)
  let av:Mod K mg (qG D.heap H):=(a6,U a9,(Z,U J,ax),let ⟨mc,h1,h2⟩:=b0;(mc,U h1,h2))
  let ao:dH P w K mg (qG D.heap H) callerA [] D H:=(rfl,av,λb o e=>f9 e,Nat.le_of_eq (Z8 _ _),trivial,λb J=>absurd (show b∈([]:!Addr) from J) (by simp),ab,.of_eq az)
  show codeAny_mono ((ad _ a6 (U a9)).run callerA [] D H ⟨[.ref a],[]⟩ [.ref a] [.ref a] _ _ b2 ao (ay D (.ref a)) (.cons rfl .nil) (b3 H a7 aw)) λr s' h=>?_;cases r with
  |error e=>show (ar H e s' h).elim
  |ok aq=>
   cases aq with
   |next=>show False.elim h
   |brk=>show False.elim h
   |cont=>show False.elim h
   |ret u=>
    let(v,H',be,ah,un,b1,bi,q):=h;let bh:v=.bl true:=q;subst bh;obtain rfl:u=Value.bool true:=bi;show(rfl,OldK.of_keep λb o e=>?_,be,ah);cases q:H b with
    |none=>show un.keep b o e q (by intro F;show absurd (show b∈([]:!Addr) from F) (by simp)) (by simp)
    |some u=>
     let F||(bb,xs,F):=a7 b
     .rw[q] at F;cases F
     .let z2:=un.frzs b bb _ F;let(a3,_):=ab b _ F;let(ap,_):=b1 b _ z2;rw[e] at a3;cases a3;show ap
 cases hk:K.lookup a with
 |some o=>
  let e:=a0 a o hk;rw[O] at e;cases e;show a2 (λο=>none) (λο=>.inl rfl) (.inr (_,vs.toArray,_,hk,rfl,rfl,rfl,by rw[FA,b4];show a8,by simpa using ac)) (λb u F=>by let L:(none:Option HO)>u:=F;cases L) (λb F=>absurd rfl F) λF=>absurd rfl F
 |none=>
  show a2 (λb=>if b=a then some (.frz {cls:=.type "list",data:=.seq vs.toArray} (.lst (ns.map V.int))) else none) (λb=>?_) (.inl (.inr ⟨{cls:=.type "list",data:=.seq vs.toArray},jA rfl⟩)) (λb u F=>?_) (λb F=>?_) λο=>hk
  .by_cases J:b=a
   .show .inr (_,_,jA J)
   .show .inl (fA J)
  .by_cases J:b=a
   .let L:=(jA J).symm.trans F;cases L;subst J;show(O,by rw[iA];show a8,vs,_,ac,O)
   .let L:=(fA J).symm.trans F;cases L
  .by_cases J:b=a
   .show J
   .show absurd (fA J) F
theorem kb {l:PySem.W.OpenLaw} {n k:Nat} {q:Program} {loose:!Str} {XP:(Str->Option Value)->Heap->Prop} {YP:World->Heap->Prop} {J:DefRec} {K:Params->PySem.W.Frag} {CX:World->CXT} {sp:World->Sp} {x:Str}
  (a8:l.most>n) (a9:n<=sizeLine) (a4:J.params.defaults=[]) (ac:VD k callerA)
  (a2:∀(w:World) (h:Heap),YP w h->(K w.params).In h)
  (U:∀(w:World) (mg:Str->Option Value) (F:Addr) (h:Heap),(K w.params).In h->h.Ns mainGlobals mg->mg J.name=↑F->
   ∃L:FuncData,(∀(s:Shared) (u:Value),BindsTo s L ⟨[u],[]⟩ [(x,u)])/\
    ∀base:Heap,(K w.params).In base->base.Ns mainGlobals mg->NF l.prog w (K w.params) mg base (CX w) k F L [x] (sp w))
  (ad:∀(w:World) (H:Hp) (a:Addr) (ns:!Int),ns.length<=n->JL H->pD (K w.params) H a (ns.map V.int)->sp w [.ref a] H (λv ο=>v=.bl true) λο ο ο=>False)
  (Y:∀(w:World) (H:Hp) (s:Shared) (e:Value) (s':Shared),CX w [] H s (λο ο ο=>False) e s'->False):
  PySem.W.WalkO q loose XP YP l.row.toRowW J [] (λf vs=>PySem.call f vs):=by
 show Att.ib a8 a4 λw au ah mg ar F o pm ao ap a vs ns D W ho hd aq a7 ab a6 O a5=>?_;let N:=a2 w _ W;let(L,a3,Z):=U w mg F _ N D.T.g a7;show jb N D.T.g D.T.b D.T.builtins D.T.nolimit a5 ab a6 (zB O a9) ac Z a3 (λH a0 a1=>ad w H a ns O a0 a1) λH e s'=>Y w H ah e s'
abbrev O0:CXT:=λο ο ο ο ο ο=>False
structure iH (K:PySem.W.Frag) (x qual:Str) (st:Stmt) (f:Addr) (fd:FuncData):Prop where
 ex:∃(oc:Value) (od:Option Addr) (kV doc pm:Value) (an:Option Addr) (cdv ct:Value) (osl:Array (Option Value)),
  fd=PySem.W.fnOf x qual (iD st) (dD st) (AC st) .none kV doc pm an cdv ct/\K.lookup f>(oc,od,.func fd,osl)/\PySem.W.codeIn K cdv qual=true
 kp:PySem.W.keepIn K (.ref f)=true
section
variable {P:Program} {w:World} {K:PySem.W.Frag} {mg:Str->Option Value} {base:Heap}
theorem iH.ok {x L:Str} {st:Stmt} {f:Addr} {O:FuncData} {N J:!Str} {k:Nat} {sp:Sp} (U:iH K x L st f O) (S:DC N J (AC st)) (a1:∀vs H Q E,sp vs H Q E->vs.length=J.length)
  (W:∀(D:Value) (A:Around) (F:!Env) (s:Shared) (H:Hp) (vs:!V) (Q:VK) (E:XK),VD k (A.deeper (envOfC L (AC st) s.heap.objs.size f D))->sp vs H Q E->
   ∃t,bG (tE O0 P w K mg base N L (AC st) f D A F s H E).nox (dD st) t/\t {nx:=λο H'=>Q .non H',rt:=Q} (start N vs) H):NF P w K mg base O0 (k+1) f O J sp:=by
 let(a6,a7,kV,a5,pm,a3,D,a4,a8,rfl,a2,Y):=U.ex;show fS a2 Y S a1 λA F s H vs Q E Z a0=>?_;let(t,h,q):=W D A F s H vs Q E Z a0;show(t,h.nox,q)
theorem iH.binds {x O:Str} {st:Stmt} {f:Addr} {N:FuncData} {L:!Str} (U:iH K x O st f N)
  (h:∀(kV J pm:Value) (q:Option Addr) (D F:Value) (us:!Value),us.length=L.length->bindArgs (PySem.W.fnOf x O (iD st) (dD st) (AC st) .none kV J pm q D F) ⟨us,[]⟩=pure (L.zip us)):sE K N L []:=by
 let(Y,Z,kV,J,pm,q,D,F,a0,rfl,W,V):=U.ex;show .all (h kV J pm q D F)
theorem oS {x D:Str} {st:Stmt} {f:Addr} {N:Value} {O F:Option Addr} {U:Array (Option Value)} {kV L pm q J:Value} (l:K.lookup f>(N,O,.func (PySem.W.fnOf x D (iD st) (dD st) (AC st) .none kV L pm F q J),U))
 (c:PySem.W.codeIn K q D=true) (k:PySem.W.keepIn K (.ref f)=true):iH K x D st f (PySem.W.fnOf x D (iD st) (dD st) (AC st) .none kV L pm F q J):=⟨(N,O,kV,L,pm,F,q,J,U,rfl,l,c),k⟩
end
theorem bE {A:Around} {k:Nat} (q:VD k A):A.units+1 < cLine:=Nat.lt_of_le_of_lt (Nat.add_le_add_left (by decide:1<=64) _) q.units
section
variable {X:Cx}
theorem pv (i:Nat) {x:Str} {pos:Pos} (q:X.N[i]?>x:=by rfl) (F:rQ X.env.scope x:=by first|exact Or.inl rfl|exact Or.inr (Or.inl rfl)|exact Or.inr (Or.inr rfl)) (hd:(x == ("__debug__":Str))=false:=by decide)
 (D:(x == ("__classdict__":Str))=false:=by decide):PE X (.Name x pos) (jJ i):=kZ q F hd D
theorem P0:xE X (.builtin "len") (λxs H Q=>∃a kvs,xs=[V.ref a]/\H a>(.dK kvs)/\Q (.int kvs.length) H):=by
 intro N s O H xs us Q D r h;let(a,kvs,rfl,J,q):=h;let(u,rfl,L):=EF r;cases L;show yO D (.inl J) λt s' F=>(.int kvs.length,H,F,⟨t,rfl⟩,q)
end
theorem oE {A B:Prop} (h:B):if false=true then A else B:=by
 rw[fA AA];show h
theorem fE {A B:Prop} (h:A):if true=true then A else B:=by
 rw[jA rfl];show h
theorem pI {c A B:Prop} [Decidable c] (h1:c->A) (h2:¬c->B):if c then A else B:=by
 by_cases h:c
 .rw[jA h];show h1 h
 .rw[fA h];show h2 h
def JC (H H':Hp):Prop:=∀b o,H b>o->H' b>o
theorem JC.trans {H q D:Hp} (a:JC H q) (b:JC q D):JC H D:=λc o h=>b c o (a c o h)
theorem JC.free {H H':Hp} (e:JC H H') {l:Addr} (h:H' l=Option.none):H l=Option.none:=by
 cases q:H l with
 |none=>rfl
 |some o=>
  rw[e l o q] at h;cases h
theorem JC.seq {K:PySem.W.Frag} {H H':Hp} {a:Addr} {xs:!V} (e:JC H H') (h:pD K H a xs):pD K H' a xs:=by
 rcases h with (h|⟨o,h⟩)|h
 .show .inl (.inl (e _ _ h))
 .show .inl (.inr ⟨o,e _ _ h⟩)
 .show .inr h
section
variable {κ:Type} [DecidableEq κ]
theorem Q0 {kvs:!(κ×V)} {k:κ} (h:SC kvs k=none):¬k∈kvs.map (·.1):=by
 intro m;let(p,D,e):=cA.mp m;let q:(kvs.any λF=>decide (F.1=k))=true:=List.any_eq_true.mpr (p,D,pA e);rw[qJ,h] at q;show absurd q (by simp)
theorem pS {kvs:!(κ×V)} {k:κ} {v:V} (h:SC kvs k>v):k∈kvs.map (·.1):=by
 let q:(kvs.any λF=>decide (F.1=k))=true:=by
  rw[qJ,h]
  all_goals rfl
 let(p,D,e):=List.any_eq_true.mp q;show cA.mpr (p,D,EB e)
theorem lb {kvs:!(κ×V)} {k:κ} {p:κ×V} (h:p∈DD kvs k):p∈kvs:=(HA.mp h).1
end
end L2
set_option maxHeartbeats 4000000
namespace L2
open PySem PySem.Spec PyProof.Rows
section
variable {M:Model} {A:Around} {E:Value->Shared->Prop} {s:Shared}
def xG (e:Addr) (h:Heap):Prop:=∃o vs,h.get? e>o/\o.data=.fields vs/\vs[2]?>.none
theorem qI {B:Heap} {env:Env} {U:!Env} {L e:Addr} {J:Obj} {vs:Array Value} {O a0:Value} {nx:Bool} {Q:Unit->Shared->Prop}
  (ab:A.frames>(env::U)) (N:s.heap.FunFrames B (env::U)) (a9:env.frame>L) (W:s.heap.get? e>J) (st:B.StaysIn s.heap) (ao:B.get? e=none) (dd:J.data=.fields vs) (sz:1 < vs.size) (ar:vs[0]?>a0) (au:vs[2]?>.none)
  (q:∀h',Heap.NotedW B (env::U) e J.cls a0 (rawInt L) s.heap h'->xG e h'->Q ⟨⟩ {s with heap:=h'}):
  wpAny M A (do let a<-frameOf env;let pl<-entryPlaceOf L nx;let b<-EntryCells.newEntry O a .none (rawInt L) .none pl;setField (.ref e) 1 b) Q E s:=by
 let ap:e∉(env::U).filterMap (·.frame):=λm=>by
  let(_,o,go,F):=N.mem m;rw[W] at go;cases go;show F vs dd
 show dA (wpAny_frameOf_fun ab N a9 λk1 z1=>dA (wpAny_entryPlaceOf λpl av=>?_));unfold EntryCells.newEntry newFields;show dA (wpAny_newObj_type ?_ (av.sizeOk5 _ _ _ _ _));let a2:k1.get? e>J:=(z1.2.1 e ap).trans W;let a8:B.StaysIn k1:=λb o D=>(z1.2.1 b λm=>by rw[(N.mem m).1] at D;cases D).trans (st b o D);generalize ho:({cls:=.type "traceback",dict:=none,data:=.fields ([O,.ref L,.none,rawInt L,.none]++(if pl.isEmpty then List.replicate 6 Value.none else pl)).toArray}:Obj)=nT;let a5:nT.data=.fields ([O,.ref L,.none,rawInt L,.none]++(if pl.isEmpty then List.replicate 6 Value.none else pl)).toArray:=by rw[<-ho]
 let ah:nT.isFreed=false:=Obj.isFreed_of_fields a5;let a3:(k1.push nT).get? e>J:=zA nT a2;let ac:(k1.push nT).get? k1.objs.size>nT:=SA k1 ah;show wpAny_setField a3 dd sz ?_;let a1:k1.objs.size≠e:=Nat.ne_of_gt (JA a2);let V:=Obj.data_mapFields dd (·.setIfInBounds 1 (Value.ref k1.objs.size));let a4:=Heap.get?_update_self (Obj.mapFields (·.setIfInBounds 1 (Value.ref k1.objs.size))) a3 (Obj.isFreed_of_fields V);let ad:=(NB (k1.push nT) (Obj.mapFields (·.setIfInBounds 1 (Value.ref k1.objs.size))) (Ne.symm a1)).trans ac;let kp:∀b o,b≠e->k1.get? b>o->((k1.push nT).update e (Obj.mapFields (·.setIfInBounds 1 (Value.ref k1.objs.size)))).get? b>o:=λb o n g=>by
  rw[NB _ _ (Ne.symm n)];show zA _ g
 let a6:∀b o,s.heap.get? b>o->(∀vs,o.data≠.fields vs)->b≠e:=λb o g F Z=>by
  rw[Z,W] at g;cases g;show F vs dd
 let aq:([O,.ref L,.none,rawInt L,.none]++(if pl.isEmpty then List.replicate 6 Value.none else pl)).toArray[3]?>(rawInt L):=by simp
 show q _ (λb o D=>kp b o (λZ=>by rw[Z,ao] at D;cases D) (a8 b o D),N.of_keeps λb o g F=>?_,(_,_,k1.objs.size,nT,_,a4,⟨Obj.cls_mapFields _ _,?_⟩,V,?_,a8.fresh,a1,ad,a5,aq),λb o g F=>?_) (_,_,a4,V,?_)
 .let(a7,Y):=z1.2.2 b o g;show(_,kp b _ (a6 b o g F) Y,rfl)
 .rw[Array.getElem?_setIfInBounds_ne (by decide)];show ar
 .simp[sz]
 .let(a7,Y):=z1.2.2 b o g;show⟨a7,kp b _ (a6 b o g F) Y⟩
 .rw[Array.getElem?_setIfInBounds_ne (by decide)];show au
theorem sI {B:Heap} {l:!Env} {e:Addr} {cls a0 a4:Value} {Q:Unit->Shared->Prop} (st:B.StaysIn s.heap) (a3:s.heap.FunFrames B l) (ab:s.heap.TracedAtW B e cls a0 a4) (a6:xG e s.heap) (a7:B.get? e=none)
  (q:∀h',Heap.FlyingW B l e cls a0 h'->s.heap.UpToSlots h'->xG e h'->Q ⟨⟩ {s with heap:=h'}):wpAny M A (setFlight (.ref e) none) Q E s:=by
 let(a8,vs,T,ad,ts,V,a5,dd,a1,W,L,N,J,a9):=ab;let Z:3 < ts.size:=(LB.mp a9).1;unfold setFlight;show dA (wpAny_field V dd a1 ?_);rw[jA (show (Value.ref T != Value.none)=true by simp)];let F:∀b,b≠T->(s.heap.update T (Obj.mapFields (·.setIfInBounds 3 ((none:Option Addr).elim Value.none λf=>rawInt f)))).get? b=s.heap.get? b:=λb n=>NB _ _ (Ne.symm n);let Y:∀b o,s.heap.get? b>o->(∀vs,o.data≠.fields vs)->b≠T:=λb o g D U=>by
  rw[U,N] at g;cases g;show D ts J
 show wpAny_setField N J Z (q _ (λb o O=>(F b λU=>by rw[U,W] at O;cases O).trans (st b o O),a7,a3.of_keeps λb o g D=>(o,(F b (Y b o g D)).trans g,rfl),?_) (λb o g D=>⟨o.slots,(F b (Y b o g D)).trans g⟩) ?_)
 .show(a8,vs,T,_,_,(F e (Ne.symm L)).trans V,a5,dd,a1,W,L,Heap.get?_update_self _ N (Obj.isFreed_of_fields (Obj.data_mapFields J _)),Obj.data_mapFields J _,by simp[Z])
 .let(o,ac,g,a2,v):=a6;show(o,ac,(F e (Ne.symm L)).trans g,a2,v)
theorem KL {B:Heap} {env:Env} {V:!Env} {L e:Addr} {cls a0:Value} {Q:Unit->Shared->Prop} (a7:A.frames>(env::V)) (Y:env.frame>L) (a6:Heap.FlyingW B (env::V) e cls a0 s.heap) (ab:xG e s.heap)
  (q:∀h',Heap.HeldW B (env::V) e cls a0 L h'->s.heap.UpToSlots h'->xG e h'->Q ⟨⟩ {s with heap:=h'}):wpAny M A (noteFrame (.ref e) env) Q E s:=by
 let(st,Z,a5,av,vs,T,au,ts,O,(a8,ad),dd,a3,a9,a4,N,J,a2):=a6;let(o',aw,g',d',ah):=ab;rw[O] at g';cases g';rw[dd] at d';cases d';subst a8;unfold noteFrame;simp only[Y];show dA (wpAny_field O dd a3 ?_);rw[jA (show (Value.ref T != Value.none)=true by simp)];show dA (wpAny_field N J a2 ?_);rw[fA (show ¬((Value.none == rawInt L)=true) by simp[rawInt])];show dA (wpAny_setField N J (LB.mp a2).1 ?_);let F:∀b,b≠T->(s.heap.update T (Obj.mapFields (·.setIfInBounds 3 Value.none))).get? b=s.heap.get? b:=λb n=>NB _ _ (Ne.symm n);let a1:∀b o,s.heap.get? b>o->(∀vs,o.data≠.fields vs)->b≠T:=λb o g D W=>by
  rw[W,N] at g;cases g;show D ts J
 show qI a7 (a5.of_keeps λb o g D=>(o,(F b (a1 b o g D)).trans g,rfl)) Y ((F e (Ne.symm a4)).trans O) (λb o U=>(F b λW=>by rw[W,a9] at U;cases U).trans (st b o U)) Z dd (LB.mp a3).1 ad ah λh' ⟨ao,ap,aq,ar⟩ ac=>?_;show q h' (ao,Z,ap,aq) (λb o g D=>ar b o ((F b (a1 b o g D)).trans g) D) ac
theorem rJ {B:Heap} {env:Env} {D:!Env} {L e:Addr} {cls a0:Value} {Q:Unit->Shared->Prop} (W:A.frames>(env::D)) (F:env.frame>L) (V:Heap.FlyingW B (env::D) e cls a0 s.heap) (a2:xG e s.heap)
  (q:∀h',Heap.FlyingW B D e cls a0 h'->s.heap.UpToSlots h'->xG e h'->Q ⟨⟩ {s with heap:=h'}):wpAny M A (leaving env (.ref e)) Q E s:=by
 unfold leaving;show dA (KL W F V a2 λk ⟨h1,h2,Y,Z⟩ a5 a3=>?_);show sI (s:={s with heap:=k}) h1 Y Z a3 h2 λa1 ⟨J,N,⟨_,_,O⟩,U⟩ a6 a4=>?_;show q a1 (J,N,O,U) (a5.trans a6) a4
theorem MG {B h:Heap} {env:Env} {F:!Env} {L e:Addr} {cls:Value} {args:!Value} {Q:Unit->Shared->Prop} (Z:A.frames>(env::F)) (J:env.frame>L) (st:B.StaysIn h) (Y:h.FunFrames B (env::F)) (mk:Heap.MadeExcOf h s.heap e cls args)
  (q:∀h' t,Heap.FlyingW B F e cls (.ref t) h'->s.heap.UpToSlots h'->xG e h'->Q ⟨⟩ {s with heap:=h'}):wpAny M A (leaving env (.ref e)) Q E s:=by
 let(t,N,_,_):=mk.there;let new:∀b,h.get? b=none->B.get? b=none:=λb D=>by
  cases ab:B.get? b with
  |none=>rfl
  |some o=>have:=st b o ab;rw[D] at this;cases this
 unfold leaving noteFrame;simp only[J];show dA (dA (wpAny_field N rfl (x:=.none) rfl ?_));rw[fA (by decide)];show qI Z (Y.of_keeps λb o D ο=>(o,mk.keeps b o D,rfl)) J N (λb o D=>mk.keeps b o (st b o D)) (new e mk.new) rfl (by simp) (a0:=.ref t) rfl rfl λk ⟨a6,a7,a8,a9⟩ a3=>?_;show sI (s:={s with heap:=k}) a6 a7 a8 a3 (new e mk.new) λa1 ⟨O,U,⟨_,_,V⟩,W⟩ a5 a4=>?_;show q a1 t (O,U,V,W) (Heap.UpToSlots.trans (λb o g a2=>a9 b o g a2) a5) a4
end
structure HQ (B:Heap) (l:!Env) (h:Heap) (H H':Hp) (h':Heap) (ea:Addr) (cls:Value):Prop where
 fl:∃a0,Heap.FlyingW B l ea cls a0 h'
 trk:∀b u,H' b>u->∃o,B.get? b>o
 kept:∀b o,h.get? b>o->H b=none->b∉rE l->B.get? b>o
 alive:∀b o,h.get? b>o->b∉rE l->∃o',B.get? b>o'
 nc:xG ea h'
def NG (P:Program) (w:World):CXT:=λouter H s E e s'=>∃ea cls H' B,e=.ref ea/\s'.os=s.os/\AllBare s'.gens/\Un (rE outer) [] H H' s.heap s'.heap/\IE P w H' s'.heap/\HQ B outer s.heap H H' s'.heap ea cls/\E cls none H'
abbrev XKs:=Value->St->Hp->Prop
def XW (X:Cx) (K:XKs):Prop:=∀(pins:!(Addr×Obj)) (σ:St) (H:Hp) (s s':Shared) (ea:Addr) (cls:Value) (H':Hp) (B:Heap),HC X pins σ H s->s'.os=s.os->AllBare s'.gens->
 Un (rE X.stack) [] H H' s.heap s'.heap->IE X.prog X.w H' s'.heap->HQ B X.stack s.heap H H' s'.heap ea cls->K cls σ H'->X.xe (.ref ea) s'
theorem S0 {env:Env} {l:!Env} {L:Addr} (h:env.frame>L):rE (env::l)=L::rE l:=by
 unfold rE;rw[fC,h]
theorem IE.flown {P:Program} {w:World} {H:Hp} {B h h':Heap} (x:IE P w H h) (t:∀b u,H b>u->∃o,B.get? b>o) (s:B.StaysIn h) (s':B.StaysIn h'):IE P w H h':=λa o e=>
 (x a o e).stay (λb u D q=>by
  let J:∃o,B.get? b>o:=by
   let rfl||D:=D
   .show t _ _ e
   .show t _ _ D
  let(o',ho):=J;let F:=s b o' ho;rw[q] at F;cases F;show s' b _ ho) (λο q=>q) λο ο q=>q
theorem ZC {P:Program} {w:World} {K:PySem.W.Frag} {mg:Str->Option Value} {base:Heap} {N:!Str} {O:Str} {scope:Scope} {f:Addr} {L:Value} {A:Around} {J:!Env} {F:Shared} {a1:Hp} {E:XK}:
  XW (tE (NG P w) P w K mg base N O scope f L A J F a1 E) (λc ο H'=>E c none H'):=by
 intro b0 b1 H s s' a8 cls H' B Y ax a7 un ah W ar;let U:=Y.call' (s':=s') (ch:=[]) ax un ah a7 (λb q=>absurd q (by simp));let ab:=Y.ok.frames;let av:(tE (NG P w) P w K mg base N O scope f L A J F a1 E).stack=envOfC O scope F.heap.objs.size f L::J:=rfl;rw[av] at ab;let(a0,a4):=W.fl;let a9:(envOfC O scope F.heap.objs.size f L).frame>F.heap.objs.size:=rfl;change wpAny _ _ (leaving (envOfC O scope F.heap.objs.size f L) (.ref a8)) _ _ s';show rJ ab a9 a4 W.nc λh' a2 az aw=>?_;let ac:rE (envOfC O scope F.heap.objs.size f L::J)=F.heap.objs.size::rE J:=S0 a9;let ap:∀b o,F.heap.get? b>o->b∉rE J->b∉rE (envOfC O scope F.heap.objs.size f L::J):=λb o e n q=>by
  rw[ac] at q;let q||q:=uA.mp q
  .show absurd (JA e) (by rw[q];show xC _)
  .show n q
 let stay:∀b o,F.heap.get? b>o->a1 b=none->b∉rE J->B.get? b>o:=λb o e n D=>
  W.kept b o (Y.base.keep b o e n D (by intro q;show absurd q (by simp[tE]))) (Y.base.free b o e n (by intro q;show absurd q (by simp[tE]))) (ap b o e D)
 let ao:∀b o,F.heap.get? b>o->b∉rE J->∃o',B.get? b>o':=λb o e D=>by
  let(Z,V):=Y.base.there b o e (by intro q;show absurd q (by simp[tE]));show W.alive b Z V (ap b o e D)
 show(a8,cls,H',B,rfl,U.os,a7,?_,ah.flown W.trk a4.1 a2.1,(⟨a0,a2⟩,W.trk,stay,ao,aw),ar);let a5:∀b:Addr,b∉(tE (NG P w) P w K mg base N O scope f L A J F a1 E).ex:=λb q=>absurd q (by simp[tE]);let aq:∀b,b∈rE J->∀o,s'.heap.get? b>o->∃a6,h'.get? b>{o with slots:=a6}:=λb D o e=>by
  let au:b∈rE (envOfC O scope F.heap.objs.size f L::J):=by rw[ac];show qA _ D
  let(_,o',ad,hd):=a4.2.2.1.mem au;rw[e] at ad;cases ad;show az b o e hd
 show(λb o e n D ο=>a2.1 b o (stay b o e n D),λb o e n D ο=>?_,λb o e n ο=>U.base.free b o e n (a5 b),λb o e ο=>?_,U.base.tups,U.base.frzs,U.base.tbls)
 .let(a6,V):=U.base.slot b o e n D (a5 b);let(ay,a3):=aq b D _ V;show⟨ay,a3⟩
 .by_cases D:b∈rE J
  .let(Z,V):=U.base.there b o e (a5 b);let(a6,a3):=aq b D _ V;show⟨_,a3⟩
  .let(Z,V):=ao b o e D;show⟨Z,a2.1 b Z V⟩
def pE (P:Program) (w:World) (K:PySem.W.Frag) (mg:Str->Option Value) (base:Heap) (x:Str) (k:Nat) (ps:!Str) (dvs:!V) (sp:Sp):Prop:=
 ∃f fd ds,mg x=↑f/\PySem.W.keepIn K (.ref f)=true/\sE K fd ps ds/\OC dvs ds/\NF P w K mg base (NG P w) k f fd ps sp
def QC (P:Program) (w:World) (K:PySem.W.Frag) (mg:Str->Option Value) (base:Heap) (C:Addr) (m:Str) (k:Nat) (ps:!Str) (dvs:!V) (sp:Sp):Prop:=
 ∃f fd ds,cH K C m f/\sE K fd ps ds/\OC dvs ds/\NF P w K mg base (NG P w) k f fd ps sp
def HF (P:Program) (w:World) (K:PySem.W.Frag) (mg:Str->Option Value) (base:Heap) (x:Str) (C:Addr) (k:Nat) (ps:!Str) (dvs:!V) (sp:Sp):Prop:=
 ∃f fd ds,mg x=↑C/\Mk K C f/\sE K fd ps ds/\OC dvs ds/\NF P w K mg base (NG P w) k f fd ps sp
def tI (Kx:XKs) (sp:Sp) (dvs:!V) (t:TA):TE:=λσ H Q=>t σ H λvs H1=>sp (vs++dvs) H1 Q (λc ο H'=>Kx c σ H')
def jH (Kx:XKs) (C:Addr) (m:Str) (sp:Sp) (dvs:!V) (ta:TE) (t:TA):TE:=λσ H Q=>ta σ H λx H1=>∃a dx fs,x=.ref a/\H1 a>(.ins C dx fs)/\fs.lookup m=none/\
 t σ H1 λvs H2=>sp (x::(vs++dvs)) H2 Q (λc ο H'=>Kx c σ H')
def kH (Kx:XKs) (C:Addr) (sp:Sp) (dvs:!V) (t:TA):TE:=λσ H Q=>t σ H λvs H1=>∀x dx,H1 x=none->H1 dx=none->dx≠x->
 sp (.ref x::(vs++dvs)) (FC (FC H1 dx (.own x)) x (.ins C dx [])) (λv H2=>v=.non/\Q (.ref x) H2) (λc ο H'=>Kx c σ H')
section
variable {X:Cx} {Kx:XKs} {k:Nat} {f C:Addr} {fd:FuncData} {ps:!Str} {sp:Sp} {dvs:!V} {ds:!Value} {x m:Str} {p pos apos:Pos} {e o:Expr} {es:!Expr} {ta:TE} {t:TA}
theorem qS {J:!(Addr×Obj)} {F:St} {H:Hp} {s:Shared} {Q:VK} {us:!Value} {vs:!V} (L:NF X.prog X.w X.K X.mg X.base (NG X.prog X.w) k f fd ps sp) (a3:VD k X.A) (a0:sE X.K fd ps ds) (hd:OC dvs ds) (a4:XW X Kx)
  (D:HC X J F H s) (r:OC vs us) (h:sp (vs++dvs) H Q (λc ο H'=>Kx c F H')):wpAny (model X.prog X.w) X.A (call (.ref f) us) (EP X J F Q) X.xe s:=by
 let N:OC (vs++dvs) (us++ds):=r.append hd;let a1:(us++ds).length=ps.length:=by rw[<-N.length];show L.len _ _ _ _ h
 show wpAny_call (codeAny_mono (L.run X.A X.stack s H ⟨us,[]⟩ (us++ds) (vs++dvs) Q _ a3 D.env0 (a0 s us D.kIn a1) N h) λr s' q=>?_);cases r with
 |error e=>
  let(U,cls,H',B,rfl,a5,O,un,a2,Y,Z):=q;show a4 J F H s s' U cls H' B D a5 O un a2 Y Z
 |ok W=>
  cases W with
  |ret u=>show D.after q
  |next=>show False.elim q
  |brk=>show False.elim q
  |cont=>show False.elim q
theorem XD (D:pE X.prog X.w X.K X.mg X.base x k ps dvs sp) (Z:VD k X.A) (a0:XW X Kx) (L:PA X (e::es) t) (V:Gl X x:=by rfl) (O:(x == ("__debug__":Str))=false:=by decide)
  (U:starEach (e::es) X.env=(false,eval e X.env)::starEach es X.env:=by rfl) (Y:(backTo pos (starEach es X.env)).any (·.1)=false:=by rfl):
  PE X (.Call (.Name x p) (e::es) [] pos) (tI Kx sp dvs t):=by
 let(f,a5,a4,W,hk,N,hd,D):=D;intro a1 s a2 H Q F h;show wpAny_Call_Name_kw (rN F V W ?_ O);show PySem.W.callWith_K (h₀:=X.base) F.ok.mod.kin hk (kD (L pos a1 s a2 H _ F h) λus a6 ⟨vs,a3,J,r,q⟩=>⟨J.kIn,?_⟩) U Y;show qS D Z N hd a0 J r q
theorem GD {pl:Sem Bool} (ho:PE X o ta) (c:vG X.K C) (D:QC X.prog X.w X.K X.mg X.base C m k ps dvs sp) (a1:VD k X.A) (a4:XW X Kx) (Y:PA X (e::es) t)
  (a2:starEach (e::es) X.env=(false,eval e X.env)::starEach es X.env:=by rfl) (a0:(backTo pos (starEach es X.env)).any (·.1)=false:=by rfl)
  (a3:eval (.Call (.Attribute o m apos) (e::es) [] pos) X.env=(do
   let ov<-eval o X.env
   standAt apos.atName
   let (f,first)<-holding [ov] (getMethod ov m pl)
   callWith pos f first (backTo pos (starEach (e::es) X.env)) (backToKw pos (keywordEach [] X.env))):=by rfl):
  PE X (.Call (.Attribute o m apos) (e::es) [] pos) (jH Kx C m sp dvs ta t):=by
 let(f,ad,ab,N,Z,hd,D):=D;intro O s U H Q F h;show PySem.W.methodCall_KW (pl:=pl) (kD (ho O s U H _ F h) λu a7 a8=>?_) a3;let(x,V,J,a6,a,ac,fs,ex,W,l,q):=a8;subst ex;obtain rfl:u=Value.ref a:=a6;show CZ J W c N l ?_;show PySem.W.callWith_K (first:=[.ref a]) (h₀:=X.base) F.ok.mod.kin N.kp (kD (Y pos O a7 U V _ J q) λus ah ⟨vs,a9,L,r,a5⟩=>⟨L.kIn,?_⟩) a2 a0;show qS (us:=.ref a::us) (vs:=.ref a::vs) D a1 Z hd a4 L (.cons rfl r) a5
theorem cJ {pl:Sem Bool} (ho:PE X o ta) (c:vG X.K C) (D:QC X.prog X.w X.K X.mg X.base C m k ps dvs sp) (U:VD k X.A) (W:XW X Kx)
  (V:eval (.Call (.Attribute o m apos) [] [] pos) X.env=(do
   let ov<-eval o X.env
   standAt apos.atName
   let (f,first)<-holding [ov] (getMethod ov m pl)
   callWith pos f first (backTo pos (starEach [] X.env)) (backToKw pos (keywordEach [] X.env))):=by rfl):
  PE X (.Call (.Attribute o m apos) [] [] pos) (jH Kx C m sp dvs ta tNil):=by
 let(f,a5,a3,J,O,hd,D):=D;intro Y s a1 H Q L h;show PySem.W.methodCall_KW (pl:=pl) (kD (ho Y s a1 H _ L h) λu a6 a0=>?_) V;let(x,a2,F,Z,a,a4,fs,ex,N,l,q):=a0;subst ex;obtain rfl:u=Value.ref a:=Z;show CZ F N c J l ?_;show PySem.W.callWith_K0 (first:=[.ref a]) F.kIn J.kp (qS (us:=[.ref a]) (vs:=[.ref a]) D U O hd W F (.cons rfl .nil) q)
theorem U0 {N:!(Addr×Obj)} {L:St} {H:Hp} {s:Shared} {Q:VK} {us:!Value} {vs:!V} (M:Mk X.K C f) (O:NF X.prog X.w X.K X.mg X.base (NG X.prog X.w) k f fd ps sp) (a9:VD (k+1) X.A) (a6:sE X.K fd ps ds) (hd:OC dvs ds)
  (ab:XW X Kx) (D:HC X N L H s) (r:OC vs us)
  (h:∀x J,H x=none->H J=none->J≠x->sp (.ref x::(vs++dvs)) (FC (FC H J (.own x)) x (.ins C J [])) (λv Y=>v=.non/\Q (.ref x) Y) (λc ο H'=>Kx c L H')):
  wpAny (model X.prog X.w) X.A (call (.ref C) us) (EP X N L Q) X.xe s:=by
 let U:=h (s.heap.objs.size+1) s.heap.objs.size (D.hok.fresh (Nat.le_succ _)) (D.hok.fresh (yA _)) (YA (Nat.lt_succ_self _));let F:=HC.made (C:=C) D;let W:OC (V.ref (s.heap.objs.size+1)::(vs++dvs)) (Value.ref (s.heap.objs.size+1)::(us++ds)):=.cons rfl (r.append hd);let a7:(Value.ref (s.heap.objs.size+1)::us++ds).length=ps.length:=by
  let e:=W.length;rw[O.len _ _ _ _ U] at e;show e.symm
 show wpAny_call (W9 (f:=f) D.kIn M.makes M.init (WB.mp M.fn) (codeAny_mono (O.run _ X.stack _ _ ⟨Value.ref (s.heap.objs.size+1)::us,[]⟩ (Value.ref (s.heap.objs.size+1)::(us++ds)) _ _ _ (a9.make C us [])
  (F.env0.make C us []) (a6 _ (Value.ref (s.heap.objs.size+1)::us) F.kIn a7) W U) λr s' q=>?_))
 cases r with
 |error e=>
  let(a1,cls,H',B,rfl,ac,a0,un,a8,a4,a5):=q;show ab N L _ _ s' a1 cls H' B F ac a0 un a8 a4 a5
 |ok a3=>
  cases a3 with
  |ret u=>
   let(v,H',Z,ah,a2,ad):=F.after q;subst a2;show⟨ah,(V.ref (s.heap.objs.size+1),H',Z,rfl,ad)⟩
  |next=>show False.elim q
  |brk=>show False.elim q
  |cont=>show False.elim q
theorem rS (D:HF X.prog X.w X.K X.mg X.base x C k ps dvs sp) (Z:VD (k+1) X.A) (a0:XW X Kx) (L:PA X (e::es) t) (V:Gl X x:=by rfl) (O:(x == ("__debug__":Str))=false:=by decide)
  (U:starEach (e::es) X.env=(false,eval e X.env)::starEach es X.env:=by rfl) (Y:(backTo pos (starEach es X.env)).any (·.1)=false:=by rfl):
  PE X (.Call (.Name x p) (e::es) [] pos) (kH Kx C sp dvs t):=by
 let(f,a5,a4,W,M,N,hd,D):=D;intro a1 s a2 H Q F h;show wpAny_Call_Name_kw (rN F V W ?_ O);show PySem.W.callWith_K (h₀:=X.base) F.ok.mod.kin M.kp (kD (L pos a1 s a2 H _ F h) λus a6 ⟨vs,a3,J,r,q⟩=>⟨J.kIn,?_⟩) U Y;show U0 M D Z N hd a0 J r q
theorem V0 (q:HF X.prog X.w X.K X.mg X.base x C k ps dvs sp) (O:VD (k+1) X.A) (U:XW X Kx) (L:Gl X x:=by rfl) (J:(x == ("__debug__":Str))=false:=by decide):
  PE X (.Call (.Name x p) [] [] pos) (kH Kx C sp dvs tNil):=by
 let(f,W,V,N,M,F,hd,q):=q;intro Y s Z H Q D h;show wpAny_Call_Name_kw (rN D L N ?_ J);show PySem.W.callWith_K0 D.kIn M.kp (U0 (us:=[]) M q O F hd U D .nil h)
theorem AO {v:V} (D:Gl X x) (q:∃u,X.mg x>u/\KC v u) (hd:(x == ("__debug__":Str))=false:=by decide):PE X (.Name x pos) (tC v):=by
 let(u,q,r):=q;show i9 D q r hd
theorem IQ {n:String} (q:Gl X x) (D:X.mg x=none) (J:bootBuiltins x>(.type n)) (F:x≠"__name__":=by decide) (hd:(x == ("__debug__":Str))=false:=by decide):PE X (.Name x pos) (tC (.ty n)):=j9 q D J rfl F hd
end
def TF (K:PySem.W.Frag) (mg:Str->Option Value) (x qual:Str) (st:Stmt) (ps:!Str) (dvs:!V):Prop:=∃f fd ds,mg x=↑f/\iH K x qual st f fd/\sE K fd ps ds/\OC dvs ds
def lD (K:PySem.W.Frag) (C:Addr) (m qual:Str) (st:Stmt) (ps:!Str) (dvs:!V):Prop:=∃f fd ds,cH K C m f/\iH K m qual st f fd/\sE K fd ps ds/\OC dvs ds
def lH (K:PySem.W.Frag) (mg:Str->Option Value) (x:Str) (C:Addr) (qual:Str) (st:Stmt) (ps:!Str) (dvs:!V):Prop:=∃f fd ds,mg x=↑C/\Mk K C f/\iH K "__init__" qual st f fd/\sE K fd ps ds/\OC dvs ds
section
variable {P:Program} {w:World} {K:PySem.W.Frag} {mg:Str->Option Value} {base:Heap}
def OF (P:Program) (w:World) (K:PySem.W.Frag) (mg:Str->Option Value) (base:Heap) (qual:Str) (st:Stmt) (N:!Str) (k:Nat) (sp:Sp):Prop:=
 ∀(f:Addr) (cdv:Value) (A:Around) (outer:!Env) (s:Shared) (H:Hp) (vs:!V) (Q:VK) (E:XK),VD k (A.deeper (envOfC qual (AC st) s.heap.objs.size f cdv))->sp vs H Q E->
  ∃t,bG (tE (NG P w) P w K mg base N qual (AC st) f cdv A outer s H E) (dD st) t/\t {nx:=λο H'=>Q .non H',rt:=Q} (start N vs) H
theorem iH.okE {x F:Str} {st:Stmt} {f:Addr} {D:FuncData} {N q:!Str} {k:Nat} {sp:Sp} (J:iH K x F st f D) (S:DC N q (AC st)) (Y:∀vs H Q E,sp vs H Q E->vs.length=q.length)
  (O:OF P w K mg base F st N k sp):NF P w K mg base (NG P w) (k+1) f D q sp:=by
 let(a4,a5,kV,a3,pm,a1,L,a2,a6,rfl,Z,U):=J.ex;show fS Z U S Y λA a0 s H vs Q E V W=>O f L A a0 s H vs Q E V W
theorem TF.have {x J:Str} {st:Stmt} {N q:!Str} {D:!V} {k:Nat} {sp:Sp} (R:TF K mg x J st q D) (S:DC N q (AC st)) (O:∀vs H Q E,sp vs H Q E->vs.length=q.length)
  (L:OF P w K mg base J st N k sp):pE P w K mg base x (k+1) q D sp:=
 let ⟨f,fd,ds,hm,F,hb,hd⟩:=R
 (f,fd,ds,hm,F.kp,hb,hd,F.okE S O L)
theorem lD.have {C:Addr} {m J:Str} {st:Stmt} {N q:!Str} {D:!V} {k:Nat} {sp:Sp} (R:lD K C m J st q D) (S:DC N q (AC st)) (O:∀vs H Q E,sp vs H Q E->vs.length=q.length)
  (L:OF P w K mg base J st N k sp):QC P w K mg base C m (k+1) q D sp:=
 let ⟨f,fd,ds,hm,F,hb,hd⟩:=R
 (f,fd,ds,hm,hb,hd,F.okE S O L)
theorem lH.have {C:Addr} {x J:Str} {st:Stmt} {N q:!Str} {D:!V} {k:Nat} {sp:Sp} (R:lH K mg x C J st q D) (S:DC N q (AC st)) (O:∀vs H Q E,sp vs H Q E->vs.length=q.length)
  (L:OF P w K mg base J st N k sp):HF P w K mg base x C (k+1) q D sp:=
 let ⟨f,fd,ds,hm,M,F,hb,hd⟩:=R
 (f,fd,ds,hm,M,hb,hd,F.okE S O L)
end
def XR (X:Cx) (K:XKs):Prop:=∀(pins:!(Addr×Obj)) (σ:St) (H:Hp) (s:Shared) (h':Heap) (e:Addr) (cls:Value) (args:!Value),HC X pins σ H s->Heap.MadeExcOf s.heap h' e cls args->K cls σ H->X.xe (.ref e) {s with heap:=h'}
theorem IE.alive {P:Program} {w:World} {H:Hp} {h:Heap} (x:IE P w H h) {b:Addr} {u:HO} (e:H b>u):∃o,h.get? b>o:=by
 let q:=x b u e;cases u with
 |lst xs=>let(_,_,_,_,e):=q;show⟨_,e⟩
 |tup xs=>let(_,_,_,(o,e,_)):=q;show⟨_,e⟩
 |dK kvs=>let(_,_,_,_,o,_,_,e,_):=q;show⟨_,e⟩
 |dT kvs=>let(_,_,_,_,o,_,_,e,_):=q;show⟨_,e⟩
 |set S n=>let(o,_,_,_,e,_):=q;show⟨_,e⟩
 |ins C F fs=>let(_,_,_,e,_):=q;show⟨_,e⟩
 |own D=>show q
 |xd fs=>let(_,(_,_,_,e,_),_):=q;show⟨_,e⟩
 |rng lo hi=>let(_,_,_,e):=q;show⟨_,e⟩
 |frz J u=>let(e,_):=q;show⟨_,e⟩
 |tbl L=>show⟨_,q⟩
 |met f D=>show⟨_,q⟩
 |ext N=>let(_,e,_):=q;show e
theorem VG {P:Program} {w:World} {K:PySem.W.Frag} {mg:Str->Option Value} {base:Heap} {N:!Str} {U:Str} {scope:Scope} {f:Addr} {O:Value} {A:Around} {F:!Env} {D:Shared} {a0:Hp} {E:XK}:
  XR (tE (NG P w) P w K mg base N U scope f O A F D a0 E) (λc ο H'=>E c none H'):=by
 intro ay az H s h1 a6 cls args L mk ap;let a8:=L.ok.frames;let au:(tE (NG P w) P w K mg base N U scope f O A F D a0 E).stack=envOfC U scope D.heap.objs.size f O::F:=rfl;let a3:=L.stack;let a9:=L.stkFree;rw[au] at a8 a3 a9;let a7:(envOfC U scope D.heap.objs.size f O).frame>D.heap.objs.size:=rfl;let ab:rE (envOfC U scope D.heap.objs.size f O::F)=D.heap.objs.size::rE F:=S0 a7;let Z:∀b:Addr,b∉(tE (NG P w) P w K mg base N U scope f O A F D a0 E).ex:=λb V=>absurd V (by simp[tE]);let ah:∀b o,D.heap.get? b>o->b∉rE F->b∉rE (envOfC U scope D.heap.objs.size f O::F):=λb o e n V=>by
  rw[ab] at V;let V||V:=uA.mp V
  .show absurd (JA e) (by rw[V];show xC _)
  .show n V
 change wpAny _ _ (leaving (envOfC U scope D.heap.objs.size f O) (.ref a6)) _ _ _;show MG (B:=PySem.W.hideAll s.heap (rE (envOfC U scope D.heap.objs.size f O::F))) (h:=s.heap) a8 a7 (λb o q=>PySem.W.of_hideAll _ q)
  (PySem.W.funFrames_hide a3 λenv aq b J=>UB.mpr (env,aq,J)) mk λh' t a1 ax av=>?_
 let a4:∀b o,s.heap.get? b>o->b∉rE (envOfC U scope D.heap.objs.size f O::F)->(PySem.W.hideAll s.heap (rE (envOfC U scope D.heap.objs.size f O::F))).get? b>o:=λb o e n=>PySem.W.hideAll_get _ e n;let stay:∀b o,D.heap.get? b>o->a0 b=none->b∉rE F->(PySem.W.hideAll s.heap (rE (envOfC U scope D.heap.objs.size f O::F))).get? b>o:=λb o e n J=>
  a4 b o (L.base.keep b o e n J (Z b)) (ah b o e J)
 let ad:∀b o,D.heap.get? b>o->b∉rE F->∃o',(PySem.W.hideAll s.heap (rE (envOfC U scope D.heap.objs.size f O::F))).get? b>o':=λb o e J=>by
  let(Y,W):=L.base.there b o e (Z b);show⟨Y,a4 b Y W (ah b o e J)⟩
 let trk:∀b u,H b>u->∃o,(PySem.W.hideAll s.heap (rE (envOfC U scope D.heap.objs.size f O::F))).get? b>o:=λb u e=>by
  let(o,ho):=L.hok.alive e;show⟨o,a4 b o ho λV=>by rw[a9 b V] at e;cases e⟩
 let ao:∀b,b∈rE F->∀o,s.heap.get? b>o->∃a5,h'.get? b>{o with slots:=a5}:=λb J o e=>by
  let ar:b∈rE (envOfC U scope D.heap.objs.size f O::F):=by rw[ab];show qA _ J
  let(_,o',ac,hd):=a3.mem ar;rw[e] at ac;cases ac;show ax b o (mk.keeps b o e) hd
 show(a6,cls,H,_,rfl,L.os,L.bare,?_,L.hok.flown trk (λb o q=>PySem.W.of_hideAll _ q) a1.1,(⟨_,a1⟩,trk,stay,ad,av),ap);show(λb o e n J ο=>a1.1 b o (stay b o e n J),λb o e n J ο=>?_,λb o e n ο=>L.base.free b o e n (Z b),λb o e ο=>?_,L.base.tups,L.base.frzs,L.base.tbls)
 .let(a5,W):=L.base.slot b o e n J (Z b);let(aw,a2):=ao b J _ W;show⟨aw,a2⟩
 .by_cases J:b∈rE F
  .let(Y,W):=L.base.there b o e (Z b);let(a5,a2):=ao b J _ W;show⟨_,a2⟩
  .let(Y,W):=ad b o e J;show⟨Y,a1.1 b Y W⟩
nonrec abbrev JE:!Value:=[.type "ValueError",.type "Exception",.type "BaseException",.type "object"]
structure XC (K:PySem.W.Frag) (mg:Str->Option Value) (x:Str) (C:Addr):Prop where
 m:mg x=↑C
 ex:PySem.W.excIn K C JE "ValueError.__new__"=true
set_option tactic.hygienic true in
theorem qb {K:PySem.W.Frag} {h:Heap} {C:Addr} {l:!Value} {id:String} (hin:K.In h) (q:PySem.W.excIn K C l id=true):
  ∃bm N nm qn bs hdct sn sub ab col dd k0 k1 k2 k3 k5 mN,h.get? C>(excClassObj nm qn C N bs bm hdct sn sub ab col dd k0 k1 k2 k3 k5 id)/\h.Ns N mN/\mN "__init__"=none/\OwnTail h l bm:=by
 unfold PySem.W.excIn at q
 split at q
 case h_2=>cases q
 case h_1 dd cd sl ho=>
  split at q
  case h_2=>cases q
  case h_1 C' bm k0 k1 k2 k3 n k5 hm hs=>
   rw[MA,MA,MA,MA,MA] at q;let(((((q1,q2),q3),q4),q5),q6):=q;let e1:=WB.mp q1;let e2:=WB.mp q2;let e6:=WB.mp q6;subst e1 e2;let(nm,bs,mro,ns,qn,hd,sn,sub,ab,col,del):=cd;let e3:del=false:=by
    cases del with
    |false=>rfl
    |true=>cases q3
   let hm':mro=.ref C'::bm:=hm;subst e3 hm';obtain⟨l'⟩:=sl;let hs':l'=[k0,k1,k2,k3,some (.builtin n),k5]:=hs;subst hs';show(bm,ns,nm,qn,bs,hd,sn,sub,ab,col,dd,k0,k1,k2,k3,k5,_,hin _ _ ho,.of_isNs (PySem.W.isNs_of_in hin q5),PySem.W.nsMap_none_of_in hin q5 e6,PySem.W.tail_of_in hin q4)
def uI (Kx:XKs) (C:Addr) (t:TA):TS:=λο σ H=>t σ H λvs H1=>vs.length<=sizeLine/\Kx (.ref C) σ H1
theorem WG {X:Cx} {L:XKs} {C:Addr} {x:Str} {a9 J pos:Pos} {e:Expr} {es:!Expr} {t:TA} (a8:XR X L) (a2:X.calm=true) (c:XC X.K X.mg x C) (a1:PA X (e::es) t) (a3:Gl X x:=by rfl) (hd:(x == ("__debug__":Str))=false:=by decide)
  (O:starEach (e::es) X.env=(false,eval e X.env)::starEach es X.env:=by rfl) (a6:(backTo J (starEach es X.env)).any (·.1)=false:=by rfl):
  PS X (.Raise (some (.Call (.Name x a9) (e::es) [] J)) none pos) (uI L C t):=by
 intro U s V H ao D h;let(bm,N,nm,ac,bs,hdct,sn,sub,ab,col,dd,k0,k1,k2,k3,k5,mN,Z,a0,a5,T):=qb D.mod.kin c.ex;show wpAny_Raise_call_subT (C:=C) (nm:=nm) (q:=ac) (N:=N) (bs:=bs) (bm:=bm) (hdct:=hdct) (sn:=sn) (sub:=sub) (ab:=ab) (col:=col) (dd:=dd) (k0:=k0) (k1:=k1) (k2:=k2) (k3:=k3) (k5:=k5) (mN:=mN) PySem.F.excBase_ValueError (T.hasType PySem.F.excBase_ValueError.hasBase) (D.ok.hd a2) (by rw[O];change (false || (backTo J (starEach es X.env)).any (·.1))=false;rw[a6];rfl) a5
  (rN D a3 c.m ⟨rfl,?_⟩ hd)
 let q:=a1 J U s V H _ D h;rw[O] at q ⊢;show Calls.evalArgs_plain (pB q (λus ad a7=>?_) λο ο ah=>ah);let(vs,W,F,r,a4,hk):=a7;show(rfl,by rw[<-r.length];show a4,F.bk _ _ Z,a0.keeps F.bk,T.keeps F.bk,λh' Y mk=>a8 U V W ad h' Y (.ref C) us F mk hk)
theorem HC.flown {X:Cx} {a1:!(Addr×Obj)} {a3:St} {H H':Hp} {s s':Shared} {B W:Heap} {ap:Addr} {cls:Value} (U:HC X a1 a3 H s) (D:HC X a1 a3 H' s') (V:HQ B X.stack s.heap H H' s'.heap ap cls)
  (st:B.StaysIn W) (a2:s'.heap.UpToSlots W):HC X a1 a3 H' {s' with heap:=W}:=by
 let(a0,aq):=V.fl;let Z:∀b,b∉X.fs->b≠X.env.locals->b∉rE X.stack:=λb h1 h2 J=>by
  let q||q:=uA.mp (U.stkSub b J)
  .show h2 q
  .show h1 q
 let a7:∀b o,X.s₀.heap.get? b>o->b≠X.env.locals:=λb o e=>YA (NA (JA e) U.ok.above);let a4:∀{c:Addr} {v:Option Value},s'.heap.IsCell c v->W.IsCell c v:=λ{c v} ⟨o,ho,hd⟩=>by
  let(Y,e):=a2 c o ho λvs J=>by rw[hd] at J;cases J
  show(_,e,hd)
 let ad:∀b,b∈X.fs->∀o,s'.heap.get? b>o->∃Y,W.get? b>{o with slots:=Y}:=λb F o e=>by
  let(_,o',a5,hd):=D.funs.mem F;rw[e] at a5;cases a5;show a2 b o e hd
 show(D.ok,D.os,D.bare,(λb o e n F O=>?_,λb o e n F O=>?_,D.base.free,λb o e O=>?_,D.base.tups,D.base.frzs,D.base.tbls),?_,λx c e=>?_,D.free,D.freeC,λp a6=>?_,D.hok.flown V.trk aq.1 st,D.len)
 .show st b o (V.kept b o (U.base.keep b o e n F O) (U.base.free b o e n O) (Z b F (a7 b o e)))
 .let(Y,L):=D.base.slot b o e n F O;let(aw,N):=ad b F _ L;show⟨aw,N⟩
 .by_cases F:b∈X.fs
  .let(ab,L):=D.base.there b o e O;let(Y,N):=ad b F _ L;show⟨_,N⟩
  .let(ab,L):=U.base.there b o e O;let(ac,N):=V.alive b ab L (Z b F (a7 b o e));show⟨ac,st b ac N⟩
 .let(m,au,ar):=D.loc;show(m,a2.ns au,λi x v L N ao=>?_);let(u,r,l):=ar i x v L N ao;show(u,r,?_);let l||(k,c,e,J):=l
  .show .inl l
  .show .inr (k,c,e,a4 J)
 .let(v,J):=D.cell x c e;show⟨v,a4 J⟩
 .let(e,n,a8,a9,ah):=U.pin p a6;let(_,av,_,_,_):=D.pin p a6;show(st _ _ (V.kept p.1 p.2 e n (Z p.1 a9 a8)),av,a8,a9,ah)
structure XH (K:PySem.W.Frag) (mg:Str->Option Value) (x:Str) (D:Addr):Prop where
 m:mg x=↑D
 ty:PySem.W.typeIn K (.ref D)>(.type "type")
 cl:∃cd,PySem.W.clsIn K D>cd
 be:PySem.W.mroIn K D (.type "BaseException")>true
def sJ (K:PySem.W.Frag) (C D:Addr):Prop:=PySem.W.mroIn K C (.ref D)>true
set_option tactic.hygienic true in
theorem rb {K:PySem.W.Frag} {M:Model} {A:Around} {E:Value->Shared->Prop} {Q:Bool->Shared->Prop} {s:Shared} {mg:Str->Option Value} {x:Str} {ea C D:Addr} {o:Obj} (hin:K.In s.heap) (c:XH K mg x D) (sub:sJ K C D)
  (ho:s.heap.get? ea>o) (hcl:o.cls=.ref C) (q:Q true s):wpAny M A (excMatches (.ref ea) (.ref D)) Q E s:=by
 let(cd,hcd):=c.cl;let L1:=PySem.W.looks_typeIn (M:=M) hin c.ty;let L2':=PySem.W.looks_mroIn (M:=M) hin c.be;let L3:=PySem.W.looks_mroIn (M:=M) hin sub;let L4:PySem.W.Looks M s.heap (typeOf (.ref ea)) (.ref C):=hcl ▸ (PySem.W.Looks.ld ho).andThen .now;let L5:PySem.W.Looks M s.heap (isType (.ref D)) true:=by
  unfold PySem.W.clsIn at hcd
  split at hcd
  .rename_i ho';intro A' Q' E' s' k q';unfold isType loadHead;show dA (wpAny_loadPart (k _ _ (hin _ _ ho')) (wA q'))
  .cases hcd
 let L6:PySem.W.Looks M s.heap (isExcClass (.ref D)) true:=L5.andThen L2';let(h,g,d,t,os):=s;let f:=tc_notTuple;unfold excMatches isInstance;show dA (dA (L1.at ?_));rw[f];show wA ?_;simp only[XA,HB];show dA (wA ?_);rw[List.forIn_cons];show dA (dA (dA (L6.at ?_)));simp only[Bool.not_true,XA,HB];show wA ?_;dsimp only;rw[List.forIn_nil];show wA ?_;show dA (L4.at ?_);rw[List.forIn_cons];show dA (dA (dA (L3.at ?_)));simp only[yC];show wA ?_;dsimp only;show wA ?_;show wA q
def DG:Option HO->String
 |some (.lst _)=>"list"
 |some (.frz _ (.lst _))=>"list"
 |some (.tup _)=>"tuple"
 |some (.dK _)=>"dict"
 |some (.dT _)=>"dict"
 |_=>""
def kd (H:Hp):V->String
 |.non=>"NoneType"
 |.bl _=>"bool"
 |.int _=>"int"
 |.str _=>"str"
 |.ref a=>DG (H a)
 |_=>""
def Kn (H:Hp) (x:V):Prop:=kd H x≠""
def vI (n:String) (H:Hp) (x:V):Bool:=kd H x == n || (kd H x == "bool"&&n == "int")
theorem BO {K:PySem.W.Frag} {H:Hp} {x:V} (h:Kn H x):iF K H x (.type (kd H x)):=by
 cases x with
 |non=>show .non
 |bl b=>show .bl b
 |int i=>show .int i
 |str s=>show .str s
 |ref a=>
  let h:DG (H a)≠"":=h;change iF K H (.ref a) (.type (DG (H a)));cases e:H a with
  |none=>rw[e] at h;show absurd rfl h
  |some o=>
   rw[e] at h;cases o with
   |lst xs=>show .lst e
   |tup xs=>show .tup e
   |dK k=>show .dK e
   |dT k=>show .dT e
   |frz q u=>
    cases u with
    |lst xs=>show .frz e
    |_=>show absurd rfl h
   |_=>show absurd rfl h
 |_=>show absurd rfl h
theorem W0 (o:Option HO):DG o=""\/DG o="list"\/DG o="tuple"\/DG o="dict":=by
 unfold DG
 split<;>simp
theorem Kn.cases {H:Hp} {x:V} (h:Kn H x):kd H x="NoneType"\/kd H x="bool"\/kd H x="int"\/kd H x="str"\/kd H x="list"\/kd H x="tuple"\/kd H x="dict":=by
 cases x with
 |ref a=>
  let h:DG (H a)≠"":=h;change DG (H a)=_\/DG (H a)=_\/DG (H a)=_\/DG (H a)=_\/DG (H a)=_\/DG (H a)=_\/DG (H a)=_;let e||e||e||e:=W0 (H a)
  .show absurd e h
  .show .inr (.inr (.inr (.inr (.inl e))))
  .show .inr (.inr (.inr (.inr (.inr (.inl e)))))
  .show .inr (.inr (.inr (.inr (.inr (.inr e)))))
 |non=>show .inl rfl
 |bl b=>show .inr (.inl rfl)
 |int i=>show .inr (.inr (.inl rfl))
 |str z=>show .inr (.inr (.inr (.inl rfl)))
 |_=>show absurd rfl h
theorem ub (K:PySem.W.Frag):∀k∈["NoneType","bool","int","str","list","tuple","dict"],∀n∈["bool","int","str","list","tuple","dict"],PySem.W.kitOne K (.type k) (.type n)>(k == n || (k == "bool"&&n == "int")):=by
 let e:∀k∈["NoneType","bool","int","str","list","tuple","dict"],∀n∈["bool","int","str","list","tuple","dict"],(if (Value.type k == Value.type n)=true then some true else if PySem.W.kitMeta n=true then (fastBuiltinMro k).map (·.contains (.type n)) else none)>(k == n || (k == "bool"&&n == "int")):=∅;show λk hk n q=>e k hk n q
theorem JQ {X:Cx}:xE X (.builtin "isinstance") (λxs H Q=>∃x n,xs=[x,.ty n]/\n∈["bool","int","str","list","tuple","dict"]/\Kn H x/\Q (.bl (vI n H x)) H):=by
 intro U s V H xs us Q F r h;let(x,n,rfl,J,hk,q):=h;cases r with
 |cons L D=>
  cases D with
  |cons N D=>
   cases D;cases N;show ba F L (BO hk) (ub X.K _ ?_ n J) λO=>(.bl _,H,F.tok O,rfl,q)
   let e||e||e||e||e||e||e:=hk.cases<;>rw[e]<;>simp
theorem LL {X:Cx}:tZ X (unaryOp .USub) (rU λi=>.int (Neg.neg i)):=by
 intro J s L H x v Q D F h;let(i,rfl,q):=h;let(t,rfl):=F;show neg_int (.int _,H,D.tok _,⟨_,rfl⟩,q)
theorem wb {X:Cx} {pos:Pos} {keys:!(Option Expr)} {q:!Expr} {D:!(TE×TE)} (h:zO X pos keys q D) (h1:(keys.all (·.isSome))=true:=by rfl) (h2:keys.length=q.length:=by rfl) (F:keys≠[]:=by show nofun)
 (J:keys.length<=15:=by decide):PE X (.Dict keys q pos) (nI D):=Xa h h1 h2 F J
theorem ML {H:Hp} {i:Int}:Kn H (.int i)↔True:=⟨λο=>trivial,λο=>(by decide:"int"≠"")⟩
theorem NL {CX:CXT} {P:Program} {w:World} {K:PySem.W.Frag} {mg:Str->Option Value} {base:Heap} {N:!Str} {F:Str} {scope:Scope} {f:Addr} {q:Value} {A:Around} {D:!Env} {s:Shared} {H:Hp} {E:XK}:
 (tE CX P w K mg base N F scope f q A D s H E).K=K:=rfl
def UF:V->Bool
 |.int _=>true
 |_=>false
def uE (x:V) (l h:Int):Bool:=match x with
 |.int i=>decide (l<=i)&&decide (i<=h)
 |_=>false
theorem wI {i l h:Int}:uE (.int i) l h=(decide (l<=i)&&decide (i<=h)):=rfl
theorem xb {H:Hp} {x:V} (h:Kn H x):(vI "int" H x&& not (vI "bool" H x))=UF x:=by
 cases x with
 |ref a=>
  let h:DG (H a)≠"":=h;let e:kd H (.ref a)=DG (H a):=rfl;unfold vI;rw[e];let e||e||e||e:=W0 (H a)<;>rw[e]<;>first|rfl|exact absurd e h
 |_=>first|rfl|exact absurd rfl h
inductive X0 (t u:TS):Type where
 |mk:X0 t u
def sS (t u:TS) (_:X0 t u):TS:=λD σ H=>∃M:St->Hp->Prop,t {D with nx:=M} σ H/\∀σ' H',M σ' H'->u D σ' H'
theorem EG {X:Cx} {st:Stmt} {rest:!Stmt} {t u:TS} (h1:PS X st t) (h2:bG X rest u):bG X (st::rest) (sS t u .mk):=by
 intro F s V H D L h;let(M,h,O):=h;show wpAny_execs_cons (kD (h1 F s V H {D with nx:=M} L h) λf U q=>?_);cases f with
 |next=>
  let(J,H',N,q):=q;show h2 F U J H' D N (O J H' q)
 |ret v=>show q
 |brk=>show q
 |cont=>show q
def tJ:Option HO->Option (!V)
 |some (.lst xs)=>some xs
 |some (.frz _ (.lst xs))=>some xs
 |_=>none
def tS:Option HO->Option (!V)
 |some (.tup xs)=>some xs
 |some (.frz _ (.tup xs))=>some xs
 |_=>none
theorem yb {xs:!V}:tJ (some (.lst xs))>xs:=rfl
theorem zb {xs:!V}:tS (some (.tup xs))>xs:=rfl
set_option tactic.hygienic true in
theorem Ob {K:PySem.W.Frag} {H:Hp} {a:Addr} {xs:!V} (h:tJ (H a)>xs):pD K H a xs:=by
 unfold tJ at h
 split at h
 .rename_i e;cases h;show .inl (.inl e)
 .rename_i e;cases h;show .inl (.inr ⟨_,e⟩)
 .cases h
def rIxH:R2:=λx y H Q=>∃p xs i v,x=.ref p/\y=.int i/\tJ (H p)>xs/\SG xs i>v/\Q v H
theorem OL {X:Cx}:pO X rIxH:=by
 intro Z Y U s a2 H x a1 v u Q D V W h O;let(p,xs,i,a0,F,J,L,N,q):=h;show lI Z Y U s a2 H x a1 v u Q D V W (p,xs,i,a0,F,J,Ob L,N,q) O
theorem Pb {i j:Int}:eI (.int i) (.int j)=true:=rfl
theorem Qb {i j:Bool}:eI (.bl i) (.bl j)=true:=rfl
theorem Rb {i j:Str}:eI (.str i) (.str j)=true:=rfl
theorem uS:Int.natAbs 10=10:=rfl
theorem iE {H:Hp}:JC H H:=λο ο h=>h
theorem nE {H H':Hp} {p:Addr} {o:HO} (s:JC H H') (h:H' p=none):JC H (FC H' p o):=λb u e=>by
 let q:=s b u e;rw[VC (OD q h)];show q
inductive mH (g:TG) (tb:TS):Type where
 |mk:mH g tb
def xI (g:TG) (tb:TS) (_:mH g tb) (J:It):TS:=λD σ H=>∃W:Nat->Nat->St->Hp->Prop,(∃m,W 0 m σ H)/\∀i m σ H,W i m σ H->
 (J.stop i H/\D.nx σ H)\/(J.go i H/\∃N:St->Hp->Prop,(∀σ' H',N σ' H'->∃m',m' < m/\W (i+1) m' σ' H')/\∀x H',J.yld i H x H'->g x σ H' λσ2 H2=>tb {D with nx:=N,ct:=N,bk:=D.nx} σ2 H2)
def ZJ (wi:TI) (g:TG) (tb:TS) (h:mH g tb):TS:=λD σ H=>wi σ H λJ H1=>xI g tb h J D σ H1
theorem dJ {X:Cx} {D q:Expr} {F:!Stmt} {L:TI} {g:TG} {J:TS} {pos:Pos} (V:PassesOwn (model X.prog X.w) X.A X.env X.xe) (O:X.calm=true) (hi:PI X D q L) (U:PG X D g) (N:bG X F J)
 (W:∀x,foldedSetIterable q X.env x=pure x:=by intro _;rfl):PS X (.For D q F [] pos) (ZJ L g J .mk):=mL V O hi U N W
theorem KQ {lo:Int} {n:Nat} {g:TG} {F:TS} {h:mH g F} {D:bF} {q:St} {H:Hp} (Pv:Nat->St->Hp->Prop) (h0:Pv 0 q H)
 (L:∀i q H,i < n->Pv i q H->g (.int (lo+i)) q H λN J=>F {D with nx:=Pv (i+1),ct:=Pv (i+1),bk:=D.nx} N J) (hd:∀q H,Pv n q H->D.nx q H):xI g F h (lJ lo n) D q H:=O9 Pv h0 L hd
theorem LQ {K:PySem.W.Frag} {a:Addr} {xs:!V} {g:TG} {F:TS} {h:mH g F} {D:bF} {q:St} {H:Hp} (Pv:Nat->St->Hp->Prop) (h0:Pv 0 q H) (L:∀i q H,i<=xs.length->Pv i q H->pD K H a xs)
 (N:∀i x q H,xs[i]?>x->Pv i q H->g x q H λO J=>F {D with nx:=Pv (i+1),ct:=Pv (i+1),bk:=D.nx} O J) (hd:∀q H,Pv xs.length q H->D.nx q H):xI g F h (lL K a) D q H:=N9 Pv h0 L N hd
def pw (n:Int):Int:=2 ^ n.toNat
theorem Y0 (n:Nat):pw (n:Int)=2 ^ n:=by unfold pw;rw[OB]
theorem MQ (n:Nat):pw ((n+1:Nat):Int)=pw (n:Int) * 2:=by rw[Y0,Y0,Int.pow_succ]
theorem NQ (n:Int):1<=pw n:=by
 unfold pw;generalize n.toNat=k
 induction k with
 |zero=>decide
 |succ k q=>rw[Int.pow_succ];omega
theorem Z0 {n m : Nat} (h : n <= m) : pw (n : Int) <= pw (m : Int) := by
  induction m with
  | zero => have : n = 0 := by omega
            subst this; show DB _
  | succ k ih =>
    let e||e:=(by omega : n <= k \/ n = k + 1)
    . have := ih e; have := NQ k; rw [MQ]; omega
    . subst e; show DB _
theorem vS {n m:Int} (h:n<=m) (F:0<=m):pw n<=pw m:=by
 let q:pw n=pw (n.toNat:Int):=by unfold pw;rw[OB]
 let D:pw m=pw (m.toNat:Int):=by unfold pw;rw[OB]
 rw[q,D];show Z0 ⋯
theorem wS {n:Int} (h:n<=24):pw n<=16777216:=vS (m:=24) h (by decide)
theorem Sb {n:Int} (h:n<=4):pw n<=16:=vS (m:=4) h (by decide)
theorem xS {x q:Int} (h1:2<=x) (h2:x<=3) (D:1<=q) (F:q<=8):2<=x * q/\x * q<=24:=by
 let e||e:=(by omega:x=2\/x=3)<;>subst e<;>omega
set_option tactic.hygienic true in
theorem N1 {f:Str} {v:V} {n:Nat}:∀{fs:!(Str×V)},fs.length < n->(LC f v fs).length < n+1
 |[],_=>by change 1 < n+1;rename_i h;simp at h;omega
 |(g,x)::r,h=>by
  unfold LC
  split
  .show Nat.lt_succ_of_lt h
  .cases n with
   |zero=>show absurd h (Nat.not_lt_zero _)
   |succ m=>show Nat.succ_lt_succ (N1 (Nat.lt_of_succ_lt_succ h))
section
variable {X:Cx} {pins pins2:!(Addr×Obj)} {σ:St} {H:Hp} {s:Shared} {E':Value->Shared->Prop}
theorem Cx.Ok.re {pn:!(Addr×Obj)} (ok:X.Ok):({X with xe:=E',pn:=pn}:Cx).Ok:=
 (ok.mod,ok.kind,ok.glob,ok.blt,ok.above,ok.inj,ok.has,ok.cab,ok.hd,ok.frames,ok.stk,ok.exf,ok.bs,ok.bsz,ok.noex,ok.exfs,ok.funs,ok.frf)
theorem HC.re (q:HC X pins σ H s):HC {X with xe:=E',pn:=X.pn++pins} [] σ H s:=
 (q.ok.re,q.os,q.bare,q.base,q.loc,q.cell,q.free,q.freeC,λp D=>q.pin p (by rw[uB] at D;show D),q.hok,q.len)
theorem HC.unre (ok:X.Ok) (q:HC {X with xe:=E',pn:=X.pn++pins} pins2 σ H s):HC X pins σ H s:=
 (ok,q.os,q.bare,q.base,q.loc,q.cell,q.free,q.freeC,λp D=>q.pin p (EA _ D),q.hok,q.len)
theorem HC.marked {v : Option Value} (I : HC X pins σ H s) : HC { X with A := X.A.mark v, calm := false, xe := E' } pins σ H s :=
  ((I.ok.mod, I.ok.kind, I.ok.glob, I.ok.blt, I.ok.above, I.ok.inj, I.ok.has, I.ok.cab, λz => Bool.noConfusion z, I.ok.frames, I.ok.stk, I.ok.exf, I.ok.bs, I.ok.bsz, I.ok.noex, I.ok.exfs, I.ok.funs, I.ok.frf),
    I.os, I.bare, I.base, I.loc, I.cell, I.free, I.freeC, I.pin, I.hok, I.len)
theorem HC.unmarked {v:Option Value} (ok:X.Ok) (I:HC {X with A:=X.A.mark v,calm:=false,xe:=E'} pins σ H s):HC X pins σ H s:=
 (ok,I.os,I.bare,I.base,I.loc,I.cell,I.free,I.freeC,I.pin,I.hok,I.len)
end
end L2
namespace PySem.W
open PySem PySem.Spec PySem.Calls PyProof.Rows
open Builtin Builtin.ObjectAttr Builtin.Getset_descriptor
def aK (e C:Addr) (h:Heap):Prop:=∃o,h.get? e>o/\o.cls=.ref C
section
variable {K:Frag} {e C:Addr}
theorem aK.ty {M:Model} {h:Heap} (p:aK e C h):Looks M h (typeOf (.ref e)) (.ref C):=by
 let(o,h1,h2):=p;show h2 ▸ (Looks.ld h1).andThen .now
variable {prog:Program} {w:World} {A:Around} {E:Value->Shared->Prop} {s:Shared}
end
end PySem.W
namespace L2
open PySem PySem.Spec PyProof.Rows
def CO:V->Value
 |.ref a=>.ref a
 |.ty n=>.type n
 |_=>.none
theorem Tb {a:Addr}:CO (.ref a)=.ref a:=rfl
theorem Ub {n:String}:CO (.ty n)=.type n:=rfl
inductive Dv where
 |leaf (v:V)
 |seq (t:Bool) (ds:!Dv)
mutual
noncomputable def gE (K:PySem.W.Frag) (H:Hp):Dv->V->Prop
 |.leaf v,x=>x=v/\KG v=true
 |.seq t ds,x=>∃a xs,x=.ref a/\(if t=true then uD K H a xs else pD K H a xs)/\nD K H ds xs
noncomputable def nD (K:PySem.W.Frag) (H:Hp):!Dv->!V->Prop
 |[],xs=>xs=[]
 |d::ds,xs=>∃x r,xs=x::r/\gE K H d x/\nD K H ds r
end
mutual
noncomputable def yE:Dv->Dv->Bool
 |.leaf _,.leaf _=>true
 |.seq t ds,.seq u es=>t == u&&AD ds es
 |_,_=>false
noncomputable def AD:!Dv->!Dv->Bool
 |d::ds,e::es=>yE d e&&AD ds es
 |_,_=>true
end
mutual
noncomputable def VE:Dv->Dv->Bool
 |.leaf v,.leaf w=>uO v w
 |.seq _ ds,.seq _ es=>ED ds es
 |_,_=>false
noncomputable def ED:!Dv->!Dv->Bool
 |[],[]=>true
 |d::ds,e::es=>VE d e&&ED ds es
 |_,_=>false
end
mutual
noncomputable def nH:Dv->Nat
 |.leaf _=>0
 |.seq _ ds=>QD ds+1
noncomputable def QD:!Dv->Nat
 |[]=>0
 |d::ds=>max (nH d) (QD ds)
end
theorem nD.length {K:PySem.W.Frag} {H:Hp}:∀{ds:!Dv} {xs:!V},nD K H ds xs->ds.length=xs.length
 |[],xs,h=>by unfold nD at h;subst h;rfl
 |d::ds,xs,h=>by
  unfold nD at h;let(x,r,rfl,_,h):=h;simp[h.length]
theorem nD.get {K:PySem.W.Frag} {H:Hp}:∀{ds:!Dv} {xs:!V} {j:Nat} {d:Dv},nD K H ds xs->ds[j]?>d->∃x,xs[j]?>x/\gE K H d x
 |[],xs,j,d,h,e=>by simp at e
 |d'::ds,xs,0,d,h,e=>by
  unfold nD at h;let(x,r,rfl,hx,h):=h;simp at e;subst e;show(x,rfl,hx)
 |d'::ds,xs,j+1,d,h,e=>by
  unfold nD at h;let(x,r,rfl,hx,h):=h;let(y,e1,e2):=nD.get (j:=j) h (by simpa using e);show(y,by simpa using e1,e2)
theorem Vb (n:Nat) (f:Nat->Bool):(List.range (n+1)).all f=(f 0&&(List.range n).all λj=>f (j+1)):=by
 rw[List.range_succ_eq_map,List.all_cons,List.all_map];rfl
theorem O1:∀(ds es:!Dv),ED ds es=(decide (ds.length=es.length)&&(List.range (min ds.length es.length)).all λj=>VE (ds.getD j (.leaf .non)) (es.getD j (.leaf .non)))
 |[],[]=>by simp[ED]
 |[],e::es=>by simp[ED]
 |d::ds,[]=>by simp[ED]
 |d::ds,e::es=>by
  let ih:=O1 ds es;rw[ED,ih];let hm:min (d::ds).length (e::es).length=min ds.length es.length+1:=by simp[Nat.succ_min_succ]
  rw[hm,Vb];simp only[dB,Nat.add_right_cancel_iff,List.getD_cons_zero,List.getD_cons_succ];cases VE d e<;>cases decide (ds.length=es.length)<;>simp
theorem P1 {v:V} (h:KG v=true):uO v v=true:=by
 cases v<;>first|rfl|(simp[uO];done)|exact absurd h (by simp[KG])
mutual
theorem Q1 {X:Cx} {pins:!(Addr×Obj)} {σ:St} {H:Hp} {s:Shared} (I:HC X pins σ H s):∀(d e:Dv) (x:V),yE d e=true->gE X.K H d x->gE X.K H e x->VE d e=true
 |.leaf a,.leaf b,x,_,hx,hy=>by
  unfold gE at hx hy;let(rfl,fx):=hx;let(rfl,fy):=hy;rw[VE];show P1 fx
 |.leaf a,.seq t es,_,h,_,_=>by simp[yE] at h
 |.seq t ds,.leaf b,_,h,_,_=>by simp[yE] at h
 |.seq t ds,.seq t' es,x,h,hx,hy=>by
  rw[yE,MA] at h;let ht:=WB.mp h.1;subst ht;unfold gE at hx hy;let(a,xs,rfl,hsx,hL):=hx;let(b,ys,e,hsy,hM):=hy;cases e;rw[VE];let exy:xs=ys:=by
   cases t with
   |true=>show I.tuple_inj (by simpa using hsx) (by simpa using hsy)
   |false=>show I.list_inj (by simpa using hsx) (by simpa using hsy)
  subst exy;show U1 I ds es xs h.2 hL hM
theorem U1 {X:Cx} {pins:!(Addr×Obj)} {σ:St} {H:Hp} {s:Shared} (I:HC X pins σ H s):∀(ds es:!Dv) (xs:!V),AD ds es=true->nD X.K H ds xs->nD X.K H es xs->ED ds es=true
 |[],[],_,_,_,_=>by rw[ED]
 |[],e::es,xs,_,hx,hy=>by
  unfold nD at hx hy;let(x,r,e1,_):=hy;rw[hx] at e1;cases e1
 |d::ds,[],xs,_,hx,hy=>by
  unfold nD at hx hy;let(x,r,e1,_):=hx;rw[hy] at e1;cases e1
 |d::ds,e::es,xs,h,hx,hy=>by
  rw[AD,MA] at h;unfold nD at hx hy;let(x,r,rfl,hx,hxr):=hx;let(y,r',e1,hy,hyr):=hy;cases e1;rw[ED,Q1 I d e x h.1 hx hy,U1 I ds es r h.2 hxr hyr]
  rfl
end
theorem V1 {X:Cx} {a5:!(Addr×Obj)} {a6:St} {H:Hp} {s:Shared} (O:HC X a5 a6 H s) {A:Around} {t:Bool} {J es:!Dv} {a b:Addr} {xs ys:!V} (a7:A.units < cLine)
  (Z:if t=true then uD X.K H a xs else pD X.K H a xs) (a0:if t=true then uD X.K H b ys else pD X.K H b ys) (a8:J.length=xs.length) (a9:es.length=ys.length)
  (a1:∀(j:Nat) (u v:Value) (us vs:!Value),OC xs us->OC ys vs->us[j]?>u->vs[j]?>v->SeqAt.EqAt A.in1 s u v (VE (J.getD j (.leaf .non)) (es.getD j (.leaf .non)))):
  SeqAt.RcAt A s (.ref a) (.ref b) (ED J es):=by
 rw[O1];cases t with
 |false=>
  let(D,L,pl,_):=O.list (show pD X.K H a xs by simpa using Z);let(F,N,U,_):=O.list (show pD X.K H b ys by simpa using a0);let a3:=L.length;let a4:=N.length;by_cases Y:J.length=es.length
  .let q:=SeqAt.RcAt.lists (e:=λj=>VE (J.getD j (.leaf .non)) (es.getD j (.leaf .non))) pl.isList U.isList (by simp;omega) (by omega:A.units < cLine) (λj h1 h2=>by
    let h1:j < D.length:=by simpa using h1
    let h2:j < F.length:=by simpa using h2
    let e:=a1 j (D[j]) (F[j]) D F L N (by simp[h1]) (by simp[h2]);simpa using e)
   rw[pA Y,Bool.true_and];let W:min J.length es.length=D.toArray.size:=by simp;omega
   rw[W];show q
  .let q:=SeqAt.RcAt.lists_lengths (A:=A) pl.isList U.isList (by simp;omega) (by omega:A.units < cLine);rw[DA Y,Bool.false_and];show q
 |true=>
  let(D,L,pl,_):=O.tuple (show uD X.K H a xs by simpa using Z);let(F,N,U,_):=O.tuple (show uD X.K H b ys by simpa using a0);let a3:=L.length;let a4:=N.length;let q:=SeqAt.RcAt.tuples (e:=λj=>VE (J.getD j (.leaf .non)) (es.getD j (.leaf .non))) (show s.heap.IsTuple a D.toArray from pl) (show s.heap.IsTuple b F.toArray from U) (by omega:A.units < cLine) (λj h1 h2=>by
    let h1:j < D.length:=by simpa using h1
    let h2:j < F.length:=by simpa using h2
    let e:=a1 j (D[j]) (F[j]) D F L N (by simp[h1]) (by simp[h2]);simpa using e)
  let W:min D.toArray.size F.toArray.size=min J.length es.length:=by simp;omega
  let a2:(D.toArray.size == F.toArray.size)=decide (J.length=es.length):=by
   rw[rB];simp;omega
  rw[W,a2,Bool.and_comm] at q;show q
mutual
theorem Wb {X:Cx} {pins:!(Addr×Obj)} {σ:St} {H:Hp} {s:Shared} (I:HC X pins σ H s):∀(d e:Dv) (A:Around) (x y:V) (u v:Value),A.units+nH d < cLine->yE d e=true->gE X.K H d x->gE X.K H e y->KC x u->KC y v->SeqAt.EqAt A s u v (VE d e)
 |.leaf a,.leaf b,A,x,y,u,v,_,_,hx,hy,rx,ry=>by
  unfold gE at hx hy;let(rfl,fx):=hx;let(rfl,fy):=hy;rw[VE];show xL rx ry fx fy
 |.leaf a,.seq t es,A,x,y,u,v,_,h,_,_,_,_=>by simp[yE] at h
 |.seq t ds,.leaf b,A,x,y,u,v,_,h,_,_,_,_=>by simp[yE] at h
 |.seq t ds,.seq t' es,A,x,y,u,v,hu,h,hx,hy,rx,ry=>by
  let h0:=h;rw[yE,MA] at h;let ht:=WB.mp h.1;subst ht;let hx0:=hx;let hy0:=hy;unfold gE at hx hy;let(a,xs,rfl,hsx,hL):=hx;let(b,ys,rfl,hsy,hM):=hy;cases rx;cases ry;by_cases hab:a=b
  .subst hab;rw[Q1 I _ _ _ h0 hx0 hy0];show SeqAt.EqAt.same _
  .rw[nH] at hu;let hu1:A.in1.units+QD ds < cLine:=by change A.units+1+QD ds < cLine;omega
   let ih:=yS I ds es A.in1 xs ys hu1 h.2 hL hM;rw[VE];show SeqAt.EqAt.of_refs hab (V1 I ⋯ hsx hsy hL.length hM.length ih)
theorem yS {X:Cx} {pins:!(Addr×Obj)} {σ:St} {H:Hp} {s:Shared} (I:HC X pins σ H s):∀(ds es:!Dv) (A:Around) (xs ys:!V),A.units+QD ds < cLine->AD ds es=true->nD X.K H ds xs->nD X.K H es ys->
  ∀(j:Nat) (u v:Value) (us vs:!Value),OC xs us->OC ys vs->us[j]?>u->vs[j]?>v->SeqAt.EqAt A s u v (VE (ds.getD j (.leaf .non)) (es.getD j (.leaf .non)))
 |[],es,A,xs,ys,_,_,hx,hy,j,u,v,us,vs,rx,ry,e1,e2=>by
  unfold nD at hx;subst hx;cases rx;simp at e1
 |d::ds,[],A,xs,ys,_,_,hx,hy,j,u,v,us,vs,rx,ry,e1,e2=>by
  unfold nD at hy;subst hy;cases ry;simp at e2
 |d::ds,e::es,A,xs,ys,hu,h,hx,hy,j,u,v,us,vs,rx,ry,e1,e2=>by
  rw[AD,MA] at h;rw[QD] at hu;unfold nD at hx hy;let(x,r,rfl,hx,hxr):=hx;let(y,r',rfl,hy,hyr):=hy;cases rx with
  |cons p1 p2=>
   cases ry with
   |cons q1 q2=>
    cases j with
    |zero=>
     simp at e1 e2;subst e1 e2;show Wb I d e A x y _ _ ⋯ h.1 hx hy p1 q1
    |succ k=>
     let z:=yS I ds es A r r' ⋯ h.2 hxr hyr k u v _ _ p2 q2 (by simpa using e1) (by simpa using e2);simpa using z
end
theorem W1 {A:Around} {k:Nat} (q:VD k A):A.units+4+2 < cLine:=by have:=q.units;omega
def DO (K:PySem.W.Frag) (n:Nat):R2:=λx y H Q=>∃t ds es,gE K H (.seq t ds) x/\gE K H (.seq t es) y/\AD ds es=true/\QD ds<=n/\Q (.bl (ED ds es)) H
theorem EO {X:Cx} {Z:!(Addr×Obj)} {a2:St} {H:Hp} {s:Shared} (D:HC X Z a2 H s) {A:Around} {n:Nat} (a3:A.units+n+2 < cLine) {t:Bool} {q es:!Dv} {x O:V} {u v:Value} (L:gE X.K H (.seq t q) x) (N:gE X.K H (.seq t es) O) (U:AD q es=true) (hd:QD q<=n)
  (a0:KC x u) (a1:KC O v):SeqAt.RcAt A s u v (ED q es):=by
 unfold gE at L N;let(a,xs,rfl,W,F):=L;let(b,ys,rfl,Y,J):=N;cases a0;cases a1;show V1 D ⋯ W Y F.length J.length (yS D q es A.in1 xs ys (by change A.units+1+QD q < cLine;omega) U F J)
theorem X1 {X:Cx} {n:Nat} (J:X.A.units+n+2 < cLine):gF X (compareOp .Eq) (DO X.K n):=by
 intro W s Z H x Y v u Q D O U h;let(t,V,es,L,N,F,hd,q):=h;show EO D J L N F hd O U X.prog X.w X.xe _ (.bl _,H,D,rfl,q)
def MD (ns:!Int):!Dv:=ns.map λi=>.leaf (.int i)
theorem Y1 {K:PySem.W.Frag} {H:Hp}:∀(ns:!Int),nD K H (MD ns) (ns.map V.int)
 |[]=>by unfold MD nD;rfl
 |n::ns=>by
  change nD K H (.leaf (.int n)::MD ns) (.int n::ns.map V.int);unfold nD;show(_,_,rfl,by unfold gE;show⟨rfl,rfl⟩,Y1 ns)
theorem Z1 {K:PySem.W.Frag} {H:Hp} {a:Addr} {ns:!Int} (h:uD K H a (ns.map V.int)):gE K H (.seq true (MD ns)) (.ref a):=by
 unfold gE;show(a,_,rfl,by simpa using h,Y1 ns)
theorem j2:∀(ns ms:!Int),AD (MD ns) (MD ms)=true
 |[],_=>by unfold MD;simp[AD]
 |_::_,[]=>by unfold MD;simp[AD]
 |n::ns,m::ms=>by
  change AD (.leaf (.int n)::MD ns) (.leaf (.int m)::MD ms)=true;rw[AD,yE,j2 ns ms];rfl
theorem N2:∀(ns:!Int),QD (MD ns)=0
 |[]=>by unfold MD;simp[QD]
 |n::ns=>by
  change QD (.leaf (.int n)::MD ns)=0;rw[QD,nH,N2 ns];rfl
theorem O2:∀(ns ms:!Int),ED (MD ns) (MD ms)=decide (ns=ms)
 |[],[]=>by unfold MD;simp[ED]
 |[],_::_=>by unfold MD;simp[ED]
 |_::_,[]=>by unfold MD;simp[ED]
 |n::ns,m::ms=>by
  change ED (.leaf (.int n)::MD ns) (.leaf (.int m)::MD ms)=_;rw[ED,VE,O2 ns ms];change ((n == m)&&decide (ns=ms))=_;rw[rB];simp
def kF (sc:Scope) (env:Env) (x:Str) (fs:!Str):Bool:=
 sc.kind == .function&&sc.names.all (λy=>y.2 != .cell&&(y.2 != .local || sc.names.lookup y.1 == some .local)&&(y.2 != .free || env.kindOf y.1 == some .cell || env.kindOf y.1 == some .free))&&
  sc.names.lookup x == some .local&&fs.all (λf=>sc.names.lookup f == some .free)
structure WE (sc:Scope) (env:Env) (x:Str) (fs:!Str):Prop where
 kind:sc.kind=.function
 nocell:∀y∈sc.names,y.2≠.cell
 own:∀y∈sc.names,y.2=.local->sc.names.lookup y.1>.local
 fr:∀y∈sc.names,y.2=.free->env.kindOf y.1>.cell\/env.kindOf y.1>.free
 x:sc.names.lookup x>.local
 fs:∀f∈fs,sc.names.lookup f>.free
theorem WE.of {J:Scope} {env:Env} {x:Str} {fs:!Str} (h:kF J env x fs=true):WE J env x fs:=by
 unfold kF at h;simp only[MA,WB,List.all_eq_true,Bool.or_eq_true,bne_iff_ne,ne_eq] at h;let(((h1,h2),L),N):=h;show(h1,λF D=>(h2 F D).1.1,λF D e=>?_,λF D e=>?_,L,N)
 .let q||q:=(h2 F D).1.2
  .show absurd e q
  .show q
 .rcases (h2 F D).2 with (q|q)|q
  .show absurd e q
  .show .inl q
  .show .inr q
theorem zS {env:Env}:∀(names:!(Str×NameKind)) (acc:!(Str×Addr)),(∀n,(n,NameKind.free)∈names->∃c,env.cells.lookup n>c)->
  ∃cl,(forIn names acc λy r=>(do if (y.2 == NameKind.free)=true then do let c<-cellOf env y.1;pure (ForInStep.yield ((y.1,c)::r)) else pure (ForInStep.yield r):Sem (ForInStep (!(Str×Addr)))))=pure cl/\
   (∀n c,cl.lookup n>c->acc.lookup n>c\/env.cells.lookup n>c)/\∀n,(∃c,acc.lookup n>c)\/(n,NameKind.free)∈names->∃c,cl.lookup n>c
 |[],acc,_=>(acc,rfl,λο ο e=>.inl e,λn h=>h.elim id λz=>nomatch z)
 |(n,k)::r,acc,h=>by
  let hr:∀m,(m,NameKind.free)∈r->∃c,env.cells.lookup m>c:=λm hm=>h m (qA _ hm);by_cases hk:k=.free
  .subst hk;let(c,hc):=h n aA;let(cl,e,h1,h2):=zS r ((n,c)::acc) hr;show(cl,?_,λm c' hm=>?_,λm hm=>h2 m ?_)
   .rw[List.forIn_cons];simp only[beq_self_eq_true,yC,cellOf,hc,pure_bind];show e
   .let z||z:=h1 m c' hm
    .rw[nC] at z;cases q:m == n with
     |true=>
      rw[q] at z;cases z;rw[WB.mp q];show .inr hc
     |false=>rw[q] at z;show .inl z
    .show .inr z
   .rw[nC];let(c',z)||hm:=hm
    .cases q:m == n with
     |true=>show .inl ⟨c,rfl⟩
     |false=>show .inl ⟨c',z⟩
    .let z||z:=uA.mp hm
     .cases z;rw[beq_self_eq_true];show .inl ⟨c,rfl⟩
     .show .inr z
  .let(cl,e,h1,h2):=zS r acc hr;show(cl,?_,h1,λm hm=>h2 m ?_)
   .rw[List.forIn_cons];let hb:(k == NameKind.free)=false:=by simpa using hk
    simp only[hb,XA,HB,pure_bind];show e
   .let z||hm:=hm
    .show .inl z
    .let z||z:=uA.mp hm
     .cases z;show absurd rfl hk
     .show .inr z
theorem Xb {env:Env} {F:Scope} (h:∀n,(n,NameKind.free)∈F.names->∃c,env.cells.lookup n>c):
  ∃D,closureFor F env=pure D/\(∀n c,D.lookup n>c->env.cells.lookup n>c)/\∀n,(n,NameKind.free)∈F.names->∃c,D.lookup n>c:=by
 let(D,e,h1,h2):=zS F.names [] h;show(D,?_,λn c L=>(h1 n c L).elim nofun id,λn J=>h2 n (.inr J));unfold closureFor;simp only[bind_pure];show e
theorem AS {env:Env}:∀{names:!(Str×NameKind)} {x:Str} {k:NameKind},(names.map λ(n,k)=>if (k == NameKind.free&&env.scope.kind == .function&&env.kindOf n == some .cell) then (n,NameKind.cell) else (n,k)).lookup x>k->
  k=.cell\/k=.free->names.lookup x>.free\/names.lookup x>.cell
 |[],_,_,h,_=>by simp at h
 |(n,k0)::r,x,k,h,hk=>by
  let ih:=@AS env r x k;let h:List.lookup x ((if (k0 == NameKind.free&&env.scope.kind == .function&&env.kindOf n == some .cell)=true then (n,NameKind.cell) else (n,k0))::(r.map λ(n,k)=>if (k == NameKind.free&&env.scope.kind == .function&&env.kindOf n == some .cell) then (n,NameKind.cell) else (n,k)))>k:=h;by_cases hc:(k0 == NameKind.free&&env.scope.kind == .function&&env.kindOf n == some .cell)=true
  .rw[jA hc] at h;simp only[nC] at h ⊢;cases hx:x == n with
   |true=>
    simp only[MA,WB] at hc;rw[hc.1.1];show .inl rfl
   |false=>rw[hx] at h;show ih h hk
  .rw[fA hc] at h;simp only[nC] at h ⊢;cases hx:x == n with
   |true=>
    rw[hx] at h;cases h;let rfl||rfl:=hk
    .show .inr rfl
    .show .inl rfl
   |false=>rw[hx] at h;show ih h hk
theorem P2 {env:Env}:∀{names:!(Str×NameKind)} {x:Str},names.lookup x>.free->
  (names.map λ(n,k)=>if (k == NameKind.free&&env.scope.kind == .function&&env.kindOf n == some .cell) then (n,NameKind.cell) else (n,k)).lookup x>.cell\/(names.map λ(n,k)=>if (k == NameKind.free&&env.scope.kind == .function&&env.kindOf n == some .cell) then (n,NameKind.cell) else (n,k)).lookup x>.free
 |[],_,h=>by simp at h
 |(n,k0)::r,x,h=>by
  let ih:=@P2 env r x;change List.lookup x ((if (k0 == NameKind.free&&env.scope.kind == .function&&env.kindOf n == some .cell)=true then (n,NameKind.cell) else (n,k0))::_)=_\/List.lookup x ((if (k0 == NameKind.free&&env.scope.kind == .function&&env.kindOf n == some .cell)=true then (n,NameKind.cell) else (n,k0))::_)=_;simp only[nC] at h;by_cases hc:(k0 == NameKind.free&&env.scope.kind == .function&&env.kindOf n == some .cell)=true
  .rw[jA hc];simp only[nC];cases hx:x == n with
   |true=>show .inl rfl
   |false=>rw[hx] at h;show ih h
  .rw[fA hc];simp only[nC];cases hx:x == n with
   |true=>rw[hx] at h;show .inr h
   |false=>rw[hx] at h;show ih h
def BD (X:Cx) (scope:Scope) (cl:!(Str×Addr)) (C:Addr) (N:!Str) (s₀:Shared) (H₀:Hp) (fp:!Addr) (xe:Value->Shared->Prop):Cx:=
 {X with N:=N,s₀:=s₀,H₀:=H₀,env:=compEnvC scope cl C X.env,outer:=X.stack,stack:=X.stack,ex:=fp,fn:=λο=>false,pn:=[],xe:=xe}
theorem bK {X:Cx}:XW X (λο ο ο=>False):=λο ο ο ο ο ο ο ο ο ο ο ο ο ο ο h=>h.elim
inductive oH (g:TG) (tt:TT) (te:TE):Type where
 |mk:oH g tt te
def PF (X:Cx) (ifs:!Expr) (tt:TT):Prop:=
 ∀(pins:!(Addr×Obj)) (s:Shared) (σ:St) (H:Hp) (Q:Bool->Hp->Prop),HC X pins σ H s->tt σ H Q->
  wpAny (model X.prog X.w) X.A (forIn ifs true λc r=>if r=true then do let ok<-isTrue c X.env (eval c X.env);pure (ForInStep.yield ok) else pure (ForInStep.yield r)) (TP X pins σ Q) X.xe s
def tYes:TT:=λο H Q=>Q true H
theorem zN {X:Cx}:PF X [] tYes:=λο ο ο H ο I h=>by
 simp only[List.forIn_nil];show wA (H,I,h)
theorem BS {X:Cx} {c:Expr} {q:TT} (h:PT X c q):PF X [c] q:=λJ s L H Q D F=>wpAny_tests_one (h J s L H Q D F)
def CH (g:TG) (tt:TT) (te:TE) (_:oH g tt te) (J:It) (σ0:St) (D:Addr) (Q:Hp->Prop) (H:Hp):Prop:=
 ∃W:Nat->Nat->!V->St->Hp->Prop,(∃m,W 0 m [] σ0 (FC H D (.lst [])))/\∀i m ys σ H,W i m ys σ H->
  (J.stop i H/\Q H)\/(J.go i H/\∃N:!V->St->Hp->Prop,(∀ys σ H,N ys σ H->∃m',m' < m/\W (i+1) m' ys σ H)/\
   ∀y H',J.yld i H y H'->g y σ H' λσ2 H2=>tt σ2 H2 λb H2'=>if b=true then te σ2 H2' λv H3=>H3 D>(.lst ys)/\ys.length < sizeLine/\N (ys++[v]) σ2 (FC H3 D (.lst (ys++[v]))) else N ys σ2 H2')
def yI (wi:TI) (ix:!Nat) (g:TG) (tt:TT) (te:TE) (h:oH g tt te):TE:=λσ H Q=>wi σ H λJ H1=>∀D,H1 D=none->CH g tt te h J (none::ix.map λi=>(σ[i]?).join) D (λH'=>Q (.ref D) H') H1
theorem Q2 {lo:Int} {n:Nat} {g:TG} {N:TT} {L:TE} {h:oH g N L} {W:St} {F:Addr} {Q:Hp->Prop} {H:Hp} (Pv:Nat->!V->St->Hp->Prop) (h0:Pv 0 [] W (FC H F (.lst [])))
  (a0:∀i ys D H,i < n->Pv i ys D H->g (.int (lo+i)) D H λJ Y=>N J Y λb O=>if b=true then L J O λv U=>U F>(.lst ys)/\ys.length < sizeLine/\Pv (i+1) (ys++[v]) J (FC U F (.lst (ys++[v]))) else Pv (i+1) ys J O) (hd:∀ys D H,Pv n ys D H->Q H):
  CH g N L h (lJ lo n) W F Q H:=by
 show(λi m ys D H=>i+m=n/\Pv i ys D H,(n,Nat.zero_add n,h0),λi m ys D H ⟨e,p⟩=>?_);by_cases hi:i < n
 .show .inr (hi,Pv (i+1),λys D H q=>(m - 1,⋯,⋯,q),?_);rintro a1 H' ⟨rfl,rfl⟩;show a0 i ys D H' hi p
 .let Z:i=n:=⋯;subst Z;show .inl ⟨yA _,hd ys D H p⟩
theorem AN {K:PySem.W.Frag} {a:Addr} {xs:!V} {g:TG} {O:TT} {N:TE} {h:oH g O N} {Y:St} {F:Addr} {Q:Hp->Prop} {H:Hp} (Pv:Nat->!V->St->Hp->Prop) (h0:Pv 0 [] Y (FC H F (.lst []))) (a1:∀i ys D H,i<=xs.length->Pv i ys D H->pD K H a xs)
  (a2:∀i x ys D H,xs[i]?>x->Pv i ys D H->g x D H λJ Z=>O J Z λb U=>if b=true then N J U λv W=>W F>(.lst ys)/\ys.length < sizeLine/\Pv (i+1) (ys++[v]) J (FC W F (.lst (ys++[v]))) else Pv (i+1) ys J U) (hd:∀ys D H,Pv xs.length ys D H->Q H):
  CH g O N h (lL K a) Y F Q H:=by
 show(λi m ys D H=>i+m=xs.length/\Pv i ys D H,(xs.length,Nat.zero_add _,h0),λi m ys D H ⟨e,p⟩=>?_);let L:=a1 i ys D H ⋯ p;by_cases hi:i < xs.length
 .let ex:xs[i]?>xs[i]:=WA hi;show .inr ((xs,_,L,ex),Pv (i+1),λys D H q=>(m - 1,⋯,⋯,q),?_);rintro a4 H' ⟨rfl,a3⟩;show a2 i a4 ys D H' (a3 xs L) p
 .let a0:i=xs.length:=⋯;subst a0;show .inl ⟨(xs,L,yA _),hd ys D H p⟩
theorem Yb {prog:Program} {w:World} {A:Around} {R:Result->Shared->Prop} {s:Shared} {J F W:Expr} {L:!Expr} {scope:Scope} {pos:Pos} {D acc:Value} {env:Env} (q:Nat->Shared->Prop)
  (a7:∀n s,q n s->wpAny (model prog w) A (pyNext D) (λr N=>match r with
   |none=>R (.ok .next) N
   |some v=>wpAny (model prog w) A (letOwnedTupleGo F D v) (λο Y=>wpAny (model prog w) A (assign F env v) (λο Z=>
    wpAny (model prog w) A (forIn L true λc r=>if r=true then do let ok<-isTrue c env (eval c env);pure (ForInStep.yield ok) else pure (ForInStep.yield r)) (λok O=>
     if ok=true then wpAny (model prog w) A (eval J env) (λx a0=>
      wpAny (model prog w) A (call (.builtin "list.append") [acc,x]) (λο a1=>∃m,m < n/\q m a1) (notedBy (model prog w) A env λe s'=>R (.error e) s') a0) (notedBy (model prog w) A env λe s'=>R (.error e) s') O
     else ∃m,m < n/\q m O) (notedBy (model prog w) A env λe s'=>R (.error e) s') Z) (notedBy (model prog w) A env λe s'=>R (.error e) s') Y) (notedBy (model prog w) A env λe s'=>R (.error e) s') N) (notedBy (model prog w) A env λe s'=>R (.error e) s') s)
  (n:Nat) (h:q n s):codeAny (model prog w) A (.compLoop (.ListComp J [(F,W,L,0)] scope pos) 0 D acc env) R s:=by
 show codeAny_loop rfl q (λn s a2=>?_) n h;change wpAny _ _ ((compTurn (.ListComp J [(F,W,L,0)] scope pos) 0 D acc env).onRaise (λx=>do noteFrame x env;theTreesLotGoes x)) _ _ s;show wpAny_noted ?_;rw[compTurn_list];show dA (wpAny_standAt (dA (pB (a7 n s a2) (λr N U=>?_) λο ο h'=>h')));cases r with
 |none=>show wA U
 |some v=>
  show dA (pB U (λο Y a3=>?_) λο ο h'=>h');show dA (pB a3 (λο Z a4=>dA (pB a4 (λok O V=>?_) λο ο h'=>h')) λο ο h'=>h');cases ok with
  |false=>show wA ⟨rfl,V⟩
  |true=>
   show dA (dA (pB V (λx a0 a5=>dA (pB a5 (λο a1 a6=>wA (wA ⟨rfl,a6⟩)) λο ο h'=>h')) λο ο h'=>h'))
structure cK (ck:Cx->Prop) (P:Program) (w:World) (K:PySem.W.Frag) (tg:Expr) (J:It) (fp:!Addr) (it:Addr) (tn:Nat->Heap->Prop):Prop where
 obj:∀i h,tn i h->∀b∈fp,∃o,h.get? b>o/\∀v,o.data≠.cell v
 keep:∀i h h',tn i h->(∀b∈fp,∀o,h.get? b>o->h'.get? b>o)->tn i h'
 item:∀(X:Cx),X.prog=P->X.w=w->X.K=K->ck X->∀(i:Nat) (pins:!(Addr×Obj)) (s:Shared) (σ:St) (H:Hp) (E:Value->Shared->Prop),HC X pins σ H s->(∀b∈fp,eF X pins H b)->tn i s.heap->J.go i H->
  wpAny (model P w) X.A (pyNext (.ref it)) (λr s1=>∃u,r>u/\wpAny (model P w) X.A (letOwnedTupleGo tg (.ref it) u) (λο s2=>∃x H',HC X pins σ H' s2/\KC x u/\J.yld i H x H'/\tn (i+1) s2.heap/\∀b∈fp,H' b=none) E s1) E s
 done:∀(X:Cx),X.prog=P->X.w=w->X.K=K->ck X->∀(i:Nat) (pins:!(Addr×Obj)) (s:Shared) (σ:St) (H:Hp) (E:Value->Shared->Prop),HC X pins σ H s->(∀b∈fp,eF X pins H b)->tn i s.heap->J.stop i H->
  wpAny (model P w) X.A (pyNext (.ref it)) (λr s1=>r=none/\HC X pins σ H s1) E s
 self:∀(A:Around) (i:Nat) (s:Shared) (Q:Value->Shared->Prop) (E:Value->Shared->Prop),tn i s.heap->Q (.ref it) s->wpAny (model P w) A (pyIter (.ref it)) Q E s
theorem aH.g {P:Program} {w:World} {K:PySem.W.Frag} {J:Expr} {q:It} {D:!Addr} {F:Addr} {L:Nat->Heap->Prop} (T:aH P w K J q D F L):cK (λX=>X.calm=true) P w K J q D F L:=(T.obj,T.keep,T.item,T.done,T.self)
section
variable {X:Cx}
theorem CS {cn:Cx->Prop} {a5:!(Addr×Obj)} {a3:St} {a6:Hp} {Z:Shared} {bn:Addr} {O:!Addr} {ay:Nat->Heap->Prop} {a8:It} {ax cv b3:Expr} {bm:!Expr} {scope:Scope} {a0:!(Str×Addr)} {pos:Pos} {x:Str} {xs fs:!Str} {ix:!Nat} {g:TG} {d9:TT} {d3:TE}
  {c9:Addr->Hp->Prop} {E:Value->Shared->Prop} {RR:Value->Addr->Result->Shared->Prop}
  (c3:HC X a5 a3 a6 Z) (T:cK cn X.prog X.w X.K ax a8 O bn ay) (d0:ay 0 Z.heap) (cp:∀b∈O,eF X a5 a6 b) (cr:∀C ab a7 F,cn (BD X scope a0 C (xs++fs) ab a7 O F)) (S:WE scope X.env x fs)
  (a9:∀n c,a0.lookup n>c->X.env.cells.lookup n>c) (cd:∀n,(n,NameKind.free)∈scope.names->∃c,a0.lookup n>c) (cs:ix.map (X.N[·]?)=fs.map some)
  (e5:∀C ab a7 F,PG (BD X scope a0 C (xs++fs) ab a7 O F) ax g) (e4:∀C ab a7 F,PF (BD X scope a0 C (xs++fs) ab a7 O F) bm d9) (e3:∀C ab a7 F,PE (BD X scope a0 C (xs++fs) ab a7 O F) b3 d3)
  (h:∀ac,a6 ac=none->CH g d9 d3 .mk a8 (List.replicate xs.length none++ix.map λi=>(a3[i]?).join) ac (c9 ac) a6)
  (dw:∀ac C H' s',HC X a5 a3 H' s'->c9 ac H'->(∃m,s'.heap.Ns C m)->eF X a5 H' C->RR (.ref ac) C (.ok .next) s'):
  wpAny (model X.prog X.w) X.A (newList []) (λacc er=>wpAny (model X.prog X.w) X.A (newFunctionEnv scope X.env.globals a0 [] X.env.qual none .none (some X.env)) (λcl et=>
   codeAny (model X.prog X.w) X.A (.compStart (.ListComp b3 [(ax,cv,bm,0)] scope pos) 0 (.ref bn) acc {cl with scope:=relabel scope X.env}) (RR acc cl.locals) et) E er) E Z:=by
 let e0:a6 Z.heap.objs.size=none:=c3.hok.fresh (yA _);let(W,(ea,ew),eu):=h _ e0;show wpAny_newObj_type (wpAny_newFunctionEnv S.nocell (by intro L a2;simp at a2) (λad be bl=>?_) S.kind);let Y:HC X a5 a3 (FC a6 Z.heap.objs.size (.lst [])) {Z with heap:=Z.heap.push {cls:=.type "list",dict:=none,data:=.seq ([]:!Value).toArray}}:=
  c3.laid (t':=Z.toks) (λb u e=>zA _ e) (yA _) (by decide,[],0,.nil,SA _ rfl)
 obtain⟨J,b4⟩:∃ej:Shared,ej={Z with heap:=Z.heap.push {cls:=.type "list",dict:=none,data:=.seq ([]:!Value).toArray}}:=⟨_,rfl⟩
 rw[<-b4] at Y;let b5:Z.heap.push {cls:=.type "list",dict:=none,data:=.seq ([]:!Value).toArray}=J.heap:=by rw[b4]
 let d2:J.heap.objs.size=Z.heap.objs.size+1:=by rw[<-b5,Heap.size_push]
 dsimp only at be bl ⊢;rw[b5] at be bl ⊢;generalize e2:FC a6 Z.heap.objs.size (.lst [])=H3 at *;let bo:∀b∈O,b < Z.heap.objs.size:=λb D=>let ⟨_,e,_⟩:=T.obj _ _ d0 b D;JA e
 let a4:∀b∈O,eF X a5 H3 b:=λb D=>by
  show⟨?_,(cp b D).2⟩;rw[<-e2,VC (YA (bo b D))];show (cp b D).1
 let dd:eF X a5 H3 J.heap.objs.size:=Y.fpOk (yA _) (Y.hok.fresh (yA _));let br:∀b o,J.heap.get? b>o->ad.get? b>o:=λb o e=>bl.extBut b o (YA (JA e)) (zA _ e);let nofs:∀b∈O,b∉rE X.stack:=λb D U=>(uA.mp (Y.stkSub b U)).elim (a4 b D).2.1 (a4 b D).2.2.1;let cu:ay 0 ad:=T.keep _ _ _ d0 λb ο o e=>br b o (by rw[<-b5];show zA _ e);let au:=Y.env0;let ok:∀F,(BD X scope a0 J.heap.objs.size (xs++fs) J H3 O F).Ok:=λF=>by
  show(Y.ok.mod,S.kind,Y.ok.glob,Y.ok.blt,yA _,λL U c h1 h2=>Y.ok.inj L U c (a9 _ _ h1) (a9 _ _ h2),λL a2=>?_,λL c U=>?_,Y.ok.hd,Y.ok.frames,.inl rfl,λb D=>⟨?_,λL c e=>(a4 b D).2.2.2.2.1 L c (a9 _ _ e)⟩,au.bs,au.bsz,λb o e D=>?_,nofs,au.funs,au.frf)
  .let q:scope.names.lookup L>.free\/scope.names.lookup L>.cell:=by
    let a2||a2:=a2
    .show AS a2 (.inl rfl)
    .show AS a2 (.inr rfl)
   let q||q:=q
   .show cd L (PySem.mem_of_lookup q)
   .show absurd rfl (S.nocell _ (PySem.mem_of_lookup q))
  .cases U
  .show YA (NA (bo b D) (by rw[d2];show Nat.le_succ _))
  .let U||U:=(a4 b D).2.2.2.1
   .show Y.ok.noex b o e U
   .show absurd (NA (JA e) (zB Y.ok.bsz U)) (xC _)
 let ck:∀c v,J.heap.IsCell c v->ad.IsCell c v:=λc v ⟨o,ho,hd⟩=>(o,br _ _ ho,hd)
 let dm:∀F,HC (BD X scope a0 J.heap.objs.size (xs++fs) J H3 O F) [] (List.replicate xs.length none++ix.map λi=>(a3[i]?).join) H3 {J with heap:=ad,toks:=J.toks+([]:!(Str×Value)).length}:=λF=>by
  let hk:∀b o,J.heap.get? b>o->ad.get? b>o:=br;show(ok F,rfl,Y.bare,Un.kept hk,(_,be,λi L v h1 h2 f2=>?_),λL c e=>?_,Y.hok.fresh (yA _),λL c e=>Y.freeC L c (a9 _ _ e),λp bh=>absurd (show p∈([]:!(Addr×Obj)) from bh) (by simp),Y.hok.kept hk,?_)
  .by_cases e8:i < xs.length
   .let h2:(List.replicate xs.length (none:Option V)++ix.map λi=>(a3[i]?).join)[i]?>(some v):=h2;rw[xB (by rw[qB];show e8)] at h2;let U:=List.eq_of_mem_replicate (VA h2);cases U
   .let h1:(xs++fs)[i]?>L:=h1;let h2:(List.replicate xs.length (none:Option V)++ix.map λi=>(a3[i]?).join)[i]?>(some v):=h2;rw[jB ⋯] at h1;rw[jB (by rw[qB];omega),qB] at h2;generalize i - xs.length=i at h1 h2;let a2:=S.fs L (VA h1);rw[iB] at h2;cases b2:ix[i]? with
    |none=>rw[b2] at h2;cases h2
    |some j=>
     rw[b2] at h2;let h2:(a3[j]?).join>v:=rA h2;let e9:a3[j]?>(some v):=by
      cases q:a3[j]? with
      |none=>rw[q] at h2;cases h2
      |some o=>rw[q] at h2;cases o with
       |none=>cases h2
       |some o=>cases h2;rfl
     let av:X.N[j]?>L:=by
      let U:=congrArg (·[i]?) cs;simp only[iB,b2,h1,rC] at U;show rA U
     let cw:=S.fr _ (PySem.mem_of_lookup a2) rfl;let(m,aw,e6):=Y.loc;let(u,r,l):=e6 j L v av e9 (by let k||k:=cw;show .inr (.inl k);show .inr (.inr k));show(u,r,.inr ⟨P2 a2,?_⟩);let(l,_)||(_,c,e,U):=l
     .let k||k:=cw<;>(rw[l] at k;cases k)
     .let(f1,co):=cd L (PySem.mem_of_lookup a2);let q:=a9 _ _ co;rw[e] at q;cases q;show(c,co,ck _ _ U)
  .let(v,U):=Y.cell L c (a9 _ _ e);show⟨v,ck _ _ U⟩
  .let U:=congrArg List.length cs;simp only[iA] at U;change (List.replicate xs.length none++_:St).length=(xs++fs).length;rw[xA,xA,qB,iA,U]
 let dt:∀{F ao H' s'},HC (BD X scope a0 J.heap.objs.size (xs++fs) J H3 O F) [] ao H' s'->HC X a5 a3 H' s':=λ{F ao H' s'} a8=>
  Y.call' (s':=s') (ch:=O) a8.os a8.base a8.hok a8.bare λb D=>((a4 b D).2.2.2.1,(a4 b D).2.1,(a4 b D).2.2.2.2.1,(a4 b D).2.2.2.2.2)
 let bz:∀{F} {H':Hp},(∀b∈O,H' b=none)->∀b∈O,eF (BD X scope a0 J.heap.objs.size (xs++fs) J H3 O F) [] H' b:=λ{F H'} aw b D=>
  (aw b D,YA (NA (bo b D) (by rw[d2];show Nat.le_succ _)),nofs b D,.inl D,λL c e=>(a4 b D).2.2.2.2.1 L c (a9 _ _ e),λp bh=>absurd (show p∈([]:!(Addr×Obj)) from bh) (by simp))
 let cx:∀bw:Shared,bw={J with heap:=ad,toks:=J.toks+([]:!(Str×Value)).length}->
   codeAny (model X.prog X.w) X.A (.compLoop (.ListComp b3 [(ax,cv,bm,0)] scope pos) 0 (.ref bn) (.ref Z.heap.objs.size) (compEnvC scope a0 J.heap.objs.size X.env)) (RR (.ref Z.heap.objs.size) J.heap.objs.size) bw:=by
  rintro bw rfl
  letI F:=notedBy (model X.prog X.w) X.A (compEnvC scope a0 J.heap.objs.size X.env) λe s'=>RR (.ref Z.heap.objs.size) J.heap.objs.size (.error e) s'
  show Yb (λn s'=>∃i ys ao H',HC (BD X scope a0 J.heap.objs.size (xs++fs) J H3 O F) [] ao H' s'/\ay i s'.heap/\(∀b∈O,H' b=none)/\W i n ys ao H') ?_ ea (0,[],_,_,dm F,cu,λb D=>(a4 b D).1,ew);rintro n cy ⟨i,ys,az,aq,c4,d1,cq,ey⟩;let(eq,ee)||(go,N,av,step):=eu i n ys az aq ey
  .show kD (T.done (BD X scope a0 J.heap.objs.size (xs++fs) J H3 O F) rfl rfl rfl (cr _ _ _ _) i [] cy az aq F c4 (bz cq) d1 eq) λr cz a1=>?_;let(bi,b1):=a1;subst bi;let(m,aw,_):=b1.loc;show dw _ _ aq cz (dt b1) ee ⟨m,aw⟩ ⟨b1.free,dd.2⟩
  .show kD (T.item (BD X scope a0 J.heap.objs.size (xs++fs) J H3 O F) rfl rfl rfl (cr _ _ _ _) i [] cy az aq F c4 (bz cq) d1 go) λr cz a1=>?_;let(u,bi,dz):=a1;subst bi;show kD dz λ_ ek a1=>?_;let(L,c1,dn,ef,ez,ah,dy):=a1;let dp:=dn.pinned (bz dy) (T.obj _ _ ah);show kD (e5 _ _ _ F _ ek az c1 L u _ dp ef (step L c1 ez)) λ_ em a1=>?_;let(ap,dk,dq,ec):=a1;show kD (e4 _ _ _ F _ em ap dk _ dq ec) λok en a1=>?_;let(dl,ar,bt):=a1;cases ok with
   |false=>
    let(bp,bb,c0):=av _ _ _ (by simpa using bt);show(bp,bb,i+1,ys,ap,_,ar.unpinned,T.keep _ _ _ ah λb D o e=>(ar.pin (b,o) (vA _ (vA _ (vN D e)))).1,λb D=>?_,c0);let(o,e,du):=T.obj _ _ ah b D;show (ar.pin (b,o) (vA _ (vA _ (vN D e)))).2.1
   |true=>
   rw[jA rfl] at bt ⊢;show kD (e3 _ _ _ F _ en ap dl _ ar bt) λev eo a1=>?_;let(v,c2,dr,eh,e1,e7,eb):=a1;let(bp,bb,c0):=av _ _ _ eb;show kD (AL (X:=BD X scope a0 J.heap.objs.size (xs++fs) J H3 O F) _ eo ap c2 (.ref Z.heap.objs.size) [v] _ [ev] (λο H'=>H'=FC c2 Z.heap.objs.size (.lst (ys++[v]))) dr rfl (.cons eh .nil) (_,ys,v,rfl,rfl,e1,e7,rfl)) λ_ f3 a1=>?_;let(_,f0,b0,_,dv):=a1;subst dv;show(bp,bb,i+1,ys++[v],ap,_,b0.unpinned,T.keep _ _ _ ah λb D o e=>(b0.pin (b,o) (vA _ (vA _ (vN D e)))).1,λb D=>?_,c0);let(o,e,du):=T.obj _ _ ah b D;show (b0.pin (b,o) (vA _ (vA _ (vN D e)))).2.1
 subst b4;show codeAny_compStart_list (cx _ rfl) (T.self X.A 0 _ _ _ cu (cx _ rfl))
theorem WE.clos {J:!(Addr×Obj)} {L:St} {H:Hp} {s:Shared} {scope:Scope} {x:Str} {fs:!Str} (S:WE scope X.env x fs) (D:HC X J L H s):
  ∃q,closureFor scope X.env=pure q/\(∀n c,q.lookup n>c->X.env.cells.lookup n>c)/\∀n,(n,NameKind.free)∈scope.names->∃c,q.lookup n>c:=
 Xb λn F=>D.ok.has n (S.fr _ F rfl)
theorem BN {U O W:Expr} {Y:!Expr} {scope:Scope} {pos:Pos} {x:Str} {fs:!Str} {ix:!Nat} {a2:TI} {g:TG} {a1:TT} {a0:TE} (aq:X.calm=true) (hi:PI X U O a2) (hk:kF scope X.env x fs=true) (ax:ix.map (X.N[·]?)=fs.map some)
  (aw:∀L C F D N J,PG (BD X scope L C (x::fs) F D N J) U g) (av:∀L C F D N J,PF (BD X scope L C (x::fs) F D N J) Y a1) (au:∀L C F D N J,PE (BD X scope L C (x::fs) F D N J) W a0) (az:∀x,foldedSetIterable O X.env x=pure x:=by intro _;rfl):
  PE X (.ListComp W [(U,O,Y,0)] scope pos) (yI a2 ix g a1 a0 .mk):=by
 intro Z s a3 H Q V h;let S:=WE.of hk;let(L,ar,a7,a8):=S.clos V;rw[eval_ListComp];show wpAny_comprehension_free (use:=none) rfl az ar S.kind S.own (kD (hi Z s a3 H _ V h) λv be h1=>kD h1 λbb bh h2=>?_);let(b5,N,bi,b4,b3,e,a6,T,b2,ac,q):=h2;subst e;show CS (xs:=[x]) (RR:=λacc C=>compPost (model X.prog X.w) X.A X.xe none (EP X Z a3 Q) acc C) a6 T.g b2 ac (λο ο ο ο=>aq) S a7 a8 ax (λC F D J=>aw L C F D N J) (λC F D J=>av L C F D N J) (λC F D J=>au L C F D N J) q λa4 C H' s' a5 b1 ⟨m,ay⟩ ⟨a9,ab,_,ad,ah,ao⟩=>?_;show(m,ay,λh' b0=>(.ref a4,H',a5.turned (t':=s'.toks) (λb o ap e=>(b0.2 b ap).trans e) a9 ab ad ah ao,rfl,b1))
theorem S2 {Y U Z:Expr} {a0:!Expr} {scope:Scope} {pos a8 V:Pos} {x O:Str} {i:Nat} {fs:!Str} {ix:!Nat} {ac:TI} {g:TG} {ab:TT} {a9:TE} (ax:X.N.Nodup) (bm:X.N[i]?>O) (a7:X.env.kindOf O>.local) (az:X.calm=true) (hi:PI X Y U ac)
  (hk:kF scope X.env x fs=true) (b4:ix.map (X.N[·]?)=fs.map some)
  (b3:∀L C F D N J,PG (BD X scope L C (x::fs) F D N J) Y g) (b2:∀L C F D N J,PF (BD X scope L C (x::fs) F D N J) a0 ab) (b1:∀L C F D N J,PE (BD X scope L C (x::fs) F D N J) Z a9)
  (bl:swapsWith (.ListComp Z [(Y,U,a0,0)] scope pos) (some (.Name O V)) a8.line X.env=pure true:=by rfl) (bh:∀x,foldedSetIterable U X.env x=pure x:=by intro _;rfl):
  PS X (.Assign [.Name O V] (.ListComp Z [(Y,U,a0,0)] scope pos) a8) (kJ (yI ac ix g ab a9 .mk) (vH i)):=by
 intro a1 s bt H a2 a4 h;let S:=WE.of hk;let(L,b0,ap,aq):=S.clos a4;rw[exec_Assign_Name_used _ _ _ _ bl];show dA (wpAny_standAt (dA ?_));change wpAny _ X.A (do let _<-comprehension (.ListComp Z [⟨Y,U,a0,0⟩] scope pos) scope X.env _ (newList []) false (eval U X.env) (some (assign (.Name O V) X.env))) _ _ s;show dA (pB (wpAny_comprehension_free (use:=some (assign (.Name O V) X.env)) (Q:=λο s'=>SP X a1 a2 .next s') rfl bh b0 S.kind S.own
  (kD (hi a1 s bt H _ a4 h) λv c2 h1=>kD h1 λc1 c3 h2=>?_)) (λο s' be=>wA (wA be)) λο ο e=>e)
 let(c0,N,c4,bz,bw,e,ao,T,bp,au,q):=h2;subst e;show CS (xs:=[x]) (RR:=λacc C=>compPost (model X.prog X.w) X.A X.xe (some (assign (.Name O V) X.env)) (λο s'=>SP X a1 a2 .next s') acc C) ao T.g bp au (λο ο ο ο=>az) S ap aq b4 (λC F D J=>b3 L C F D N J) (λC F D J=>b2 L C F D N J) (λC F D J=>b1 L C F D N J) q
  λa3 C H' s' ad bn ⟨m,b5⟩ ⟨ar,a5,_,av,a6,aw⟩=>?_
 change wpAny _ X.A (assign (.Name O V) X.env (.ref a3)) _ _ _;show wpAny_assign_Name (iZ (v:=.ref a3) ad ax bm (.inl a7) rfl (λbo ah ⟨a,sb,W⟩=>?_) (.inr a7));let bb:C≠a:=by
  let W||W:=W
  .rw[W];show a5
  .show λbr=>a6 _ _ W br.symm
 show(m,b5.sameBut sb bb,λh' bi=>(_,H',ah.turned (t':=bo.toks) (λb o ay e=>(bi.2 b ay).trans e) ar a5 av a6 aw,bn))
end
section
variable {X:Cx} {pins:!(Addr×Obj)} {σ:!(Option V)} {H H':Hp} {s:Shared} {h':Heap}
theorem HC.turnedL {t':Nat} {ch:!Addr} (N:HC X pins σ H s) (k:∀b o,b∉ch->s.heap.get? b>o->h'.get? b>o) (J:∀b∈ch,eF X pins H b):HC X pins σ H {s with heap:=h',toks:=t'}:=by
 let O:∀b u,H b>u->b∉ch:=λb u e F=>by rw[(J b F).1] at e;cases e
 show N.step (g':=s.gens) (d':=s.drawn) (ch:=ch) (λb L=>((J b L).2.2.2.1,(J b L).2.1,(J b L).2.2.2.2.1,(J b L).2.2.2.2.2)) (λb o ο ο D e ο=>k b o D e) (λb o ο ο D e ο=>⟨o.slots,k b o D e⟩) (λο ο ο ο n=>n)
  (λb o D e=>⟨o,k b o D e⟩) (λο ο e=>e) (λο ο ο e=>e) (λb V e=>⟨#[],by rw[e];simp⟩) (λm U=>?_) (λb u e=>?_) N.bare
 .let(o,es,ep,ho,r):=U;show(o,es,ep,k _ o (λF=>(J _ F).2.1 rfl) ho,r)
 .show (N.hok b u e).stay (λc v D q=>k c v ?_ q) (λο q=>q) λο ο q=>q;let F||F:=D
  .rw[F];show O b u e
  .show O c _ F
end
def DS (K:PySem.W.Frag) (a:Addr):It:=
 (λi H=>∃xs x,pD K H a xs/\xs[i]?>x,λi H v H'=>∃t x,v=.ref t/\H t=none/\H'=FC H t (.tup [.int i,x])/\∀xs,pD K H a xs->xs[i]?>x,λi H=>∃xs,pD K H a xs/\xs.length<=i)
theorem Zb {P:Program} {w:World} {K:PySem.W.Frag} {ap:!Expr} {x1} {pos:Pos} (a e F:Addr) (a9:e≠F):
  aH P w K (.Tuple ap x1 pos) (DS K a) [e,F] e (λi h=>(∃O,IsEnum h e F i O)/\h.IsListIter F a i) where
 mem:=by simp
 obj:=λi h st b D=>by
  let((O,J),o,ho,c,ah):=st;let D:b=e\/b=F:=by simpa using D
  let rfl||rfl:=D
  .show(_,J,λv N=>by
    let bm:Data.fields _=Data.cell v:=N;cases bm)
  .show(o,ho,λv N=>by rw[ah] at N;cases N)
 keep:=λi h h' st k=>⟨let ⟨O,J⟩:=st.1;⟨O,k e (by simp) _ J⟩,st.2.at λo q=>k F (by simp) o q⟩
 item:=by
  intro X Z a1 Y a6 i W s a4 H E L U st a0;subst Z a1 Y;let(xs,x,V,a2):=a0;let(bh,a3,p,hz):=L.list V;let(u,bb,bl):=a3.get a2;let((O,J),hit):=st;show wpAny_pyNext_enum_item J hit p.isList (x:=u) (by simpa using bb) a9 λh1 ar b3 b4 hsz bi=>?_;show(_,rfl,wpAny_letOwnedTupleGo_enum ar λh2 aq sb=>?_);let az:H s.heap.objs.size=none:=L.hok.fresh (yA _);let a7:e≠s.heap.objs.size:=YA (JA J);let b2:F≠s.heap.objs.size:=YA (let ⟨_,ho,_⟩:=hit;JA ho);let b5:h2.get? s.heap.objs.size>{cls:=.type "tuple",data:=.seq #[.int i s.toks,u]}:=(sb.2 _ (Ne.symm a7)).trans b4;let ab:HC X W a4 (FC H s.heap.objs.size (.tup [.int i,x])) {s with heap:=s.heap.push {cls:=.type "tuple",data:=.seq #[.int i s.toks,u]}}:=
   L.laid (t':=s.toks) (λb o q=>zA _ q) (yA _) (by change 2<=sizeLine;decide,[.int i s.toks,u],.cons ⟨_,rfl⟩ (.cons bl .nil),(_,SA _ rfl,rfl,_,rfl))
  let a8:∀b∈[e,F],eF X W (FC H s.heap.objs.size (.tup [.int i,x])) b:=λb D=>by
   show⟨?_,(U b D).2⟩;let b0:b=e\/b=F:=by simpa using D
   rw[VC (by let rfl||rfl:=b0;show a7;show b2)];show (U b D).1
  let ac:HC X W a4 (FC H s.heap.objs.size (.tup [.int i,x])) {s with heap:=h2,toks:=s.toks+1}:=by
   let ad:=HC.turnedL (t':=s.toks+1) (h':=h2) (ch:=[e,F]) ab ?k a8
   .show ad
   intro b o D q;dsimp only at q;let a5:b≠e:=λN=>D (by simp[N]);let b1:b≠F:=λN=>D (by simp[N]);let(rfl,rfl)||q:=PySem.Heap.get?_push_cases q
   .show b5
   .show (sb.2 b a5).trans (bi b o a5 b1 q)
  show(.ref s.heap.objs.size,_,ac,rfl,(_,x,rfl,az,rfl,λys be=>by rw[L.list_inj be V];show a2),⟨⟨_,aq⟩,b3.extBut sb.extBut (Ne.symm a9)⟩,λb D=>(a8 b D).1)
 done:=by
  intro X Z a1 Y a6 i W s a4 H E L U st a0;subst Z a1 Y;let(xs,V,a2):=a0;let(bh,a3,p,hz):=L.list V;let((O,J),hit):=st;let(au,av,bn,aw,ax,ay):=U F (by simp);let bo:=a3.length;show wpAny_pyNext_enum_end (L.ok.hd a6) J hit p.isList (by simp;omega) λh' ao=>⟨rfl,L.turned (t':=s.toks) (λb o D e=>ao b o D e) au av aw ax ay⟩
 self:=λο ο ο ο ο st h=>let ⟨_,J⟩:=st.1;wpAny_pyIter_enum J h
section
variable {X:Cx}
def eK (K:PySem.W.Frag) (ta:TA):TI:=λσ H R=>ta σ H λvs H1=>∃a,vs=[.ref a]/\(∃xs,pD K H1 a xs)/\R (DS K a) H1
theorem bc:bootBuiltins "enumerate">(.type "enumerate"):=∅
theorem cc {e:Expr} {W:TA} {p pos ac:Pos} {a0:!Expr} {x1} (a3:Gl X "enumerate") (a4:X.mg "enumerate"=none) (a2:PA X [e] W) (a6:starEach [e] X.env=[(false,eval e X.env)]:=by rfl):
  PI X (.Tuple a0 x1 ac) (.Call (.Name "enumerate" p) [e] [] pos) (eK X.K W):=by
 intro V s Y H R N h;show Call_ (sN N a3 a4 bc (mC (kD (a2 pos V s Y H _ N h) λus D ad=>?_) a6 rfl));let(vs,L,F,a9,a8):=ad;let(a,a1,(xs,a5),q):=a8;subst a1;cases a9 with
 |cons r ab=>
  cases ab;cases r;let(ah,ao,pl,hz):=F.list a5;show call_enumerate_list pl.isList λh' O hit hsz a7=>wpAny_pyIter_enum O ?_;let Z:HC X V Y L {D with heap:=h'}:=F.kept (t':=D.toks) a7;show(D.heap.objs.size+1,[D.heap.objs.size+1,D.heap.objs.size],_,_,L,rfl,Z,Zb a _ _ (Nat.ne_of_gt (Nat.lt_succ_self _)),⟨⟨_,O⟩,hit⟩,λb J=>?_,q);let J:b=D.heap.objs.size+1\/b=D.heap.objs.size:=by simpa using J
  let U:D.heap.objs.size<=b:=by let rfl||rfl:=J;show Nat.le_succ _;show yA _
  show F.fpOk U (F.hok.fresh U)
end
theorem dc {K:PySem.W.Frag} {a:Addr} {xs:!V} {g:TG} {L:TS} {h:mH g L} {F:bF} {D:St} {H:Hp} (Pv:Nat->St->Hp->Prop) (h0:Pv 0 D H) (U:∀i D H,i<=xs.length->Pv i D H->pD K H a xs)
  (W:∀i x t D H,xs[i]?>x->Pv i D H->H t=none->g (.ref t) D (FC H t (.tup [.int i,x])) λa0 N=>L {F with nx:=Pv (i+1),ct:=Pv (i+1),bk:=F.nx} a0 N) (hd:∀D H,Pv xs.length D H->F.nx D H):xI g L h (DS K a) F D H:=by
 show(λi m D H=>i+m=xs.length/\Pv i D H,(xs.length,Nat.zero_add _,h0),λi m D H ⟨e,p⟩=>?_);let J:=U i D H ⋯ p;by_cases hi:i < xs.length
 .let ex:xs[i]?>xs[i]:=WA hi;show .inr ((xs,_,J,ex),Pv (i+1),λD H q=>(m - 1,⋯,⋯,q),?_);rintro a1 H' ⟨t,x,rfl,Y,rfl,Z⟩;show W i x t D H (Z xs J) p Y
 .let O:i=xs.length:=⋯;subst O;show .inl ⟨(xs,J,yA _),hd D H p⟩
theorem T2:∀{ns:!Int} {us:!Value},OC (ns.map V.int) us->IntsAre us ns
 |[],_,h=>by cases h;show .nil
 |n::ns,_,h=>by
  cases h with
  |cons r rr=>
   let(t,rfl):=r;show .cons _ _ (T2 rr)
theorem U2:∀{ns:!Int} {us:!Value},IntsAre us ns->OC (ns.map V.int) us:=by
 intro ns us h
 induction h with
 |nil=>show .nil
 |cons n t _ q=>show .cons ⟨t,rfl⟩ q
section
variable {X:Cx} {pins:!(Addr×Obj)} {σ:St} {H:Hp} {s:Shared} {a:Addr} {kvs:!(Key×V)} {k:Key} {u r:Value} {z:V} {A:Around} {E:Value->Shared->Prop}
end
section
variable {X:Cx} {o e f:Expr} {apos cpos:Pos} {td ty tx:TE}
end
theorem fc {X:Cx} (N:X.calm=true):xE X (.builtin "sum") (λxs H Q=>∃(p:Addr) (ns:!Int),xs=[.ref p]/\pD X.K H p (ns.map V.int)/\Q (.int ns.sum) H):=by
 intro a0 s a1 H xs us Q D r h;let(p,ns,rfl,O,q):=h;let(u,rfl,W):=EF r;cases W;let(Z,U,pl,hz):=D.list O;let hi:=T2 U;let(L,J):=hi.allInts.items;let e:preSum (numAt L) L.size=ns.sum:=by
  let h1:=hi.numsOf;rw[preSum_eq,kC (by simp),<-h1,<-nums_intItems,<-J]
 let F:=pl.isList;rw[J] at F;show sum_intListG (D.ok.hd N) F λh' Y t' hk=>?_;rw[e];show(.int ns.sum,H,D.kept (t':=Y) hk,⟨t',rfl⟩,q)
theorem V2:∀{bs:!Bool} {us:!Value},OC (bs.map V.bl) us->LSm.BoolsAre us bs
 |[],_,h=>by cases h;show .nil
 |b::bs,_,h=>by
  cases h with
  |cons r rr=>
   cases r;show .cons _ (V2 rr)
theorem W2 {X:Cx} (U:X.calm=true):xE X (.builtin "any") (λxs H Q=>∃(p:Addr) (bs:!Bool),xs=[.ref p]/\pD X.K H p (bs.map V.bl)/\Q (.bl (bs.any id)) H):=by
 intro a4 s a5 H xs us Q D r h;let(p,bs,rfl,Y,q):=h;let(u,rfl,a0):=EF r;cases a0;let(J,Z,pl,hz):=D.list Y;let N:=V2 Z;let F:=pl.isList;let W:p < s.heap.objs.size:=by let(_,e,_):=id F;show JA e
 show call_any_walk (wpAny_pyIter_list F ?_);show(s.heap.objs.size,[s.heap.objs.size,p],[s.heap.objs.size],J.toArray.size,_,_,λi=>(bs[i]?).getD false,rfl,Walks.list (A:=X.A.in1) (D.ok.hd U) _ p (YA W) J.toArray,
  ⟨(_,SA _ rfl,rfl,rfl),F.push _⟩,λi v s' a3 a2 O L=>?_,λh' a1 hk=>?_)
 .let(b,e,rfl):=N.get i v (by simpa using O);simp only[e,Option.getD_some] at L;show cC L
 .let e:((List.range J.toArray.size).any λi=>(bs[i]?).getD false)=bs.any id:=by
   rw[FA,N.length];show LSm.range_any bs
  rw[e];show(.bl (bs.any id),H,D.kept (t':=a1) (LSm.kept_iter hk),rfl,q)
theorem X2:∀{ns:!Int} {us:!Value},us.length=ns.length->(∀(j:Nat) v,us[j]?>v->∃t i,ns[j]?>i/\v=Value.int i t)->IntsAre us ns
 |[],[],_,_=>.nil
 |_::_,[],h,_=>by cases h
 |[],_::_,h,_=>by cases h
 |n::ns,u::us,hl,h=>by
  let(t,i,e1,e2):=h 0 u rfl;let e1:n=i:=by simpa using e1
  subst e1 e2;show .cons _ _ (X2 (by simpa using hl) λj v e=>by simpa using h (j+1) v (by simpa using e))
theorem fK {D:Type} {kvs:!(D×V)} {vs:!(D×Value)} (r:KV kvs vs):∀(j:Nat) (k:D) (x:Value),vs[j]?>(k,x)->∃v,kvs[j]?>(k,v)/\KC v x:=by
 unfold KV at r
 induction r with
 |nil=>intro j k x e;simp at e
 |cons q _ F=>
  intro j k x e;cases j with
  |zero=>
   simp at e;subst e;show(_,by simp;show Prod.ext q.1 rfl,q.2)
  |succ j=>simpa using F j k x (by simpa using e)
inductive PL (c:TT) (tb:TS):Type where
 |mk:PL c tb
inductive QL (tb:TS):Type where
 |mk:QL tb
def gK (c:TT) (tb:TS) (_:PL c tb):TS:=bI c tb
def iK (tb:TS) (_:QL tb) (Pv:Nat->St->Hp->Prop) (m:Nat) (D:bF) (σ:St) (H:Hp):Prop:=
 ∃N:St->Hp->Prop,(∀σ' H',N σ' H'->∃m',m' < m/\Pv m' σ' H')/\tb {D with nx:=N,ct:=N,bk:=D.nx} σ H
theorem Y2 {X:Cx} {c:Expr} {q:!Stmt} {F:TT} {D:TS} {pos:Pos} (N:PassesOwn (model X.prog X.w) X.A X.env X.xe) (L:PT X c F) (J:bG X q D):PS X (.While c q [] pos) (gK F D .mk):=m9 N L J
theorem Z2 {c:TT} {F:TS} {h:PL c F} {D:bF} {q:St} {H:Hp} (Pv:Nat->St->Hp->Prop) (L:Nat) (h0:Pv L q H)
 (N:∀m q H,Pv m q H->c q H λb J=>if b=true then iK F .mk Pv m D q J else D.nx q J):gK c F h D q H:=(Pv,⟨L,h0⟩,N)
theorem jK {J:TS} {h:QL J} {Pv:Nat->St->Hp->Prop} {m:Nat} {F:bF} {N:St} {H:Hp}
 (q:J {F with nx:=λL H'=>∃D,D < m/\Pv D L H',ct:=λL H'=>∃D,D < m/\Pv D L H',bk:=F.nx} N H):iK J h Pv m F N H:=(_,λο ο h=>h,q)
section
variable {X:Cx} {pins:!(Addr×Obj)} {σ:!(Option V)} {H:Hp} {s:Shared} {a:Addr}
theorem HC.rewrite {u v:HO} (D:HC X pins σ H s) (e:H a>u) (O:∀b,u≠.own b) (V:∀xs,u≠.tup xs) (h0:∀w,X.H₀ a>w->(∃o F,w=.frz o F)\/(∃xs,w=.tup xs)\/(∃L,w=.tbl L)->False) (new:wD X.prog X.w (FC H a v) s.heap a v):
  HC X pins σ (FC H a v) s where
 ok:=D.ok
 os:=D.os
 bare:=D.bare
 base:=(D.base.keep,D.base.slot,λb o q n W=>by
   have:=D.base.free b o q n W;rw[VC (λF=>by rw[F,e] at this;cases this)];show this,D.base.there,
  λb xs q=>by
   let J:b≠a:=λF=>h0 _ (F ▸ q) (.inr (.inl ⟨_,rfl⟩));rw[VC J];show D.base.tups b xs q,
  λb o F q=>by
   let J:b≠a:=λF=>h0 _ (F ▸ q) (.inl (_,_,rfl));rw[VC J];show D.base.frzs b o F q,
  λb L q=>by
   let J:b≠a:=λF=>h0 _ (F ▸ q) (.inr (.inr ⟨_,rfl⟩));rw[VC J];show D.base.tbls b L q)
 loc:=D.loc
 cell:=D.cell
 free:=by rw[VC (Ne.symm (OD e D.free))];show D.free
 freeC:=λx c q=>by
  have:=D.freeC x c q;rw[VC (Ne.symm (OD e this))];show this
 pin:=λp U=>by
  let(Y,N,Z):=D.pin p U;show(Y,by rw[VC (Ne.symm (OD e N))];show N,Z)
 hok:=λb w q=>by
  by_cases J:b=a
  .subst J;rw[jD] at q;cases q;show new
  .rw[VC J] at q;show (D.hok b w q).stay (λο ο ο q=>q) (λc q=>?_) λc xs q=>?_
   .rw[VC (λF=>by rw[F,e] at q;show O _ (rA q))];show q
   .rw[VC (λF=>by rw[F,e] at q;show V _ (rA q))];show q
 len:=D.len
theorem HC.still {w:HO} (F:HC X pins σ H s) (h:X.H₀ a>w) (J:(∃o q,w=.frz o q)\/(∃xs,w=.tup xs)\/(∃D,w=.tbl D)):(∃o q,H a>(.frz o q))\/(∃xs,H a>(.tup xs))\/(∃D,H a>(.tbl D)):=by
 let(o,q,rfl)||(xs,rfl)||(D,rfl):=J
 .show .inl (o,q,F.base.frzs a o q h)
 .show .inr (.inl ⟨xs,F.base.tups a xs h⟩)
 .let(m,e):=F.base.tbls a D h;show .inr (.inr ⟨_,e⟩)
theorem HC.freeze {kvs:!(Key×V)} (F:HC X pins σ H s) (e:H a>(.dK kvs)):∃o,s.heap.get? a>o/\HC X pins σ (FC H a (.frz o (.dK kvs))) s:=by
 let(D,hd,vs,L,o,es,ep,ho,r):=F.hok a _ e;show(o,ho,F.rewrite e (λο D=>by cases D) (λο D=>by cases D) (λw J h=>?_) (ho,D,hd,vs,L,o,es,ep,ho,r));let(_,_,q)||(_,q)||(_,q):=F.still J h<;>(rw[e] at q;cases q)
theorem HC.thaw {kvs:!(Key×V)} {o:Obj} (D:HC X pins σ H s) (e:H a>(.frz o (.dK kvs))) (h0:∀o u,X.H₀ a≠some (.frz o u)):HC X pins σ (FC H a (.dK kvs)) s:=by
 let(ho,F,hd,vs,N,dd):=D.hok a _ e;show D.rewrite e (λο F=>by cases F) (λο F=>by cases F) (λw J h=>?_) (F,hd,vs,N,dd);let(_,_,rfl)||h:=h
 .show h0 _ _ J
 .let(o',O,q)||(_,q)||(_,q):=D.still J (.inr h)
  .let(xs,rfl)||(L,rfl):=h
   .have:=D.base.tups a xs J;rw[e] at this;cases this
   .let(m,this):=D.base.tbls a L J;rw[e] at this;cases this
  .rw[e] at q;cases q
  .rw[e] at q;cases q
end
def lF (a:Addr) (H:Hp):Hp:=match H a with
 |some (.frz _ (.dK kvs))=>FC H a (.dK kvs)
 |_=>H
theorem i3 {a:Addr} {H:Hp} {o:Obj} {kvs:!(Key×V)} (h:H a>(.frz o (.dK kvs))):lF a H=FC H a (.dK kvs):=by unfold lF;rw[h]
set_option tactic.hygienic true in
theorem HC.thawed {X:Cx} {pins:!(Addr×Obj)} {σ:!(Option V)} {H:Hp} {s:Shared} {a:Addr} (I:HC X pins σ H s) (h0:∀o u,X.H₀ a≠some (.frz o u)):HC X pins σ (lF a H) s:=by
 unfold lF
 split
 .rename_i h;show I.thaw h h0
 .show I
def zI (a:Addr) (D:bF):bF:={D with nx:=λσ H=>D.nx σ (lF a H),bk:=λσ H=>D.bk σ (lF a H),ct:=λσ H=>D.ct σ (lF a H),rt:=λv H=>D.rt v (lF a H)}
def kK (X:Cx) (t:TS):TS:=λD σ H=>∃a,(∀o u,X.H₀ a≠some (.frz o u))/\t (zI a D) σ H
theorem gc {X:Cx} {st:Stmt} {t:TS} (h:PS X st t):PS X st (kK X t):=by
 intro O s U H L N J;let(a,h0,J):=J;show pB (h O s U H (zI a L) N J) (λf s' q=>?_) λο ο e=>e;unfold SP at q ⊢;cases f with
 |next=>let(F,H',D,q):=q;show(F,_,D.thawed h0,q)
 |brk=>let(F,H',D,q):=q;show(F,_,D.thawed h0,q)
 |cont=>let(F,H',D,q):=q;show(F,_,D.thawed h0,q)
 |ret u=>let(v,F,H',D,r,q):=q;show(v,F,_,D.thawed h0,r,q)
theorem ES {X:Cx} {L:!(Addr×Obj)} {O:!(Option V)} {H:Hp} {s:Shared} {a:Addr} {o:Obj} {kvs:!(Key×V)} {ep:Nat} {es} (J:HC X L O H s) (e:H a>(.frz o (.dK kvs))) (D:o.data=.dict es ep):
  ∃vs,KV kvs vs/\s.heap.DictAt (fD X.prog X.w) a vs ep/\(a == sysModules)=false:=by
 let(ho,Y,hd,vs,N,o',W,U,F,c,q,r):=J.hok a _ e;rw[ho] at F;cases F;rw[D] at q;cases q;show(vs,N,(o,es,ho,c,D,r),hd)
def FO (K:PySem.W.Frag) (n:Nat):R2:=λx y H Q=>(x=.non/\y=.non/\Q (.bl true) H)\/(x=.non/\(∃a xs,y=.ref a/\uD K H a xs)/\Q (.bl false) H)\/((∃a xs,x=.ref a/\uD K H a xs)/\y=.non/\Q (.bl false) H)\/DO K n x y H Q
theorem RL {X:Cx} {n:Nat} (N:X.A.units+n+2 < cLine):gF X (compareOp .Eq) (FO X.K n):=by
 intro V s Y H x W u v Q D F J h;let(rfl,rfl,q)||(rfl,(a,xs,rfl,U),q)||((a,xs,rfl,O),rfl,q)||h:=h
 .cases F;cases J;show SeqAt.RcAt.none_none X.prog X.w X.xe _ (.bl true,H,D,rfl,q)
 .cases F;cases J;let(L,r,p,hz):=D.tuple U;show SeqAt.RcAt.none_tuple (A:=X.A) (s:=s) (show s.heap.IsTuple a L.toArray from p) ⋯ X.prog X.w X.xe _ (.bl false,H,D,rfl,q)
 .cases F;cases J;let(L,r,p,hz):=D.tuple O;show SeqAt.RcAt.tuple_none (A:=X.A) (s:=s) (show s.heap.IsTuple a L.toArray from p) ⋯ X.prog X.w X.xe _ (.bl false,H,D,rfl,q)
 .show X1 N V s Y H x W u v Q D F J h
theorem lK {X:Cx} {K:PySem.W.Frag} (h:X.K=K):pO X (wL K):=h ▸ vE
structure DH (K:PySem.W.Frag) (x qual:Str) (st:Stmt) (f:Addr) (fd:FuncData):Prop where
 ex:∃(oc:Value) (od:Option Addr) (dV kV doc pm:Value) (an:Option Addr) (cdv ct:Value) (osl:Array (Option Value)),
  fd=PySem.W.fnOf x qual (iD st) (dD st) (AC st) dV kV doc pm an cdv ct/\K.lookup f>(oc,od,.func fd,osl)/\PySem.W.codeIn K cdv qual=true
 kp:PySem.W.keepIn K (.ref f)=true
section
variable {P:Program} {w:World} {K:PySem.W.Frag} {mg:Str->Option Value} {base:Heap}
theorem mK {x D:Str} {st:Stmt} {f:Addr} {O:Value} {U F:Option Addr} {V:Array (Option Value)} {L kV N pm q J:Value} (l:K.lookup f>(O,U,.func (PySem.W.fnOf x D (iD st) (dD st) (AC st) L kV N pm F q J),V))
 (c:PySem.W.codeIn K q D=true) (k:PySem.W.keepIn K (.ref f)=true):DH K x D st f (PySem.W.fnOf x D (iD st) (dD st) (AC st) L kV N pm F q J):=⟨(O,U,L,kV,N,pm,F,q,J,V,rfl,l,c),k⟩
theorem DH.okE {x F:Str} {st:Stmt} {f:Addr} {D:FuncData} {N q:!Str} {k:Nat} {sp:Sp} (J:DH K x F st f D) (S:DC N q (AC st)) (Y:∀vs H Q E,sp vs H Q E->vs.length=q.length)
  (O:OF P w K mg base F st N k sp):NF P w K mg base (NG P w) (k+1) f D q sp:=by
 let(a5,a6,a3,kV,a4,pm,a1,L,a2,a7,rfl,Z,U):=J.ex;show fS Z U S Y λA a0 s H vs Q E V W=>O f L A a0 s H vs Q E V W
def dF (K:PySem.W.Frag) (C:Addr) (m qual:Str) (st:Stmt) (ps:!Str) (dvs:!V):Prop:=∃f fd ds,cH K C m f/\DH K m qual st f fd/\sE K fd ps ds/\OC dvs ds
def nK (K:PySem.W.Frag) (mg:Str->Option Value) (x:Str) (C:Addr) (qual:Str) (st:Stmt) (ps:!Str) (dvs:!V):Prop:=∃f fd ds,mg x=↑C/\Mk K C f/\DH K "__init__" qual st f fd/\sE K fd ps ds/\OC dvs ds
theorem dF.have {C:Addr} {m J:Str} {st:Stmt} {N q:!Str} {D:!V} {k:Nat} {sp:Sp} (R:dF K C m J st q D) (S:DC N q (AC st)) (O:∀vs H Q E,sp vs H Q E->vs.length=q.length)
  (L:OF P w K mg base J st N k sp):QC P w K mg base C m (k+1) q D sp:=
 let ⟨f,fd,ds,hm,F,hb,hd⟩:=R
 (f,fd,ds,hm,hb,hd,F.okE S O L)
theorem nK.have {C:Addr} {x J:Str} {st:Stmt} {N q:!Str} {D:!V} {k:Nat} {sp:Sp} (R:nK K mg x C J st q D) (S:DC N q (AC st)) (O:∀vs H Q E,sp vs H Q E->vs.length=q.length)
  (L:OF P w K mg base J st N k sp):HF P w K mg base x C (k+1) q D sp:=
 let ⟨f,fd,ds,hm,M,F,hb,hd⟩:=R
 (f,fd,ds,hm,M,hb,hd,F.okE S O L)
end
theorem oK {K:PySem.W.Frag} {F:FuncData} {D:!Str} {q:!Value} (n:Nat) (L:D.length=n+q.length) (h:∀(s:Shared) (us:!Value),K.In s.heap->us.length=n->BindsTo s F ⟨us,[]⟩ (D.zip (us++q))):sE K F D q:=
 λs us X J=>h s us X (by rw[xA,L] at J;omega)
section
variable {X:Cx}
end
theorem OC.at {xs:!V} {us:!Value} (r:OC xs us) (m:Nat) (h1:m < xs.length) (h2:m < us.length):KC xs[m] us[m]:=by
 let(u,q,D):=r.get (WA h1);rw[WA h2] at q;cases q;show D
theorem ic {prog:Program} {w:World} {q:Addr} (hd:(q == sysModules)=false):MeetsIn prog w (Builtin.«dict.__len__» ⟨[.ref q],[]⟩) (λο R s=>∃o es ep,s.heap.get? q>o/\o.data=.dict es ep/\R (.ok (.ret (.int es.size s.toks))) {s with toks:=s.toks+1}):=
 .of_wp λA R s ⟨o,es,ep,ho,D,h⟩=>by
  change wpAny _ _ (dictSize q >>= _) _ _ s;unfold dictSize;show dA (dA (wpAny_dictEntries ho D (wA ?_)));change wpAny _ _ (Builtin.Dict.pendingCount q >>= _) _ _ s;show dA (wpAny_pendingCount_other hd ?_);show wpAny_ret_mkInt ?_;rw[Nat.add_zero];show h
theorem jc {prog:Program} {w:World} {A:Around} {E:Value->Shared->Prop} {s:Shared} {q:Addr} {o:Obj} {es:Array DictEntry} {ep:Nat} {Q:Value->Shared->Prop} (hd:(q == sysModules)=false) (ho:s.heap.get? q>o) (J:o.cls=.type "dict") (L:o.data=.dict es ep) (N:(es.size:Int) < 2 ^ 63)
  (h:Q (.int es.size (s.toks+1)) {s with toks:=s.toks+1+1}):wpAny (model prog w) A (call (.builtin "len") [.ref q]) Q E s:=by
 let D:s.TypeIs (.ref q) "dict":=(o,ho,J)
 show Calls.call_function_entry kind_len plain_len entry_len (args_len1 _) ?_;unfold Builtin.«len»;show dA (m:=oneArg "len" _) (wA ?_);show dA (m:=callSpecial? (.ref q) (Str.ofString "__len__")) (wpAny_callSpecial?_slot (name:=Str.ofString "__len__") D F.slot_dict_len
  (call_meetsIn F.slot_dict_len D F.entry_dict_len (F.args_dict_len_1 _) (ic hd) (o,es,ep,ho,L,?_)))
 change wpAny _ _ _ _ _ {s with toks:=s.toks+1};show dA (BB (wA ?_));show dA (wpAny_letGo ?_);change wpAny _ _ (if ((es.size:Nat):Int) < 0 then _ else _) _ _ _;rw[fA ⋯];change wpAny _ _ (if ((es.size:Nat):Int)>=2 ^ 63 then _ else _) _ _ _;rw[fA ⋯];show dA (wpAny_mkInt (wA (_,rfl,h)))
theorem lc {X:Cx}:xE X (.builtin "len") (λxs H Q=>∃a kvs,xs=[V.ref a]/\H a>(.dT kvs)/\Q (.int kvs.length) H):=by
 intro a0 s a1 H xs us Q D r h;let(a,kvs,rfl,J,q):=h;let(u,rfl,Y):=EF r;cases Y;let(Z,hd,xs,W,o,es,ep,ho,L,N,O,_):=XJ D.hok J;let U:es.size=kvs.length:=by
  let F:es.size=xs.length:=by rw[<-eC,O,iA]
  rw[F,<-W.length]
 show jc hd ho L.1 N (by rw[sizeLine_eq] at Z;omega) ?_;rw[U];show(.int kvs.length,H,D.tok _,⟨_,rfl⟩,q)
section
variable {prog:Program} {w:World} {K:Type} [DecidableEq K] {knd:HeapKind prog w K} {A:Around} {E:Value->Shared->Prop} {s:Shared}
end
def uJ (h:Heap) (d:Addr) (es:Array DictEntry) (ep:Nat):Prop:=∃o,h.get? d>o/\o.ExactDict/\o.data=.dict es ep
theorem uJ.ty {s:Shared} {d:Addr} {es:Array DictEntry} {ep:Nat} (r:uJ s.heap d es ep):s.TypeIs (.ref d) "dict":=let ⟨o,ho,hc,_⟩:=r;(o,ho,hc.1)
theorem uJ.lt {h:Heap} {d:Addr} {es:Array DictEntry} {ep:Nat} (r:uJ h d es ep):d < h.objs.size:=let ⟨_,ho,_⟩:=r;JA ho
section
variable {prog:Program} {w:World} {A:Around} {E:Value->Shared->Prop} {s:Shared} {d it:Addr} {es:Array DictEntry} {ep i:Nat}
end
def AI (wi:TI) (k:Nat) (ix:!Nat) (g:TG) (tt:TT) (te:TE) (h:oH g tt te):TE:=λσ H Q=>wi σ H λJ H1=>∀D,H1 D=none->CH g tt te h J (List.replicate k none++ix.map λi=>(σ[i]?).join) D (λH'=>Q (.ref D) H') H1
section
variable {X:Cx}
theorem qc {U O W:Expr} {Y:!Expr} {scope:Scope} {pos:Pos} {x:Str} {xs fs:!Str} {ix:!Nat} {a2:TI} {g:TG} {a1:TT} {a0:TE} (aq:X.calm=true) (hi:PI X U O a2) (hk:kF scope X.env x fs=true) (ax:ix.map (X.N[·]?)=fs.map some)
  (aw:∀L C F D N J,PG (BD X scope L C (xs++fs) F D N J) U g) (av:∀L C F D N J,PF (BD X scope L C (xs++fs) F D N J) Y a1) (au:∀L C F D N J,PE (BD X scope L C (xs++fs) F D N J) W a0) (az:∀x,foldedSetIterable O X.env x=pure x:=by intro _;rfl):
  PE X (.ListComp W [(U,O,Y,0)] scope pos) (AI a2 xs.length ix g a1 a0 .mk):=by
 intro Z s a3 H Q V h;let S:=WE.of hk;let(L,ar,a7,a8):=S.clos V;rw[eval_ListComp];show wpAny_comprehension_free (use:=none) rfl az ar S.kind S.own (kD (hi Z s a3 H _ V h) λv be h1=>kD h1 λbb bh h2=>?_);let(b5,N,bi,b4,b3,e,a6,T,b2,ac,q):=h2;subst e;show CS (xs:=xs) (RR:=λacc C=>compPost (model X.prog X.w) X.A X.xe none (EP X Z a3 Q) acc C) a6 T.g b2 ac (λο ο ο ο=>aq) S a7 a8 ax (λC F D J=>aw L C F D N J) (λC F D J=>av L C F D N J) (λC F D J=>au L C F D N J) q λa4 C H' s' a5 b1 ⟨m,ay⟩ ⟨a9,ab,_,ad,ah,ao⟩=>?_;show(m,ay,λh' b0=>(.ref a4,H',a5.turned (t':=s'.toks) (λb o ap e=>(b0.2 b ap).trans e) a9 ab ad ah ao,rfl,b1))
end
theorem rc {X:Cx} {K:PySem.W.Frag} {es:!Expr} {k:Nat} {pos:Pos} {t:TGs} {n:Nat} (h:X.K=K) (q:X.calm=true) (F:WN X es t) (D:(assignEach es X.env).length=n:=by rfl) (J:(assignEach es X.env).findIdx? (·.1)=none:=by rfl):PG X (.Tuple es k pos) (iL K n t):=h ▸ pZ q F D J
def VF (v d:Addr):HO:=.ext λh=>h.IsValuesView v d
def pK (td:TE):TE:=λσ H Q=>td σ H λx H1=>∃a kvs,x=.ref a/\H1 a>(.dK kvs)/\∀v,H1 v=none->Q (.ref v) (FC H1 v (VF v a))
theorem j3 {X:Cx} {o:Expr} {N:TE} {J L:Pos} (ho:PE X o N) (V:attributeBase o "values" X.env (eval o X.env)=eval o X.env:=by rfl) (W:(J.endLine == L.line)=true:=by rfl):PE X (.Call (.Attribute o "values" J) [] [] L) (pK N):=by
 intro Z s a4 H Q O h;show wpAny_Call_method0_late V W (kD (ho Z s a4 H _ O h) λu F a3=>?_);let(x,a5,D,a0,a,kvs,ex,hd,q):=a3;subst ex;obtain rfl:u=Value.ref a:=a0;let(a1,a2,_):=nS D (.inl ⟨kvs,.inl hd⟩);let(_,Y,vs,_,dd):=mI D.hok (.inl hd);show("dict","dict.values",PySem.F.plainAttrs_dict,PySem.F.slot_dict_values,PySem.F.type_dict_values,a1,a2,MB rfl (PySem.evalArgs_none ?_));show call_meetsIn PySem.F.slot_dict_values dd.typeIs PySem.F.entry_dict_values (PySem.F.args_dict_values_1 _) (meets_dict_values (fD X.prog X.w) a Y) ⟨⟨vs,dd⟩,?_⟩;show(.ref F.heap.objs.size,_,D.laid (t':=F.toks) (λb u e=>zA _ e) (yA _) (o:=VF F.heap.objs.size a) ((_,SA _ rfl,rfl,rfl),⟨_,SA _ rfl⟩,λh1 h2 ⟨o,e,c,U⟩ k=>(o,k o e,c,U)),rfl,q _ (D.hok.fresh (yA _)))
def OQ (a:Addr) (o:Obj) (kvs:!(Key×V)):It:=
 (λi H=>H a>(.frz o (.dK kvs))/\i < kvs.length,λi H x H'=>H'=H/\∃k,kvs[i]?>(k,x),λi H=>H a>(.frz o (.dK kvs))/\kvs.length<=i)
theorem uc {P:Program} {w:World} {K:PySem.W.Frag} {av:Expr} (a F:Addr) (o:Obj) (kvs:!(Key×V)) (ep:Nat) {es} (a8:o.data=.dict es ep):aH P w K av (OQ a o kvs) [F] F (λi h=>h.IsValIter F a i kvs.length ep) where
 mem:=by simp
 obj:=λi h st b q=>by
  let e:b=F:=by simpa using q
  subst e;let(o,e,c,U):=st;show(o,e,λv ac=>by rw[U] at ac;cases ac)
 keep:=λi h h' st k=>st.at λo e=>k F (by simp) o e
 item:=by
  intro X a4 a5 a3 a7 i ab s ad H E J N st D;subst a4 a5 a3;let(D,hi):=D;let(vs,O,W,_):=ES J D a8;let(Y,Z,ap,a0,a1,a2):=N F (by simp);let L:=O.length;let aq:i < vs.length:=by rw[<-L];show hi
  obtain⟨⟨k,x⟩,a9⟩:∃p,vs[i]?>p:=⟨_,WA aq⟩
  let(v,ar,au):=fK O i k x a9;rw[L] at st;show wpAny_pyNext_values_item st W a9 λh' a6 sb=>?_;let ah:HC X ab ad H {s with heap:=h'}:=J.turned (t':=s.toks) (λb o q e=>(sb.2 b q).trans e) Y Z a0 a1 a2;let(aw,e,c,U):=id a6;rw[<-L] at a6;show(x,rfl,aS (s:={s with heap:=h'}) e c U (by decide) (v,H,ah,au,(rfl,k,ar),a6,λb q=>(N b q).1))
 done:=by
  intro X a4 a5 a3 a7 i ab s ad H E J N st D;subst a4 a5 a3;let(D,hi):=D;let(vs,O,W,_):=ES J D a8;let(Y,Z,ap,a0,a1,a2):=N F (by simp);let L:=O.length;rw[L] at st;show wpAny_pyNext_values_end (J.ok.hd a7) st W (List.getElem?_eq_none_iff.mpr (by rw[<-L];show hi)) λh' ao=>⟨rfl,J.turned (t':=s.toks) (λb o q e=>ao b o q e) Y Z a0 a1 a2⟩
 self:=λο ο ο ο ο st h=>wpAny_pyIter_valiter st h
def qK (tl:TE):TI:=λσ H R=>tl σ H λx H1=>∃v a kvs,x=.ref v/\H1 v>(VF v a)/\H1 a>(.dK kvs)/\∀o,R (OQ a o kvs) (FC H1 a (.frz o (.dK kvs)))
theorem y3 {X:Cx} {a9 l:Expr} {W:TE} (a2:PE X l W):PI X a9 l (qK W):=by
 intro a6 s ac H R Y h;show kD (a2 a6 s ac H _ Y h) λv D ab=>?_;let(x,L,J,a8,a7):=ab;let(vw,a,kvs,e,a4,U,q):=a7;subst e;cases a8;let(o,ho,F):=J.freeze U;let(_,_,vs,V,o',es,ep,O,c,N,r):=J.hok a _ U;rw[ho] at O;cases O;let(vs,V,Z,hd):=ES F jD N;let a5:D.heap.IsValuesView vw a:=(J.hok vw _ a4).1;show wpAny_pyIter_values a5 Z ?_;let a3:kvs.length=vs.length:=V.length;let a1:FC L a (.frz o (.dK kvs)) D.heap.objs.size=none:=F.hok.fresh (yA _);show(D.heap.objs.size,[D.heap.objs.size],_,_,FC L a (.frz o (.dK kvs)),rfl,F.kept (t':=D.toks) λb o e=>zA _ e,uc a _ o kvs ep N,(_,SA _ rfl,rfl,by rw[a3];rfl),λb a0=>?_,q o);let e:b=D.heap.objs.size:=by simpa using a0
 subst e;show F.fpOk (yA _) a1
theorem vc {a:Addr} {o:Obj} {kvs:!(Key×V)} {g:TG} {N:TT} {L:TE} {h:oH g N L} {Y:St} {F:Addr} {Q:Hp->Prop} {H:Hp} (Pv:Nat->!V->St->Hp->Prop) (h0:Pv 0 [] Y (FC H F (.lst []))) (a1:∀i ys D H,i<=kvs.length->Pv i ys D H->H a>(.frz o (.dK kvs)))
  (a2:∀i k x ys D H,kvs[i]?>(k,x)->Pv i ys D H->g x D H λJ Z=>N J Z λb O=>if b=true then L J O λv U=>U F>(.lst ys)/\ys.length < sizeLine/\Pv (i+1) (ys++[v]) J (FC U F (.lst (ys++[v]))) else Pv (i+1) ys J O) (hd:∀ys D H,Pv kvs.length ys D H->Q H):
  CH g N L h (OQ a o kvs) Y F Q H:=by
 show(λi m ys D H=>i+m=kvs.length/\Pv i ys D H,(kvs.length,Nat.zero_add _,h0),λi m ys D H ⟨e,p⟩=>?_);let W:=a1 i ys D H ⋯ p;by_cases hi:i < kvs.length
 .show .inr (⟨W,hi⟩,Pv (i+1),λys D H q=>(m - 1,⋯,⋯,q),?_);rintro a4 H' ⟨rfl,k,a3⟩;show a2 i k a4 ys D _ a3 p
 .let a0:i=kvs.length:=⋯;subst a0;show .inl ⟨⟨W,yA _⟩,hd ys D H p⟩
section
variable {prog:Program} {w:World} {A:Around} {E:Value->Shared->Prop} {s:Shared}
end
def wH (i:Nat):TE:=λσ H Q=>match σ[i]? with
 |some (some v)=>Q v H
 |_=>False
set_option tactic.hygienic true in
theorem wc {i:Nat} {σ:St} {H:Hp} {Q:VK} (h:wH i σ H Q):jJ i σ H Q:=by
 unfold wH at h
 split at h
 .rename_i v e;show(v,e,h)
 .show h.elim
theorem BC {X:Cx} (i:Nat) {x:Str} {pos:Pos} (D:X.N[i]?>x:=by rfl) (J:rQ X.env.scope x:=by first|exact Or.inl rfl|exact Or.inr (Or.inl rfl)|exact Or.inr (Or.inr rfl)) (hd:(x == ("__debug__":Str))=false:=by decide)
 (F:(x == ("__classdict__":Str))=false:=by decide):PE X (.Name x pos) (wH i):=λL s N H Q q h=>kZ D J hd F L s N H Q q (wc h)
theorem SL {g:Int->Int->V} {i j:Int} {H:Hp} {Q:VK}:cI g (.int i) (.int j) H Q=Q (g i j) H:=propext ⟨λ⟨_,_,q,D,h⟩=>by cases q;cases D;show h,λh=>(_,_,rfl,rfl,h)⟩
theorem GO {C:Int->Int->Prop} {g:Int->Int->V} {i j:Int} {H:Hp} {Q:VK}:rI C g (.int i) (.int j) H Q=(C i j/\Q (g i j) H):=propext ⟨λ⟨_,_,q,D,h⟩=>by cases q;cases D;show h,λh=>(_,_,rfl,rfl,h)⟩
theorem TL {c:Int} {P:Int->Prop}:(∃i,V.int c=V.int i/\P i)=P c:=propext ⟨λ⟨_,e,h⟩=>by cases e;show h,λh=>(_,rfl,h)⟩
theorem JO {c:Bool} {P:Bool->Prop}:(∃i,V.bl c=V.bl i/\P i)=P c:=propext ⟨λ⟨_,e,h⟩=>by cases e;show h,λh=>(_,rfl,h)⟩
theorem UL {c:Addr} {P:Addr->Prop}:(∃i,V.ref c=V.ref i/\P i)=P c:=propext ⟨λ⟨_,e,h⟩=>by cases e;show h,λh=>(_,rfl,h)⟩
section
open PySem.Builtin PySem.Builtin.Str
end
structure xH (k:Nat) (A:Around):Prop where
 dp:A.depth+3 * k+5 < recursionLimit
 un:A.units+16 * k+200 < cLine
theorem VD.h {k:Nat} {A:Around} (r:VD k A):xH k A:=⟨r.dp,r.un⟩
theorem xH.deeper {k:Nat} {A:Around} (r:xH (k+1) A) (env:Env):xH k (A.deeper env):=
 ⟨by have:=r.dp;change A.depth+1+3 * k+5 < _;omega,by have:=r.un;change A.units+3+16 * k+200 < _;omega⟩
def MO (P:Program) (w:World) (K:PySem.W.Frag) (mg:Str->Option Value) (base:Heap) (N:!Str) (qual:Str) (scope:Scope) (f:Addr) (cd:Value) (A:Around) (outer:!Env) (s:Shared) (H:Hp) (E:XK):Cx:=
 {tE (NG P w) P w K mg base N qual scope f cd A outer s H E with calm:=false}
theorem Pc {P:Program} {w:World} {K:PySem.W.Frag} {mg:Str->Option Value} {base:Heap} {N:!Str} {F:Str} {scope:Scope} {f:Addr} {q:Value} {A:Around} {D:!Env} {s:Shared} {H:Hp} {E:XK}:(MO P w K mg base N F scope f q A D s H E).K=K:=rfl
def BI (K:PySem.W.Frag) (fd:FuncData) (ps ks:!Str):Prop:=∀(s:Shared) (us:!Value) (a b:Value),K.In s.heap->us.length+2=ps.length->BindsTo s fd ⟨us,ks.zip [a,b]⟩ (ps.zip (us++[b,a]))
def rK (K:PySem.W.Frag) (C:Addr) (m qual:Str) (st:Stmt) (ps ks:!Str):Prop:=∃f fd,cH K C m f/\DH K m qual st f fd/\BI K fd ps ks
def WL (P:Program) (w:World) (K:PySem.W.Frag) (mg:Str->Option Value) (base:Heap) (C:Addr) (m:Str) (k:Nat) (ps ks:!Str) (sp:Sp):Prop:=
 ∃f fd,cH K C m f/\BI K fd ps ks/\NF P w K mg base (NG P w) k f fd ps sp
theorem rK.have {P:Program} {w:World} {K:PySem.W.Frag} {mg:Str->Option Value} {base:Heap} {C:Addr} {m D:Str} {st:Stmt} {N q ks:!Str} {k:Nat} {sp:Sp} (R:rK K C m D st q ks) (S:DC N q (AC st)) (L:∀vs H Q E,sp vs H Q E->vs.length=q.length)
  (J:OF P w K mg base D st N k sp):WL P w K mg base C m (k+1) q ks sp:=
 let ⟨f,fd,hm,F,hb⟩:=R
 (f,fd,hm,hb,F.okE S L J)
def sK (K:PySem.W.Frag) (D:Addr) (tb:XKs->TS) (to th:TS):TS:=λDn σ H=>
 tb (λcls σ' H'=>∃C,cls=.ref C/\sJ K C D/\th Dn σ' H') {Dn with nx:=to Dn} σ H
theorem Qc {X:Cx} {x:Str} {a1:Addr} {ao av:!Stmt} {a4:Stmt} {a7:!Stmt} {rest:!ExceptHandler} {au ar pos:Pos} {ay:XKs->TS} {to a8:TS}
  (c:XH X.K X.mg x a1)
  (be:∀(a2:Value->Shared->Prop) (pn:!(Addr×Obj)) (ah:XKs),PassesOwn (model X.prog X.w) X.A X.env a2->XW {X with xe:=a2,pn:=pn} ah->bG {X with xe:=a2,pn:=pn} ao (ay ah))
  (ho:bG X av to) (bm:∀N:Addr,bG {X with A:=X.A.mark (↑N),calm:=false,xe:=λο ο=>False} (a4::a7) a8)
  (bl:Gl X x:=by rfl) (br:X.stack=X.env::X.outer:=by rfl) (bi:X.env.frame>X.env.locals:=by rfl) (hd:(x == ("__debug__":Str))=false:=by decide):
  PS X (.Try ao (.ExceptHandler (some (.Name x au)) none (a4::a7) ar::rest) av [] pos) (sK X.K a1 ay to a8):=by
 intro L s c9 H Dn F h;show wpAny_Try_except ?_;let c4:XW {X with xe:=(λe c0=>wpAny (model X.prog X.w) X.A (noteFrame e X.env) (λο c1=>wpAny (model X.prog X.w) X.A (setFlight e none) (λο c2=>
   wpAny (model X.prog X.w) X.A (handleBy e X.env (.ExceptHandler (some (.Name x au)) none (a4::a7) ar::rest)) (SP X L Dn) X.xe c2) X.xe c1) X.xe c0),pn:=X.pn++L}
   (λcls D H'=>∃C,cls=.ref C/\sJ X.K C a1/\a8 Dn D H'):=by
  intro cn Z ab ax s' N cls H' B b1 bw b3 un bp Y a6;let(C,rfl,bt,a6):=a6;let a3:HC X L Z ab ax:=b1.unre F.ok;let ac:HC X L Z H' s':=a3.call' (s':=s') (ch:=[]) bw un bp b3 (λb a9=>absurd a9 (by simp));let Y:HQ B X.stack ax.heap ab H' s'.heap N (.ref C):=Y;let(a0,ap):=id Y.fl;let aq:=F.ok.frames;rw[br] at aq ap;change wpAny (model X.prog X.w) X.A (noteFrame (.ref N) X.env) _ X.xe s';show wpAny_looks_onW aq bi ap λcd bh az=>?_;show wpAny_landsW bh λb5 a5 b0=>?_;let ad:HC X L Z H' {s' with heap:=b5}:=HC.flown a3 ac Y a5.1 (az.trans b0);let(cl,co,bo,bn,ck,_):=a5.first;show wpAny_handleBy_cons (codeAny_handlers_test (rN (X:={X with A:=X.A.mark (↑N),calm:=false,xe:=λο ο=>False}) (ad.marked (v:=↑N)) bl c.m ?_ hd)) (by intro q;cases q);show rb (x:=x) (mg:=X.mg) ad.kIn c bt bo bn ?_;show codeAny_handlers_suite ?_;show lands_againW a5 λbb b4 c3=>?_;let b2:HC X L Z H' {s' with heap:=bb}:=HC.flown a3 ac Y b4.1 ((az.trans b0).trans c3);show pB (bm N L _ _ _ _ (b2.marked (v:=↑N)) a6) (λf bz J=>?_) (λο ο a9=>a9.elim);change SP X L Dn f bz;cases f with
  |next=>let(D,O,V,q):=J;show(D,O,V.unmarked F.ok,q)
  |brk=>let(D,O,V,q):=J;show(D,O,V.unmarked F.ok,q)
  |cont=>let(D,O,V,q):=J;show(D,O,V.unmarked F.ok,q)
  |ret u=>let(v,D,O,V,r,q):=J;show(v,D,O,V.unmarked F.ok,r,q)
 let q:=be _ (X.pn++L) _ PassesOwn.looking c4 [] s c9 H {Dn with nx:=to Dn} F.re h;show pB q (λf aw J=>?_) (λe aw J=>J);cases f with
 |next=>
  let(D,H',U,W):=J;show ho L aw D H' Dn (U.unre F.ok) W
 |brk=>let(D,H',U,W):=J;show(D,H',U.unre F.ok,W)
 |cont=>let(D,H',U,W):=J;show(D,H',U.unre F.ok,W)
 |ret u=>let(v,D,H',U,r,W):=J;show(v,D,H',U.unre F.ok,r,W)
theorem Rc {X:Cx}:xE X (.type "dict") (λxs H Q=>∃p kvs,xs=[.ref p]/\Rd H p (.dK kvs)/\∀l,H l=none->Q (.ref l) (FC H l (.dK kvs))):=by
 intro O s U H xs us Q D r h;let(p,kvs,rfl,L,q):=h;let(u,rfl,N):=EF r;cases N;show cb D L λl s' J F=>(.ref l,_,F,rfl,q l J)
def CI (X:Cx) (t:TE):TE:=λσ H Q=>∃a,(∀o u,X.H₀ a≠some (.frz o u))/\t σ H λv H'=>Q v (lF a H')
theorem Sc {X:Cx} {e:Expr} {t:TE} (h:PE X e t):PE X e (CI X t):=by
 intro L s N H Q F D;let(a,h0,D):=D;show pB (h L s N H _ F D) (λv s' ⟨x,H',J,r,q⟩=>(x,_,J.thawed h0,r,q)) λο ο e=>e
theorem Tc {a:Addr} {o:Obj} {kvs:!(Key×V)} {g:TG} {J:TS} {h:mH g J} {F:bF} {D:St} {H:Hp} (Pv:Nat->St->Hp->Prop) (h0:Pv 0 D H) (U:∀i D H,i<=kvs.length->Pv i D H->H a>(.frz o (.dK kvs)))
  (W:∀i k v D H,kvs[i]?>(k,v)->Pv i D H->g v D H λZ N=>J {F with nx:=Pv (i+1),ct:=Pv (i+1),bk:=F.nx} Z N) (hd:∀D H,Pv kvs.length D H->F.nx D H):xI g J h (OQ a o kvs) F D H:=by
 show(λi m D H=>i+m=kvs.length/\Pv i D H,(kvs.length,Nat.zero_add _,h0),λi m D H ⟨e,p⟩=>?_);let L:=U i D H ⋯ p;by_cases hi:i < kvs.length
 .show .inr (⟨L,hi⟩,Pv (i+1),λD H q=>(m - 1,⋯,⋯,q),?_);rintro Y H' ⟨rfl,k,hk⟩;show W i k Y D _ hk p
 .let O:i=kvs.length:=⋯;subst O;show .inl ⟨⟨L,yA _⟩,hd D H p⟩
section
variable {prog:Program} {w:World} {A:Around} {E:Value->Shared->Prop} {s:Shared}
end
section
variable {X:Cx}
end
section
variable {prog:Program} {w:World} {A:Around} {E:Value->Shared->Prop} {s:Shared}
end
section
variable {X:Cx}
end
section
variable {X:Cx} {pins:!(Addr×Obj)} {σ:!(Option V)} {H:Hp} {s:Shared} {a:Addr}
end
section
open PySem.W
def In (p:Array Nat) (n:Nat):Prop:=0 < n/\∀x∈p.toList,x < n
theorem In.at {p:Array Nat} {n:Nat} (h:In p n) (i:Nat):p.getD i 0 < n:=by
 rw[jC];cases e:p[i]? with
 |none=>show h.1
 |some x=>show h.2 x (VA (by rw[Array.getElem?_toList];show e))
structure Od (lt:Nat->Nat->Bool) (n:Nat):Prop where
 tr:∀i j k,i < n->j < n->k < n->lt i j=true->lt j k=true->lt i k=true
 ir:∀i,i < n->lt i i=false
 to:∀i j,i < n->j < n->i≠j->lt i j=true\/lt j i=true
variable {lt:Nat->Nat->Bool} {n:Nat}
structure Pm (p:Array Nat) (n:Nat):Prop where
 sz:p.size=n
 lt:∀i,i < n->p.getD i 0 < n
 ne:∀i j,i < n->j < n->i≠j->p.getD i 0≠p.getD j 0
 pe:p.Perm (List.range n).toArray
def Up (lt:Nat->Nat->Bool) (p:Array Nat) (m:Nat):Prop:=∀i j,i < j->j < m->lt (p.getD i 0) (p.getD j 0)=true
def Dn (lt:Nat->Nat->Bool) (p:Array Nat) (m:Nat):Prop:=∀i j,i < j->j < m->lt (p.getD j 0) (p.getD i 0)=true
theorem Up.succ {p:Array Nat} {m:Nat} (o:Od lt n) (q:Pm p n) (h:Up lt p m) (h1:1<=m) (J:m < n) (c:lt (p.getD (m - 1) 0) (p.getD m 0)=true):Up lt p (m+1):=λi j F D=>by
 let D||rfl:=(by omega:j < m\/j=m)
 .show h i j F D
 .let hi||rfl:=(by omega:i < j - 1\/i=j - 1)
  .show o.tr _ _ _ (q.lt _ ⋯) (q.lt _ ⋯) (q.lt _ J) (h i (j - 1) hi ⋯) c
  .show c
theorem Dn.succ {p:Array Nat} {m:Nat} (o:Od lt n) (q:Pm p n) (h:Dn lt p m) (h1:1<=m) (J:m < n) (c:lt (p.getD m 0) (p.getD (m - 1) 0)=true):Dn lt p (m+1):=λi j F D=>by
 let D||rfl:=(by omega:j < m\/j=m)
 .show h i j F D
 .let hi||rfl:=(by omega:i < j - 1\/i=j - 1)
  .show o.tr _ _ _ (q.lt _ J) (q.lt _ ⋯) (q.lt _ ⋯) c (h i (j - 1) hi ⋯)
  .show c
theorem other {p:Array Nat} (o:Od lt n) (q:Pm p n) {i j:Nat} (hi:i < n) (D:j < n) (F:i≠j) (c:lt (p.getD i 0) (p.getD j 0)=false):lt (p.getD j 0) (p.getD i 0)=true:=by
 let h||h:=o.to _ _ (q.lt i hi) (q.lt j D) (q.ne i j hi D F)
 .rw[h] at c;cases c
 .show h
end
section
variable {prog:Program} {w:World} {A:Around} {E:Value->Shared->Prop} {s:Shared}
end
section
variable {prog:Program} {w:World} {K:Type} [DecidableEq K] {knd:HeapKind prog w K} {A:Around} {E:Value->Shared->Prop} {s:Shared}
end
section
variable {M:Model} {A:Around} {E:Value->Shared->Prop} {s:Shared} {env:Env}
end
section
variable {M:Model} {A:Around} {E:Value->Shared->Prop} {s:Shared} {env:Env}
end
section
variable {X:Cx}
end
section
variable {prog:Program} {w:World} {A:Around} {E:Value->Shared->Prop} {s:Shared}
end
section
variable {prog:Program} {w:World} {A:Around} {E:Value->Shared->Prop} {s:Shared}
end
section
variable {X:Cx}
end
section
variable {K:PySem.W.Frag} {h:Heap} {mg:Str->Option Value} {x qual:Str} {st:Stmt} {ps:!Str} {C f:Addr} {oc:Value} {od an:Option Addr} {osl:Array (Option Value)} {kV doc pm cdv ct:Value}
def GF (K:PySem.W.Frag) (x:Str) (st:Stmt):Prop:=∃f fd,PySem.W.nsIn K mainGlobals x>(↑f)/\iH K x x st f fd
theorem GF.mk (a:PySem.W.nsIn K mainGlobals x>(↑f)) (l:K.lookup f>(oc,od,.func (PySem.W.fnOf x x (iD st) (dD st) (AC st) .none kV doc pm an cdv ct),osl)) (c:PySem.W.codeIn K cdv x=true) (k:PySem.W.keepIn K (.ref f)=true):GF K x st:=(_,_,a,oS l c k)
theorem GF.raw (g:GF K x st) (X:K.In h) (q:h.Ns mainGlobals mg) (b:∀(kV N pm:Value) (D:Option Addr) (J L:Value) (us:!Value),us.length=ps.length->bindArgs (PySem.W.fnOf x x (iD st) (dD st) (AC st) .none kV N pm D J L) ⟨us,[]⟩=pure (ps.zip us)):TF K mg x x st ps []:=
 let ⟨_,_,a,F⟩:=g
 (_,_,_,PySem.W.mg_of X q a,F,F.binds b,.nil)
theorem GF.law (g:GF K x st) (X:K.In h) (O:h.Ns mainGlobals mg) {p:Str} (b:∀(kV N pm:Value) (F:Option Addr) (J L u:Value),bindArgs (PySem.W.fnOf x x (iD st) (dD st) (AC st) .none kV N pm F J L) ⟨[u],[]⟩=pure [(p,u)]):∃f q,mg x=↑f/\iH K x x st f q/\∀(s:Shared) (u:Value),BindsTo s q ⟨[u],[]⟩ [(p,u)]:=by
 let(f,q,a,D):=g;show(f,q,PySem.W.mg_of X O a,D,λs u=>?_);let(W,Y,kV,N,pm,F,J,L,Z,rfl,V,U):=D.ex;show .of_eq (b ..)
def MF (K:PySem.W.Frag) (C:Addr) (x qual:Str) (st:Stmt):Prop:=∃f fd,cH K C x f/\iH K x qual st f fd
theorem MF.mk (a:PySem.W.findIn K (.ref C) x>(↑f)) (i:PySem.W.isFn K (.ref f)=true) (l:K.lookup f>(oc,od,.func (PySem.W.fnOf x qual (iD st) (dD st) (AC st) .none kV doc pm an cdv ct),osl)) (c:PySem.W.codeIn K cdv qual=true) (k:PySem.W.keepIn K (.ref f)=true):MF K C x qual st:=(_,_,(a,i,k),oS l c k)
theorem MF.raw (g:MF K C x qual st) (b:∀(kV L pm:Value) (q:Option Addr) (D J:Value) (us:!Value),us.length=ps.length->bindArgs (PySem.W.fnOf x qual (iD st) (dD st) (AC st) .none kV L pm q D J) ⟨us,[]⟩=pure (ps.zip us)):lD K C x qual st ps []:=
 let ⟨_,_,a,F⟩:=g
 (_,_,_,a,F,F.binds b,.nil)
def IF (K:PySem.W.Frag) (C:Addr) (qual:Str) (st:Stmt):Prop:=∃f fd,Mk K C f/\iH K "__init__" qual st f fd
theorem IF.mk (m:PySem.W.makesIn K C=true) (q:PySem.W.keepIn K (.ref C)=true) (a:PySem.W.findIn K (.ref C) "__init__">(↑f)) (i:PySem.W.isFn K (.ref f)=true) (l:K.lookup f>(oc,od,.func (PySem.W.fnOf "__init__" qual (iD st) (dD st) (AC st) .none kV doc pm an cdv ct),osl)) (c:PySem.W.codeIn K cdv qual=true) (k:PySem.W.keepIn K (.ref f)=true):IF K C qual st:=(_,_,(m,a,i,q),oS l c k)
theorem IF.raw (g:IF K C qual st) (X:K.In h) (q:h.Ns mainGlobals mg) (n:PySem.W.nsIn K mainGlobals x>(↑C)) (b:∀(kV N pm:Value) (D:Option Addr) (J L:Value) (us:!Value),us.length=ps.length->bindArgs (PySem.W.fnOf "__init__" qual (iD st) (dD st) (AC st) .none kV N pm D J L) ⟨us,[]⟩=pure (ps.zip us)):lH K mg x C qual st ps []:=
 let ⟨_,_,a,F⟩:=g
 (_,_,_,PySem.W.mg_of X q n,a,F,F.binds b,.nil)
end
namespace ST
def PQ (m i:Nat):Nat:=(i * 5+1) % (m+1)
def QQ (m:Nat):Nat->Nat->!Nat
 |0,_=>[]
 |k+1,i=>i::QQ m k (PQ m i)
theorem GS:∀i,i < 8->∀j,j < 8->j∈QQ 7 8 i:=by decide
theorem NO:∀i,i < 32->∀j,j < 32->j∈QQ 31 32 i:=∅
def EH (m:Nat):Nat->Nat->Nat
 |0,i=>i
 |k+1,i=>EH m k (PQ m i)
theorem HS {m j:Nat}:∀{k i:Nat},j∈QQ m k i->∃n,n < k/\EH m n i=j
 |0,_,h=>by cases h
 |k+1,i,h=>by
  let h||h:=uA.mp h
  .show(0,⋯,h.symm)
  .let(n,h1,h2):=HS h;show(n+1,⋯,h2)
def Mk (m:Nat):Prop:=m=7\/m=31
theorem Uc {m:Nat} (q:Mk m) {i j:Nat} (hi:i<=m) (D:j<=m):∃n,n<=m/\EH m n i=j:=by
 let rfl||rfl:=q
 .let(n,h1,h2):=HS (GS i ⋯ j ⋯);show(n,⋯,h2)
 .let(n,h1,h2):=HS (NO i ⋯ j ⋯);show(n,⋯,h2)
def lp (m:Nat):Nat->Nat×Nat->Nat×Nat
 |0,x=>x
 |k+1,x=>SetTable.leap m (lp m k x).1 (lp m k x).2
theorem OO {m:Nat} {x:Nat×Nat} (h:x.1<=m):∀k,(lp m k x).1<=m
 |0=>h
 |k+1=>by
  change (_ % (m+1))<=m;have:=Nat.mod_lt ((lp m k x).1 * 5+1+(lp m k x).2 / 32) (show 0 < m+1 by omega);omega
theorem Q3 {m:Nat} {x:Nat×Nat}:∀k,(lp m k x).2=x.2 / 32 ^ k
 |0=>by change x.2=_;rw[Nat.pow_zero,Nat.div_one]
 |k+1=>by
  change (lp m k x).2 / 32=_;rw[Q3 k,Nat.div_div_eq_div_mul,Nat.pow_succ]
theorem YL {m:Nat} {x:Nat×Nat} (q:x.2 < 2 ^ 64) {k:Nat} (hk:13<=k):(lp m k x).2=0:=by
 rw[Q3];apply Nat.div_eq_of_lt;have:(32:Nat) ^ 13<=32 ^ k:=Nat.pow_le_pow_right ⋯ hk;let e:(32:Nat) ^ 13=2 ^ 65:=by decide
 omega
theorem R3 {m:Nat}:∀{n i:Nat},EH m (n+1) i=PQ m (EH m n i)
 |0,_=>rfl
 |n+1,i=>R3 (n:=n) (i:=PQ m i)
theorem S3 {m:Nat} {x:Nat×Nat} (hx:x.2 < 2 ^ 64):∀n,(lp m (13+n) x).1=EH m n (lp m 13 x).1
 |0=>rfl
 |n+1=>by
  rw[R3,<-S3 hx n];change ((lp m (13+n) x).1 * 5+1+(lp m (13+n) x).2 / 32) % (m+1)=_;rw[YL hx ⋯]
  rfl
theorem ZL {m:Nat} (D:Mk m) {x:Nat×Nat} (h:x.1<=m) (F:x.2 < 2 ^ 64) {j:Nat} (q:j<=m):∃k,k<=13+m/\(lp m k x).1=j:=by
 let(n,h1,h2):=Uc D (OO h 13) q;show(13+n,⋯,by rw[S3 F];show h2)
theorem Vc (h:Int):SetTable.bits h < 2 ^ 64:=by unfold SetTable.bits;omega
def QO (t:SetTable) (x:Nat×Nat):SetTable.Probe:=(x.1,SetTable.runEnd t.mask x.1 - x.1,x.1,x.2,none)
theorem T3 {m:Nat} {x:Nat×Nat}:∀n,lp m (n+1) x=lp m n (SetTable.leap m x.1 x.2)
 |0=>rfl
 |n+1=>by
  change SetTable.leap m (lp m (n+1) x).1 (lp m (n+1) x).2=_;rw[T3 n]
  rfl
theorem U3 {m:Nat} {ow:Array (Option Nat)}:∀{n fuel:Nat} {x:Nat×Nat},n < fuel->ow.getD (lp m n x).1 (some 0)=none->∃j,SetTable.layClean.free m ow fuel x.1 x.2>j/\ow.getD j (some 0)=none
 |n,fuel+1,x,hf,he=>by
  unfold SetTable.layClean.free;cases e:(List.range (SetTable.runEnd m x.1+1 - x.1)).find? λk=>(ow.getD (x.1+k) (some 0)).isNone with
  |some k=>
   let h1:=List.find?_some e;show(_,rfl,Option.isNone_iff_eq_none.mp h1)
  |none=>
   dsimp only;cases n with
   |zero=>
    exfalso;let h1:=List.find?_eq_none.mp e 0 (pC.mpr (by unfold SetTable.runEnd;split<;>omega));apply h1;rw[Nat.add_zero];show Option.isNone_iff_eq_none.mpr he
   |succ n=>
    rw[T3] at he;show U3 (x:=SetTable.leap m x.1 x.2) ⋯ he
structure Ow (m:Nat) (ow:Array (Option Nat)) (js:!Nat):Prop where
 sz:ow.size=m+1
 nd:js.Nodup
 le:∀j∈js,j<=m
 at_:∀j,j<=m->ow[j]?>(if j∈js then some (js.idxOf j) else none)
theorem Ow.zero (m:Nat):Ow m (Array.replicate (m+1) none) []:=(by simp,.nil,(λj h=>by cases h),λj q=>by
 rw[Array.getElem?_replicate,jA ⋯];rfl)
theorem Ow.next {m:Nat} (a3:Mk m) {ow:Array (Option Nat)} {F:!Nat} (h:Ow m ow F) (a5:F.length<=m) (D:Int):
  ∃j,SetTable.layClean.free m ow (SetTable.turns m) (SetTable.bits D % (m+1)) (SetTable.bits D)>j/\Ow m (ow.setIfInBounds j (some F.length)) (F++[j]):=by
 let N:∃j,j<=m/\j∉F:=by
  apply Classical.byContradiction;intro N;let sub:List.range (m+1) ⊆ F:=λj a1=>Classical.byContradiction λq=>N (j,by have:=pC.mp a1;omega,q);have:=(List.nodup_range (n:=m+1)).length_le_of_subset sub;rw[PB] at this;omega
 let(a4,O,a2):=N;let h1:SetTable.bits D % (m+1)<=m:=by
  have:=Nat.mod_lt (SetTable.bits D) (show 0 < m+1 by omega);omega
 let(k,hk,W):=ZL a3 (x:=(SetTable.bits D % (m+1),SetTable.bits D)) h1 (Vc D) O;let(j,Y,L):=U3 (m:=m) (ow:=ow) (n:=k) (fuel:=SetTable.turns m) (x:=(SetTable.bits D % (m+1),SetTable.bits D)) (by unfold SetTable.turns;omega) (by
  rw[W,jC,h.at_ a4 O,fA a2];rfl)
 show(j,Y,?_);let U:j<=m:=by
  apply Classical.byContradiction;intro q;rw[jC,Array.getElem?_eq_none (by rw[h.sz];omega)] at L;cases L
 let V:j∉F:=λq=>by
  rw[jC,h.at_ j U,jA q] at L;cases L
 show(by rw[Array.size_setIfInBounds];show h.sz,?_,?_,λi hi=>?_)
 .rw[LA];show(h.nd,by simp,λa Z b a0 e=>?_);rw[bA.mp a0] at e;show V (e ▸ Z)
 .intro i hi;let q||q:=kA.mp hi
  .show h.le i q
  .rw[bA.mp q];show U
 .rw[Array.getElem?_setIfInBounds];by_cases q:j=i
  .subst q;rw[jA rfl,jA (by rw[h.sz];omega),jA (vA _ (bA.mpr rfl)),List.idxOf_append,fA V];simp
  .rw[fA q,h.at_ i hi];by_cases r:i∈F
   .rw[jA r,jA (EA _ r),List.idxOf_append,jA r]
   .rw[fA r,fA];intro J;let J||J:=kA.mp J
    .show r J
    .show q (bA.mp J).symm
section
variable {prog:Program} {w:World} {A:Around} {E:Value->Shared->Prop} {s:Shared} {a:Addr} {o:Obj} {items:Array Value} {n:Nat} {Q:Bool->Shared->Prop}
end
section
variable {prog:Program} {w:World} {K:Type} [DecidableEq K] {knd:KeyKind prog w K} {A:Around} {E:Value->Shared->Prop} {s:Shared} {S a:Addr} {o:Obj} {es:Array (Int×Value)} {ep:Nat} {t:SetTable} {k:!K}
end
section
variable {prog:Program} {w:World} {K:Type} [DecidableEq K] {knd:KeyKind prog w K} {A:Around} {E:Value->Shared->Prop} {s:Shared} {S a:Addr} {k:!K} {ks:!(!K)}
end
section
variable {prog:Program} {w:World} {K:Type} [DecidableEq K] {knd:KeyKind prog w K} {A:Around} {R:Result->Shared->Prop} {I:Addr} {fp wr:!Addr} {G:Array GenState->Array GenState->Prop} {n:Nat} {P:Nat->Value->Prop} {St:Nat->Shared->Prop}
end
section
variable {prog:Program} {w:World} {K:Type} [DecidableEq K] {knd:KeyKind prog w K} {A:Around} {E:Value->Shared->Prop} {s:Shared}
end
end ST
section
variable {prog:Program} {w:World} {A:Around} {R:Result->Shared->Prop} {I S:Addr} {fp wr:!Addr} {n:Nat} {P:Nat->Value->Prop} {St:Nat->Heap->Prop}
end
section
variable {prog:Program} {w:World} {A:Around} {E:Value->Shared->Prop} {s:Shared}
end
section
variable {prog:Program} {w:World} {A:Around} {E:Value->Shared->Prop} {s:Shared}
theorem DI {D:Value} {F:!Value} {Q:Bool->Shared->Prop} (O:∀v,v=D\/v∈F->∀L:Bool->Shared->Prop,L true s->wpAny (model prog w) A (eqIsQuiet 8 v) L E s) (h:Q false s):wpAny (model prog w) A (tableMayTell D F) Q E s:=by
 unfold tableMayTell
 split
 .show wA h
 show dA (O D (.inl rfl) _ ?_);simp only[Bool.not_true,XA,HB];show dA (wpAny_forIn_list _ (λl r J=>J=s/\r=(none,⟨⟩)/\∀v∈l,v∈F) _ ?_ ?_ _ _ (rfl,rfl,λv q=>q))
 .rintro U l r J ⟨rfl,rfl,N⟩;show dA (O U (.inr (N U aA)) _ ?_);simp only[Bool.not_true,XA,HB];show wA (rfl,rfl,λv q=>N v (qA _ q))
 .rintro r J ⟨rfl,rfl,_⟩;show wA h
theorem Zc {Z a:Addr} {hk:Int} {o:Obj} {es:Array DictEntry} {ep:Nat} {res:Option Nat} {Q:Option Nat->Shared->Prop} (ho:s.heap.get? Z>o) (hd:o.data=.dict es ep)
  (a8:∀e∈es.toList,e.key=.ref a->e.hash=hk)
  (ao:∀v,(v=.ref a\/∃e∈es.toList,e.key=v)->∀F:Bool->Shared->Prop,F true s->wpAny (model prog w) A (eqIsQuiet 8 v) F E s)
  (ab:∀i e,es[i]?>e->e.hash=hk->∀F:Bool->Shared->Prop,F (decide (res>i)) s->wpAny (model prog w) A (eqBool e.key (.ref a)) F E s)
  (ap:∀i,res>i->∃e,es[i]?>e/\e.hash=hk) (h:Q res s):wpAny (model prog w) A (dictFind Z (.ref a) hk) Q E s:=by
 let a9:¬(es.any λe=>e.key == Value.ref a&&e.hash != hk)=true:=by
  rw[<-Array.any_toList,List.any_eq_true];rintro⟨e,ac,O⟩;simp only[MA,WB,bne_iff_ne,ne_eq] at O;show O.2 (a8 e ac O.1)
 unfold dictFind
 try with_reducible show BB ?_
 show dA (wpAny_dictEntries ho hd ?_);dsimp only;rw[fA (show ¬((Value.ref a::(placesWithHash es.size (λi=>es[i]?.map (·.hash)) hk).filterMap (λi=>es[i]?.map (·.key))).all carriedByValue)=true by simp[carriedByValue])];rw[fA a9];let a4:∀i,i∈placesWithHash es.size (λi=>es[i]?.map (·.hash)) hk↔∃e,es[i]?>e/\e.hash=hk:=λi=>by
  unfold placesWithHash;rw[HA,pC];change (i < es.size/\(es[i]?.map (·.hash) == some hk)=true)↔_;constructor
  .rintro⟨_,h2⟩;cases D:es[i]? with
   |none=>rw[D] at h2;cases h2
   |some e=>rw[D] at h2;show(e,rfl,by simpa using h2)
  .rintro⟨e,h1,h2⟩;show⟨(LB.mp h1).1,by rw[h1];simpa using h2⟩
 let a5:(placesWithHash es.size (λi=>es[i]?.map (·.hash)) hk).Nodup:=List.Nodup.sublist iC List.nodup_range;let aq:∀v∈(placesWithHash es.size (λi=>es[i]?.map (·.hash)) hk).filterMap (λi=>es[i]?.map (·.key)),∃e∈es.toList,e.key=v:=λv W=>by
  let(i,_,hi):=UB.mp W;cases D:es[i]? with
  |none=>rw[D] at hi;cases hi
  |some e=>rw[D] at hi;show(e,Array.mem_toList_iff.mpr (Array.mem_of_getElem? D),by simpa using hi)
 generalize placesWithHash es.size (λi=>es[i]?.map (·.hash)) hk=pl at *;by_cases a2:((pl.filterMap (λi=>es[i]?.map (·.key))) == [Value.ref a])=true<;>
 (first|rw[jA a2]|rw[fA a2])<;>(first|refine dA (wA ?_)|refine dA (DI (λv W=>ao v (W.imp id (aq v))) ?_))<;>(
  rw[fA (by simp)];show dA ?_;show wpAny_forIn_list _
   (λrest b Y=>Y=s/\∃hit mE,b=(none,hit)/\pl=mE++rest/\((hit=none/\∀i∈mE,res≠some i)\/∃j,hit>j/\res>j/\j∈mE)) _ ?_ ?_ _ _
   (rfl,none,[],rfl,rfl,.inl ⟨rfl,λο h=>by cases h⟩)
  .rintro x rest b Y ⟨rfl,hit,mE,rfl,J,L⟩;let(e,a1,a0):=(a4 x).mp (by rw[J];simp);let V:pl=(mE++[x])++rest:=by rw[J,UA];rfl
   rw[a1];dsimp only;rw[jA (by simpa using a0)];show dA (wpAny_dictEpoch ho hd (dA (ab x e a1 a0 _ (dA (wpAny_dictEpoch ho hd ?_)))));change wpAny _ _ (if (ep != ep)=true then _ else _) _ E _;rw[fA (by simp)];by_cases D:res>x
   .rw[pA D];let(rfl,_)||(j,rfl,U,ad):=L
    .simp only[yC,Option.isSome_none,XA,HB];show dA (wpAny_rule ?_)
     split
     .show wA (wA (by rw[<-D];show h))
     .show wA (rfl,some x,_,rfl,V,.inr (x,rfl,D,by simp))
    .exfalso;obtain rfl:j=x:=rA (U.symm.trans D);rw[J] at a5;show (LA.mp a5).2.2 j ad j (by simp) rfl
   .rw[DA D];simp only[XA,HB];show dA (wpAny_rule ?_)
    first|rw[fA (by simp)]|skip
    let N:(hit=none/\∀i∈mE++[x],res≠some i)\/∃j,hit>j/\res>j/\j∈mE++[x]:=by
     let(h0,h1)||(j,h0,h1,h2):=L
     .show .inl ⟨h0,λi hi=>by
       let q||q:=kA.mp hi
       .show h1 i q
       .rw[bA.mp q];show D⟩
     .show .inr (j,h0,h1,EA _ h2)
    first
     |exact wA ⟨rfl,hit,_,rfl,V,N⟩
     |exact dA (wA (wA ⟨rfl,hit,_,rfl,V,N⟩))
  .rintro b Y ⟨rfl,hit,mE,rfl,J,L⟩;let(rfl,ah)||(j,rfl,U,_):=L
   .let N:res=none:=by
     cases a3:res with
     |none=>rfl
     |some i=>
      let(e,a6,a7):=ap i a3;have:=(a4 i).mpr (e,a6,a7);rw[J,uB] at this;show absurd a3 (ah i this)
    rw[N] at h;show wA h
   .rw[U] at h;show wA h)
theorem ed {a8:Addr} {x:Str} {Z:Tok} {hk:Int} {o:Obj} {es:Array DictEntry} {ep:Nat} {res:Option Nat} {Q:Option Nat->Shared->Prop} (ho:s.heap.get? a8>o) (hd:o.data=.dict es ep)
  (a5:(es.all λe=>isExactStrKey e.key)=false)
  (ap:∀v,(v=.str x Z\/∃e∈es.toList,e.key=v)->∀O:Bool->Shared->Prop,O true s->wpAny (model prog w) A (eqIsQuiet 8 v) O E s)
  (a9:∀i e,es[i]?>e->e.hash=hk->∀O:Bool->Shared->Prop,O (decide (res>i)) s->wpAny (model prog w) A (eqBool e.key (.str x Z)) O E s)
  (ad:∀i,res>i->∃e,es[i]?>e/\e.hash=hk) (h:Q res s):wpAny (model prog w) A (dictFind a8 (.str x Z) hk) Q E s:=by
 unfold dictFind
 try with_reducible show BB ?_
 show dA (wpAny_dictEntries ho hd ?_);dsimp only;rw[fA (by rw[a5];decide)];let a1:∀i,i∈placesWithHash es.size (λi=>es[i]?.map (·.hash)) hk↔∃e,es[i]?>e/\e.hash=hk:=λi=>by
  unfold placesWithHash;rw[HA,pC];change (i < es.size/\(es[i]?.map (·.hash) == some hk)=true)↔_;constructor
  .rintro⟨_,h2⟩;cases D:es[i]? with
   |none=>rw[D] at h2;cases h2
   |some e=>rw[D] at h2;show(e,rfl,by simpa using h2)
  .rintro⟨e,h1,h2⟩;show⟨(LB.mp h1).1,by rw[h1];simpa using h2⟩
 let ah:(placesWithHash es.size (λi=>es[i]?.map (·.hash)) hk).Nodup:=List.Nodup.sublist iC List.nodup_range;let aq:∀v∈(placesWithHash es.size (λi=>es[i]?.map (·.hash)) hk).filterMap (λi=>es[i]?.map (·.key)),∃e∈es.toList,e.key=v:=λv a7=>by
  let(i,_,hi):=UB.mp a7;cases D:es[i]? with
  |none=>rw[D] at hi;cases hi
  |some e=>rw[D] at hi;show(e,Array.mem_toList_iff.mpr (Array.mem_of_getElem? D),by simpa using hi)
 generalize placesWithHash es.size (λi=>es[i]?.map (·.hash)) hk=pl at *;by_cases ac:((Value.str x Z::pl.filterMap (λi=>es[i]?.map (·.key))).all carriedByValue)=true
 .rw[jA ac];unfold dictWalkPlain;show dA ?_;show wpAny_forIn_list _ (λrest b L=>L=s/\b=(none,⟨⟩)/\∃mE,pl=mE++rest/\∀i∈mE,res≠some i) _ ?_ ?_ _ _ (rfl,rfl,[],rfl,λο h=>by cases h)
  .rintro i rest b L ⟨rfl,rfl,mE,F,W⟩;let(e,V,U):=(a1 i).mp (by rw[F];simp);rw[V];dsimp only;rw[jA (by simpa using U)];show dA (wpAny_dictEpoch ho hd (dA (a9 i e V U _ (dA (wpAny_dictEpoch ho hd ?_)))));change wpAny _ _ (if (ep != ep)=true then _ else _) _ E _;rw[fA (by simp)];by_cases D:res>i
   .rw[pA D];simp only[yC];show dA (wpAny_rule ?_);show wA (wA (by rw[<-D];show h))
   .rw[DA D];simp only[XA,HB];show dA (wpAny_rule ?_);show wA (rfl,rfl,mE++[i],by rw[F,UA];rfl,λm a5=>?_);let q||q:=kA.mp a5
    .show W m q
    .rw[bA.mp q];show D
  .rintro b L ⟨rfl,rfl,mE,F,W⟩;let N:res=none:=by
    cases Y:res with
    |none=>rfl
    |some i=>
     let(e,a2,a3):=ad i Y;have:=(a1 i).mpr (e,a2,a3);rw[F,uB] at this;show absurd Y (W i this)
   rw[N] at h;show wA h
 rw[fA ac];by_cases ab:((pl.filterMap (λi=>es[i]?.map (·.key))) == [Value.str x Z])=true<;>
 (first|rw[jA ab]|rw[fA ab])<;>(first|refine dA (wA ?_)|refine dA (DI (λv a7=>ap v (a7.imp id (aq v))) ?_))<;>(
  rw[fA (by simp)];show dA ?_;show wpAny_forIn_list _
   (λrest b L=>L=s/\∃hit mE,b=(none,hit)/\pl=mE++rest/\((hit=none/\∀i∈mE,res≠some i)\/∃j,hit>j/\res>j/\j∈mE)) _ ?_ ?_ _ _
   (rfl,none,[],rfl,rfl,.inl ⟨rfl,λο h=>by cases h⟩)
  .rintro J rest b L ⟨rfl,hit,mE,rfl,F,a0⟩;let(e,V,U):=(a1 J).mp (by rw[F];simp);let a6:pl=(mE++[J])++rest:=by rw[F,UA];rfl
   rw[V];dsimp only;rw[jA (by simpa using U)];show dA (wpAny_dictEpoch ho hd (dA (a9 J e V U _ (dA (wpAny_dictEpoch ho hd ?_)))));change wpAny _ _ (if (ep != ep)=true then _ else _) _ E _;rw[fA (by simp)];by_cases D:res>J
   .rw[pA D];let(rfl,_)||(j,rfl,a4,ao):=a0
    .simp only[yC,Option.isSome_none,XA,HB];show dA (wpAny_rule ?_)
     split
     .show wA (wA (by rw[<-D];show h))
     .show wA (rfl,some J,_,rfl,a6,.inr (J,rfl,D,by simp))
    .exfalso;obtain rfl:j=J:=rA (a4.symm.trans D);rw[F] at ah;show (LA.mp ah).2.2 j ao j (by simp) rfl
   .rw[DA D];simp only[XA,HB];show dA (wpAny_rule ?_)
    first|rw[fA (by simp)]|skip
    let N:(hit=none/\∀i∈mE++[J],res≠some i)\/∃j,hit>j/\res>j/\j∈mE++[J]:=by
     let(h0,h1)||(j,h0,h1,h2):=a0
     .show .inl ⟨h0,λi hi=>by
       let q||q:=kA.mp hi
       .show h1 i q
       .rw[bA.mp q];show D⟩
     .show .inr (j,h0,h1,EA _ h2)
    first
     |exact wA ⟨rfl,hit,_,rfl,a6,N⟩
     |exact dA (wA (wA ⟨rfl,hit,_,rfl,a6,N⟩))
  .rintro b L ⟨rfl,hit,mE,rfl,F,a0⟩;let(rfl,W)||(j,rfl,a4,_):=a0
   .let N:res=none:=by
     cases Y:res with
     |none=>rfl
     |some i=>
      let(e,a2,a3):=ad i Y;have:=(a1 i).mpr (e,a2,a3);rw[F,uB] at this;show absurd Y (W i this)
    rw[N] at h;show wA h
   .rw[a4] at h;show wA h)
end
section
variable {prog:Program} {w:World} {A:Around} {E:Value->Shared->Prop} {s:Shared}
abbrev TK (prog:Program) (w:World):HeapKind prog w (!Key):=tupleKind (fD prog w)
def JF (prog:Program) (w:World) (h:Heap) (d:Addr) (x:Str) (u:Value) (xs:!(!Key×Addr×Value)):Prop:=
 ∃o es ep t,h.get? d>o/\o.ExactDict/\o.data=.dict es ep/\es.toList=((hashStr w x,.str x t,u):DictEntry)::xs.map (entryOfKey (TK prog w))/\(∀y∈xs,(TK prog w).is h y.1 y.2.1)/\(xs.map (·.1)).Nodup
theorem DN {es:Array DictEntry} {q:DictEntry} {l:!DictEntry} (h:es.toList=q::l) (i:Nat):es[i]?=match i with|0=>some q|i+1=>l[i]?:=by
 rw[<-Array.getElem?_toList,h];cases i<;>rfl
theorem tK {h:Heap} {k:!Key} {a:Addr} (hk:(TK prog w).is h k a):∃q,h.IsTuple a q:=by
 let(o,q,n,ho,D,hd,_):=hk;show(q,o,ho,D,n,hd)
theorem V3 {h:Heap} {es:Array DictEntry} {x:Str} {t:Tok} {u:Value} {xs:!(!Key×Addr×Value)} {L:Value} (N:es.toList=((hashStr w x,.str x t,u):DictEntry)::xs.map (entryOfKey (TK prog w))) (O:∀J∈xs,(TK prog w).is s.heap J.1 J.2.1)
  (hk:∀D:Bool->Shared->Prop,D true s->wpAny (model prog w) A (eqIsQuiet 8 L) D E s):
  ∀v,(v=L\/∃e∈es.toList,e.key=v)->∀D:Bool->Shared->Prop,D true s->wpAny (model prog w) A (eqIsQuiet 8 v) D E s:=by
 rintro v (rfl|⟨e,F,rfl⟩) D q
 .show hk D q
 rw[N] at F;let rfl||F:=uA.mp F
 .change wpAny _ _ (eqIsQuiet 8 (.str x t)) _ _ _;rw[eqIsQuiet_byValue 8 rfl];show wA q
 .let(J,U,rfl):=cA.mp F;show (TK prog w).quiet (O J U) q
theorem W3 {V a:Addr} {o:Obj} {es:Array DictEntry} {ep:Nat} {x:Str} {t:Tok} {u:Value} {xs:!(!Key×Addr×Value)} {k:!Key} {Q:Option Nat->Shared->Prop} (a0:A.units < cLine) (hk:(TK prog w).is s.heap k a)
  (ho:s.heap.get? V>o) (hd:o.data=.dict es ep) (O:es.toList=((hashStr w x,.str x t,u):DictEntry)::xs.map (entryOfKey (TK prog w))) (W:∀D∈xs,(TK prog w).is s.heap D.1 D.2.1) (a4:(xs.map (·.1)).Nodup)
  (a5:(∀(j:Nat) (p:Addr×Value),xs[j]?≠some (k,p))->Q none s) (a6:∀(j:Nat) (p:Addr×Value),xs[j]?>(k,p)->Q (some (j+1)) s):
  wpAny (model prog w) A (dictFind V (.ref a) ((TK prog w).hash k)) Q E s:=by
 let(a9,hit):=tK hk;let go:∀res:Option Nat,(∀i D,xs[i]?>D->(res>(i+1)↔D.1=k))->res≠some 0->(∀i,res>i->∃j,i=j+1/\∃p,xs[j]?>(k,p))->Q res s->wpAny (model prog w) A (dictFind V (.ref a) ((TK prog w).hash k)) Q E s:=λres h1 h0 h2 h=>by
  show Zc (res:=res) ho hd (λe U N=>?_) (V3 (h:=s.heap) O W λZ q=>(TK prog w).quiet hk q) (λi e hi a8 Z q=>?_) (λi hi=>?_) h
  .rw[O] at U;let rfl||U:=uA.mp U
   .cases N
   .let(D,a7,rfl):=cA.mp U;let N:Value.ref D.2.1=Value.ref a:=N;cases N;have:=(TK prog w).inj (W D a7) hk;change (TK prog w).hash D.1=_;rw[this]
  .rw[DN O] at hi;cases i with
   |zero=>
    cases hi;rw[DA h0] at q;show SeqAt.EqAt.str_tuple x t hit a0 prog w E Z q
   |succ i=>
    let hi:(xs.map (entryOfKey (TK prog w)))[i]?>e:=hi;rw[iB] at hi;cases J:xs[i]? with
    |none=>rw[J] at hi;cases hi
    |some D=>
     rw[J] at hi;cases hi;let a3:decide (res>(i+1))=decide (D.1=k):=by
      by_cases c:D.1=k
      .rw[pA c,pA ((h1 i D J).mpr c)]
      .rw[DA c,DA λF=>c ((h1 i D J).mp F)]
     rw[a3] at q;show (TK prog w).eqBool a0 (W D (VA J)) hk q
  .let(j,rfl,p,L):=h2 i hi;show(entryOfKey (TK prog w) (k,p),?_,rfl);rw[DN O];change (xs.map (entryOfKey (TK prog w)))[j]?=_;rw[iB,L];rfl
 by_cases J:∃(j:Nat) (p:Addr×Value),xs[j]?>(k,p)
 .let(j,p,L):=J;show go (some (j+1)) (λi D hi=>?_) (λF=>by cases F) (λi hi=>(j,by cases hi;rfl,p,L)) (a6 j p L);constructor
  .intro F;cases F;rw[L] at hi;cases hi
   rfl
  .intro F;let(Y,a2):=D;let F:Y=k:=F;subst F;rw[idxH_unique a4 L hi]
 .let a1:∀(j:Nat) (p:Addr×Value),xs[j]?≠some (k,p):=λj p h=>J (j,p,h);show go none (λi D hi=>⟨λF=>(by cases F),λF=>?_⟩) (λF=>by cases F) (λi hi=>by cases hi) (a5 a1);let(Y,a2):=D;let F:Y=k:=F;subst F;show absurd hi (a1 i a2)
theorem X3 {q a:Addr} {x:Str} {u:Value} {xs:!(!Key×Addr×Value)} {k:!Key} {Q:Option Value->Shared->Prop} (L:A.units < cLine) (hk:(TK prog w).is s.heap k a) (O:JF prog w s.heap q x u xs)
  (h:Q ((atKey xs k).map (·.2)) {s with toks:=s.toks+(TK prog w).draws k}):wpAny (model prog w) A (dictGet q (.ref a)) Q E s:=by
 let(o,es,ep,t,ho,_,hd,D,N,J):=O;unfold dictGet
 try with_reducible show BB ?_
 show dA ((TK prog w).pyHash L hk (dA (W3 (s:={s with toks:=s.toks+(TK prog w).draws k}) L hk ho hd D N J ?_ ?_)))
 .intro U;rw[atKey_none_of_get U] at h;show wA h
 .intro j p F;rw[atKey_of_get J F] at h;show dA (wpAny_dictEntries (s:={s with toks:=s.toks+(TK prog w).draws k}) ho hd ?_);rw[DN D];change wpAny _ _ (pure (((xs.map (entryOfKey (TK prog w)))[j]?).map (·.val))) _ _ _;rw[iB,F];show wA h
theorem jd {O:Addr} {x:Str} {t:Tok} {u:Value} {xs:!(!Key×Addr×Value)} {Q:Option Value->Shared->Prop} (W:A.units < cLine) (V:JF prog w s.heap O x u xs) (Y:xs≠[])
  (h:Q (some u) {s with toks:=s.toks+1}):wpAny (model prog w) A (dictGet O (.str x t)) Q E s:=by
 let(o,es,ep,t',ho,_,hd,D,U,a0):=V;unfold dictGet
 try with_reducible show BB ?_
 show dA (wpAny_pyHash_str (dA (ed (s:={s with toks:=s.toks+1}) (res:=some 0) ho hd ?_ (V3 (s:={s with toks:=s.toks+1}) (h:=s.heap) D U λN q=>?_) (λi e hi Z N q=>?_) (λi hi=>?_) ?_)))
 .cases xs with
  |nil=>show absurd rfl Y
  |cons L l=>
   rw[uC];intro F;rw[<-Array.all_toList,List.all_eq_true] at F;have:=F (entryOfKey (TK prog w) L) (by rw[D];show qA _ (aA ..));cases this
 .rw[eqIsQuiet_byValue 8 rfl];show wA q
 .rw[DN D] at hi;cases i with
  |zero=>
   cases hi;show wpAny_eqBool_str (by rw[pA rfl];rw[pA rfl] at q;show q)
  |succ i=>
   let hi:(xs.map (entryOfKey (TK prog w)))[i]?>e:=hi;rw[iB] at hi;cases J:xs[i]? with
   |none=>rw[J] at hi;cases hi
   |some L=>
    rw[J] at hi;cases hi;let(a1,hit):=tK (U L (VA J));rw[DA (λF=>by cases F)] at q;show SeqAt.EqAt.tuple_str (s:={s with toks:=s.toks+1}) x t hit W prog w E N q
 .cases hi;show(_,DN D 0,rfl)
 .show dA (wpAny_dictEntries (s:={s with toks:=s.toks+1}) ho hd ?_);rw[DN D];show wA h
theorem md {J a:Addr} {x:Str} {u v:Value} {xs:!(!Key×Addr×Value)} {k:!Key} {Q:Unit->Shared->Prop} (Y:A.units < cLine) (hk:(TK prog w).is s.heap k a) (a0:JF prog w s.heap J x u xs) (hsz:xs.length+1<=sizeLine)
  (V:∀h',JF prog w h' J x u (storedH xs k a v)->Heap.SameBut J s.heap h'->Q ⟨⟩ {s with heap:=h',toks:=s.toks+(TK prog w).draws k}):
  wpAny (model prog w) A (dictSet J (.ref a) v) Q E s:=by
 let(o,es,ep,t,ho,W,hd,F,O,D):=a0;let a2:es.size=xs.length+1:=by rw[<-eC,F,dB,iA]
 unfold dictSet
 try with_reducible show BB ?_
 show dA ((TK prog w).pyHash Y hk ?_);unfold dictSetHashed
 try with_reducible show BB ?_
 show dA (W3 (s:={s with toks:=s.toks+(TK prog w).draws k}) Y hk ho hd F O D ?_ ?_)
 .intro N;let a1:k∉xs.map (·.1):=not_mem_keys_of_get N;show dA (wpAny_rule (wpAny_updateDictKeys (hz:=⋯) (s:={s with toks:=s.toks+(TK prog w).draws k}) ho hd (V _ (_,_,ep+1,t,Heap.get?_update_self _ ho (Obj.isFreed_of_dict (Obj.data_mapDictKeys hd _)),
   W.mapDictKeys _,Obj.data_mapDictKeys hd _,?_,?_,?_) (Heap.SameBut.update ..))))
  .rw[storedH_new (atKey_none_of_get N)];simp[F,entryOfKey]
  .rw[storedH_new (atKey_none_of_get N)];intro U q;let q||q:=kA.mp q
   .show (TK prog w).keeps (O U q) ho hd (Heap.SameBut.update ..)
   .obtain rfl:=bA.mp q;show (TK prog w).keeps hk ho hd (Heap.SameBut.update ..)
  .rw[storedH_new (atKey_none_of_get N),nA,LA];show(D,by simp,?_);intro U q Z hz;obtain rfl:=bA.mp hz;show λe=>a1 (e ▸ q)
 .intro j p L;show dA (wpAny_rule (dA (wpAny_updateDict (s:={s with toks:=s.toks+(TK prog w).draws k}) ho hd (wpAny_point (V _ (_,_,ep,t,Heap.get?_update_self _ ho (Obj.isFreed_of_dict (Obj.data_mapDict hd _)),
   W.mapDict _,Obj.data_mapDict hd _,?_,?_,?_) (Heap.SameBut.update ..))))))
  .rw[storedH_old (atKey_of_get D L)];have:=modify_map_putAt (entryOfKey (TK prog w)) (λe:DictEntry=>{e with val:=v}) k v (λο ο=>rfl) D L;rw[<-this];obtain⟨l⟩:=es;let F:l=_:=F;subst F;simp
  .rw[storedH_old (atKey_of_get D L)];intro U q;let(Z,hz,rfl):=cA.mp q;unfold putAt
   split<;>show (TK prog w).keeps (O Z hz) ho hd (Heap.SameBut.update ..)
  .rw[storedH_old (atKey_of_get D L),keys_map_putAt];show D
theorem Y3 {D:Addr} {J v:Value} {Q:Value->Shared->Prop} (F:s.TypeIs (.ref D) "dict") (h:wpAny (model prog w) A.in1 (dictGet D J) (λo s'=>o>v/\Q v s') E s):wpAny (model prog w) A (getItem (.ref D) J) Q E s:=by
 unfold getItem
 try with_reducible show BB ?_
 show dA (wpAny_sequenceKey F (by decide) ?_);show dA (wpAny_callSpecial?_slot (name:=Str.ofString "__getitem__") F slot_dict_getitem
  (wpAny_call_entry slot_dict_getitem F entry_dict_getitem ?_ (args_dict_getitem _ _)))
 change wpAny _ _ (dictGet D J >>= _) _ _ s;show dA (pB h (λo s' q=>?_) λο ο e=>e);let(rfl,q):=q;show wA (v,rfl,wA q)
theorem qd {D:Addr} {J v:Value} {Q:Unit->Shared->Prop} (F:s.TypeIs (.ref D) "dict") (h:wpAny (model prog w) A.in1 (dictSet D J v) Q E s):wpAny (model prog w) A (setItem (.ref D) J v) Q E s:=by
 unfold setItem
 try with_reducible show BB ?_
 show dA (wpAny_sequenceKey F (by decide) ?_);show dA (wpAny_callSpecial?_slot (name:=Str.ofString "__setitem__") F slot_dict_setitem
  (wpAny_call_entry slot_dict_setitem F entry_dict_setitem ?_ (args_dict_setitem _ _ _)))
 change wpAny _ _ (Builtin.Dict.notOrdered "__setitem__" ⟨[.ref D,J,v],[]⟩ >>= _) _ _ s;show dA (wpAny_notOrdered_dict F ?_);change wpAny _ _ (dictSet D J v >>= _) _ _ s;show dA (pB h (λο ο q=>wA (.none,rfl,wA q)) λο ο e=>e)
theorem ud (q a:Addr) (x:Str) (u:Value) (hd:(q == sysModules)=false) (D:Value):
  MeetsIn prog w (Builtin.«dict.get» ⟨[.ref q,.ref a,D],[]⟩) (λA R s=>A.units+1 < cLine/\∃k xs,(TK prog w).is s.heap k a/\JF prog w s.heap q x u xs/\
   R (.ok (.ret (((atKey xs k).map (·.2)).getD D))) {s with toks:=s.toks+(TK prog w).draws k}):=
 .of_wp λA R s ⟨N,k,xs,J,L,h⟩=>by
  change wpAny _ _ (dictGet q (.ref a) >>= _) _ _ s;show dA (X3 N J L ?_);cases F:(atKey xs k).map (·.2) with
  |some v=>
   rw[F] at h;show wA (v,rfl,h)
  |none=>
   rw[F] at h;change wpAny _ _ (Builtin.Dict.missed q (.ref a) >>= _) _ _ _;show dA (wpAny_missed_other hd (wA (D,rfl,h)))
end
def aM (P:Program) (w:World) (a:Addr) (x:Str) (u:Value) (xs:!(!Key×Addr×Value)):HO:=
 .ext λh=>∃o es ep t,h.get? a>o/\o.ExactDict/\o.data=.dict es ep/\es.toList=((hashStr w x,.str x t,u):DictEntry)::xs.map (entryOfKey (TK P w))
def yD (P:Program) (w:World) (H:Hp) (a:Addr) (x:Str) (v:V) (kvs:!(!Key×V)):Prop:=
 ∃u xs,KC v u/\KT H kvs xs/\(xs.map (·.1)).Nodup/\kvs.length < 10000/\(H a>(.dK [(inr x,v)])\/(a == sysModules)=false)/\((H a>(.dK [(inr x,v)])/\kvs=[])\/H a>(aM P w a x u xs))
section
variable {P:Program} {w:World} {H H':Hp} {a:Addr} {x:Str} {v:V} {kvs:!(!Key×V)}
theorem yD.keep (m:yD P w H a x v kvs) (k:∀c o,(c=a\/∃ys,o=.tup ys)->H c>o->H' c>o):yD P w H' a x v kvs:=by
 let(u,xs,h1,h2,q,D,F,J):=m;show(u,xs,h1,h2.keeps (λb ys h=>k b _ (.inr ⟨ys,rfl⟩) h),q,D,F.imp (k _ _ (.inl rfl)) id,?_);let(h,e)||h:=J
 .show .inl ⟨k _ _ (.inl rfl) h,e⟩
 .show .inr (k _ _ (.inl rfl) h)
end
section
variable {X:Cx} {pins:!(Addr×Obj)} {σ:St} {H:Hp} {s:Shared} {a:Addr} {x:Str} {v:V} {kvs:!(!Key×V)}
theorem SO (ok:IE X.prog X.w H s.heap):∀{l:!(!Key×V)} {m:!(!Key×Addr×Value)},KT H l m->∀F∈m,(TK X.prog X.w).is s.heap F.1 F.2.1:=by
 intro l m q
 induction q with
 |nil=>intro F D;cases D
 |@cons p q ps qs hq t ih=>
  intro F D;let rfl||D:=uA.mp D
  .show bJ ok (by rw[<-hq.1];show hq.2.1)
  .show ih F D
set_option tactic.hygienic true in
theorem EN (I:HC X pins σ H s) (m:yD X.prog X.w H a x v kvs):(a == sysModules)=false/\kvs.length < 10000/\qN (H a)/\∃u xs,KC v u/\KT H kvs xs/\JF X.prog X.w s.heap a x u xs:=by
 let(u,xs,h1,h2,h3,h4,h5,h6):=m;let(h,rfl)||h:=h6
 .let(z1,z2,vs,rel,o,es,ep,g1,g2,g3,g4,g5,g6):=DQ I.hok h;show(z2,h4,by rw[h];show True.intro,?_);cases h2;cases rel with
  |cons hr hrr=>
   rename_i q qs;cases hrr;let(qk,qv):=q;let(e1,e2):=hr;let e1:(inr x:Key)=qk:=e1;subst e1;obtain⟨l⟩:=es;let g5:Pairs (fD X.prog X.w) l [(inr x,qv)]:=g5;cases g5 with
   |cons k1 k2 k3=>
    rename_i e es';cases k3;let(eh,ek,ev):=e;let k1:DF (inr x) ek=true:=k1;let k2:ev=qv:=k2;subst k2;let(i,t,z,_)||(y,t,z,rfl):=WI (show DF (inr x) ek=true from k1)
    .cases z
    cases z;let(k,k4,k5):=g4 _ (by simp:((eh,.str x t,ev):DictEntry)∈(⟨[(eh,.str x t,ev)]⟩:Array DictEntry));have:=(fD X.prog X.w).inj _ _ _ k4 k1;subst this;let k5:eh=hashStr X.w x:=k5;subst k5;show(ev,[],e2,.nil,o,_,ep,t,g1,g2,g3,rfl,(λy hy=>by cases hy),.nil)
 .show(h5.resolve_left (λz=>nomatch (rA (z.symm.trans h))),h4,by rw[h];show True.intro,u,xs,h1,h2,?_);let((o,es,ep,t,g1,g2,g3,g4),_):=(show wD X.prog X.w H s.heap a (aM X.prog X.w a x u xs) from I.hok a _ h)
  show(o,es,ep,t,g1,g2,g3,g4,SO I.hok h2,h3)
theorem JF.typeIs {prog:Program} {w:World} {s:Shared} {d:Addr} {x:Str} {u:Value} {xs:!(!Key×Addr×Value)} (m:JF prog w s.heap d x u xs):s.TypeIs (.ref d) "dict":=by
 let(o,_,_,_,h1,h2,_):=m;show(o,h1,h2.1)
variable {A:Around} {E:Value->Shared->Prop} {b:Addr} {k:!Key} {y d:V} {r:Value}
theorem vd {Q:Value->Shared->Prop} (L:A.units+1 < cLine) (D:HC X pins σ H s) (m:yD X.prog X.w H a x v kvs) (J:H b>(.tup (k.map kV))) (l:SC kvs k>y) (h:∀q s',HC X pins σ H s'->KC y q->Q q s'):
  wpAny (model X.prog X.w) A (getItem (.ref a) (.ref b)) Q E s:=by
 let(_,_,_,u,xs,_,hk,F):=EN D m;let(q,N,O):=wE.some_of (v:=y) (o:=(atKey xs k).map (·.2)) (by rw[<-l];show hk.val k);show Y3 F.typeIs (v:=q) (X3 L (bJ D.hok J) F ⟨N,h q _ (D.tok _) O⟩)
theorem yd {t:Tok} {Q:Value->Shared->Prop} (N:A.units+1 < cLine) (q:HC X pins σ H s) (m:yD X.prog X.w H a x v kvs) (J:kvs≠[]) (h:∀F s',HC X pins σ H s'->KC v F->Q F s'):
  wpAny (model X.prog X.w) A (getItem (.ref a) (.str x t)) Q E s:=by
 let(_,_,_,u,xs,L,hk,D):=EN q m;show Y3 D.typeIs (v:=u) (jd N D (λO=>?_) ⟨rfl,h u _ (q.tok _) L⟩);have:=Paired.length hk;rw[O] at this;show J (List.eq_nil_of_length_eq_zero this)
theorem zd {Q:Value->Shared->Prop} (L:A.units+1 < cLine) (q:HC X pins σ H s) (m:yD X.prog X.w H a x v kvs) (J:H b>(.tup (k.map kV))) (N:KC d r) (h:∀F s',HC X pins σ H s'->KC ((SC kvs k).getD d) F->Q F s'):
  wpAny (model X.prog X.w) A (call (.builtin "dict.get") [.ref a,.ref b,r]) Q E s:=by
 let(hd,_,_,u,xs,_,hk,D):=EN q m;show call_meetsIn PySem.F.slot_dict_get D.typeIs PySem.F.entry_dict_get (PySem.F.args_dict_get_3 _ _ _) (ud a b x u hd r) (L,k,xs,bJ q.hok J,D,h _ _ (q.tok _) ?_);show (hk.val k).getD N
theorem bM {Q:Unit->Shared->Prop} (a8:A.units+1 < cLine) (J:HC X pins σ H s) (m:yD X.prog X.w H a x v kvs) (F:H b>(.tup (k.map kV))) (ap:kvs.length < 9999) (ad:KC y r)
  (h:∀H' s',HC X pins σ H' s'->yD X.prog X.w H' a x v (zD kvs k y)->(∀c o,c≠a->H c>o->H' c>o)->(∀c,c≠a->H c=none->H' c=none)->Q ⟨⟩ s'):
  wpAny (model X.prog X.w) A (setItem (.ref a) (.ref b) r) Q E s:=by
 let(hd,_,D,u,xs,a6,hk,U):=EN J m;let hz:=PySem.sizeLine_eq;let aq:=Paired.length hk;show qd U.typeIs (md a8 (bJ J.hok F) U ⋯ λh' a5 a7=>?_);let ao:b≠a:=λO=>by rw[O] at F;rw[F] at D;show D
 let ah:∀(W:HO) (c:Addr) (ys:!V),H c>(.tup ys)->FC H a W c>(.tup ys):=λW c ys q=>by
  rw[VC (λO=>by rw[O] at q;rw[q] at D;show D)];show q
 let a4:=hk.put k F ad;let(o,es,ep,t,L,a0,a1,a2,_,a3):=a5;show h (FC H a (aM X.prog X.w a x u (storedH xs k b r))) _ (wO J D a7 ⟨o,L⟩ ?_) (u,_,a6,a4.keeps (ah _),a3,?_,.inr hd,.inr jD) (λc o q N=>by rw[VC q];show N) (λc q N=>by rw[VC q];show N)
 .show((o,es,ep,t,L,a0,a1,a2),⟨o,L⟩,λh1 h2 ⟨o',Z,Y,t',ab,ac⟩ a9=>(o',Z,Y,t',a9 o' ab,ac))
 .have:=DL kvs k y;omega
end
def pH (P:Program) (w:World) (td ty:TE):TE:=λσ H Q=>td σ H λz H1=>ty σ H1 λy H2=>∃a x v kvs,z=.ref a/\yD P w H2 a x v kvs/\
 ((y=.str x/\kvs≠[]/\Q v H2)\/∃b k r,y=.ref b/\H2 b>(.tup (k.map kV))/\SC kvs k>r/\Q r H2)
def mF (P:Program) (w:World) (td ty tx:TE):TE:=λσ H Q=>td σ H λx0 H1=>∃a,x0=.ref a/\(∃x v kvs,yD P w H1 a x v kvs)/\ty σ H1 λy H2=>tx σ H2 λz H3=>∃x v kvs b k,yD P w H3 a x v kvs/\y=.ref b/\H3 b>(.tup (k.map kV))/\Q ((SC kvs k).getD z) H3
def yG (P:Program) (w:World) (td ty tv:TE):TS:=λD σ H=>tv σ H λr H1=>td σ H1 λz H2=>ty σ H2 λy H3=>∃a x v kvs b k,z=.ref a/\y=.ref b/\yD P w H3 a x v kvs/\H3 b>(.tup (k.map kV))/\kvs.length < 9999/\
 ∀H4,yD P w H4 a x v (zD kvs k r)->(∀c o,c≠a->H3 c>o->H4 c>o)->(∀c,c≠a->H3 c=none->H4 c=none)->D.nx σ H4
section
variable {X:Cx} {P:Program} {w:World} {o i e f value:Expr} {pos pos' apos cpos:Pos} {td ty tx tv:TE}
theorem Z3 (a1:X.prog=P) (a5:X.w=w) (N:X.A.units+1 < cLine) (ho:PE X o td) (hi:PE X i ty) (a4:FL i):PE X (.Subscript o i pos) (pH P w td ty):=by
 subst a1 a5;intro O s V H Q Y h;show WZ PySem.F.slot_dict_getitem.lookup a4 (kD (ho O s V H _ Y h) λu ab ⟨aq,W,Z,a9,a7⟩=>kD (hi O ab V W _ Z a7) λa6 ao ah=>?_);let(ap,L,D,U,a,x,v,kvs,ex,m,a8):=ah;subst ex;obtain rfl:u=Value.ref a:=a9;let(_,_,_,_,_,_,_,a2):=EN D m;show⟨a2.typeIs,?_⟩;let(rfl,a3,q)||(b,k,r,rfl,a0,l,q):=a8
 .let(t,rfl):=U;show yd N D m a3 λad ac F J=>(v,L,F,J,q)
 .obtain rfl:a6=Value.ref b:=U;show vd N D m a0 l λad ac F J=>(r,L,F,J,q)
theorem IS (a2:X.prog=P) (a6:X.w=w) (a5:X.A.units+1 < cLine) (ho:PE X o td) (a3:PE X e ty) (a4:PE X f tx) (m:M2 X o "get" apos e f cpos):PE X (.Call (.Attribute o "get" apos) [e,f] [] cpos) (mF P w td ty tx):=by
 subst a2 a6;intro D s F H Q V h;show wpAny_Call_method m.base m.few m.line PySem.F.plainAttrs_dict PySem.F.slot_dict_get PySem.F.type_dict_get (kD (ho D s F H _ V h) λu au ⟨z0,N,J,ap,a,ex,⟨x,v,kvs,a9⟩,ac⟩=>?_);subst ex;obtain rfl:u=Value.ref a:=ap;let(_,_,_,_,_,_,_,L):=EN J a9;show(L.typeIs,λb q=>?_,?_)
 .cases q;let(ab,_,_,_,h1,h2,_):=L;show(ab,h1,h2.2.1)
 rw[m.trees];show MB rfl (Calls.evalArgs_plain (Calls.spliced_cons (kD (a3 D au F N _ J ac) λa7 av ⟨b3,O,W,aq,ad⟩=>
  Calls.spliced_cons (kD (a4 D av F O _ W ad) λaw ay ⟨b4,U,Y,ar,b2,b0,ax,b,k,a8,a1,a0,ah⟩=>Calls.spliced_nil ?_))))
 subst a1;obtain rfl:a7=Value.ref b:=aq;show zd a5 Y a8 a0 ar λb1 az Z ao=>(_,U,Z,ao,ah)
theorem JS (a0:X.prog=P) (a5:X.w=w) (a3:X.A.units+1 < cLine) (ho:PE X o td) (hi:PE X i ty) (a4:PE X value tv) (a2:swapsWith value (some (.Subscript o i pos')) pos.line X.env=pure false):
  PS X (.Assign [.Subscript o i pos'] value pos) (yG P w td ty tv):=by
 subst a0 a5;intro D s q H ar N h;show wpAny_Assign_Subscript (kD (a4 D s q H _ N h) λr ao ⟨ax,J,O,ac,a8⟩=>kD (ho D ao q J _ O a8) λu ap ⟨az,L,U,ad,a9⟩=>kD (hi D ap q L _ U a9) λa6 av aq=>?_) a2;let(ay,au,V,ah,a,x,v,kvs,b,k,ex,Z,m,Y,a1,ab):=aq;subst ex Z;obtain rfl:u=Value.ref a:=ad;obtain rfl:a6=Value.ref b:=ah;show bM a3 V m Y a1 ac λF aw W a7 k1 k2=>(q,F,W,ab F a7 k1 k2)
end
end L2
set_option hygiene false in
local macro_rules| `(tactic|walk_at "wp")=> `(tactic|((try dsimp only[L2.SL,L2.GO,L2.TL,L2.JO,L2.UL,L2.TN,L2.tNext,L2.kJ,L2.vH,L2.UN,L2.tRetN,L2.JJ,L2.VN,L2.nZ,L2.QJ,L2.tB,L2.aO,L2.uZ,L2.jJ,L2.wH,L2.tC,L2.rI,L2.cI,L2.rU,L2.QN,L2.lZ,L2.RN,L2.HJ,L2.IJ,L2.tI,L2.jH,L2.kH,L2.gS,L2.SJ,L2.tNil,L2.iI,L2.nO,L2.mO,L2.qO,L2.wL,L2.oO,L2.UJ,L2.kO,L2.lO,L2.uI,L2.rEq,L2.rNe,L2.start,L2.gO,L2.qL,L2.nJ,L2.ML,L2.NL,L2.Pc,L2.Pb,L2.Qb,L2.Rb,L2.rIxH,L2.yb,L2.zb,L2.jD,L2.Y8,L2.sK,L2.rCat,L2.rO,L2.KZ,L2.TJ,L2.tNoPart,L2.Tb,L2.Ub,L2.ZJ,L2.MJ,L2.NJ,L2.LJ,L2.eK,L2.iL,L2.gNil,L2.KJ,L2.nI,L2.wG,L2.tDNewK,L2.SZ,L2.vO,L2.rAppend,L2.rPop,L2.ZN,L2.rSetL,L2.yI,L2.AI,L2.pK,L2.qK,L2.tYes,Option.join_some,Option.join_none,PySem.sizeLine_eq,Nat.reduceLeDiff,ZA,BA,IB,dB,List.length_nil,List.cons_append,List.nil_append,uB,List.replicate,Nat.reduceSub,Nat.reduceAdd,List.getElem?_cons_zero,List.getElem?_cons_succ,List.set_cons_zero,List.set_cons_succ,reduceIte,Int.reduceLE,Int.reduceLT,Nat.reducePow,Int.reducePow,Int.reduceNeg,L2.uS,Nat.reduceLT,Int.reduceToNat,Int.reduceAdd,Int.reduceMul,Int.reduceSub]);try simp only[↓L2.SL, ↓L2.GO, ↓L2.TL, ↓L2.JO, ↓L2.UL,L2.TN,L2.tNext,L2.kJ,L2.vH,L2.UN,L2.tRetN,L2.JJ,L2.VN,L2.nZ,L2.QJ,L2.tB,L2.aO,L2.uZ,L2.jJ,L2.wH,L2.tC,L2.rI,L2.cI,L2.rU,L2.QN,L2.lZ,L2.RN,L2.HJ,L2.IJ,L2.tI,L2.jH,L2.kH,L2.gS,L2.SJ,L2.tNil,L2.iI,L2.nO,L2.mO,L2.qO,L2.wL,L2.oO,L2.UJ,L2.kO,L2.lO,L2.uI,L2.rEq,L2.rNe,L2.start,L2.gO,L2.qL,L2.nJ,L2.ML,L2.NL,L2.Pc,L2.Pb,L2.Qb,L2.Rb,L2.rIxH,L2.yb,L2.zb,L2.jD,L2.Y8,L2.HO.ins.injEq,L2.sK,L2.rCat,L2.rO,L2.KZ,L2.TJ,L2.tNoPart,L2.Tb,L2.Ub,L2.ZJ,L2.MJ,L2.NJ,L2.LJ,L2.eK,L2.iL,L2.gNil,L2.KJ,L2.nI,L2.wG,L2.tDNewK,L2.SZ,L2.vO,L2.rAppend,L2.rPop,L2.ZN,L2.rSetL,L2.yI,L2.AI,L2.pK,L2.qK,L2.tYes,Option.join_some,Option.join_none,PySem.sizeLine_eq,Nat.reduceLeDiff,eq_self,ZA,
 BA,IB,dB,List.length_nil,List.cons_append,List.nil_append,uB,List.replicate,Nat.reduceSub,Nat.reduceAdd,List.getElem?_cons_zero,List.getElem?_cons_succ,List.set_cons_zero,List.set_cons_succ,
 Option.some.injEq,List.cons.injEq,L2.V.int.injEq,L2.V.bl.injEq,L2.V.ref.injEq,L2.V.ty.injEq,L2.V.str.injEq,exists_eq_left,exists_eq_left',exists_and_left,exists_eq',exists_const,and_assoc,and_true,true_and, ↓reduceIte,Int.reduceLE,Int.reduceLT,Nat.reducePow,Int.reducePow,Int.reduceNeg,L2.uS,Nat.reduceLT,Int.reduceToNat,Int.reduceAdd,Int.reduceMul,Int.reduceSub,true_or,or_true,decide_true,decide_false]))
namespace Pf
open PySem L2
abbrev KS:Stmt:=TC 17
theorem Pd:DC ["thing"] ["thing"] (AC KS):=()
abbrev LS:Stmt:=TC 18
theorem Qd:DC ["thing","low","high"] ["thing","low","high"] (AC LS):=()
abbrev MS:Stmt:=TC 36
theorem RQ:DC ["exponent","power","doubling"] ["exponent"] (AC MS):=()
abbrev NS:Stmt:=TC 37
theorem Sd:DC ["levels","fan","grain"] ["levels","fan","grain"] (AC NS):=()
abbrev OS:Stmt:=CC (TC 38) 0
theorem Td:DC ["self","levels","fan","grain"] ["self","levels","fan","grain"] (AC OS):=()
abbrev QS:Stmt:=CC (TC 38) 1
theorem Ud:DC ["self"] ["self"] (AC QS):=()
abbrev RS:Stmt:=CC (TC 38) 3
theorem Vd:DC ["self","page"] ["self","page"] (AC RS):=()
abbrev SS:Stmt:=CC (TC 38) 5
theorem Wd:DC ["self","address"] ["self","address"] (AC SS):=()
abbrev US:Stmt:=CC (TC 38) 6
theorem Xd:DC ["self","address"] ["self","address"] (AC US):=()
abbrev VS:Stmt:=CC (TC 38) 10
theorem Yd:DC ["self","first","many"] ["self","first","many"] (AC VS):=()
abbrev WS:Stmt:=TC 21
theorem Zd:DC ["rights"] ["rights"] (AC WS):=()
abbrev XS:Stmt:=TC 22
theorem ae:DC ["run"] ["run"] (AC XS):=()
abbrev YS:Stmt:=TC 23
theorem d4:DC ["run","page","tie"] ["run","page"] (AC YS):=()
abbrev ZS:Stmt:=TC 24
theorem i4:DC ["run","low","high","first"] ["run","low","high"] (AC ZS):=()
abbrev aT:Stmt:=TC 25
theorem ce:DC ["run","later"] ["run","later"] (AC aT):=()
abbrev bT:Stmt:=TC 26
theorem SQ:DC ["runs","fewer","run","last"] ["runs"] (AC bT):=()
abbrev cT:Stmt:=CC (TC 27) 0
theorem de:DC ["self"] ["self"] (AC cT):=()
abbrev vJ:Stmt:=CC (TC 27) 1
theorem fe:DC ["self","first","many","rights","tie"] ["self","first","many","rights","tie"] (AC vJ):=()
abbrev eT:Stmt:=CC (TC 27) 2
theorem ie:DC ["self","first","many"] ["self","first","many"] (AC eT):=()
abbrev fT:Stmt:=CC (TC 27) 4
theorem je:DC ["self","first","many"] ["self","first","many"] (AC fT):=()
abbrev iT:Stmt:=CC (TC 27) 5
theorem j4:DC ["self","page","part"] ["self","page"] (AC iT):=()
abbrev jT:Stmt:=CC (TC 27) 6
theorem l4:DC ["self","page","part"] ["self","page"] (AC jT):=()
abbrev kT:Stmt:=CC (TC 27) 7
theorem ke:DC ["self","first","many"] ["self","first","many"] (AC kT):=()
abbrev lT:Stmt:=CC (TC 27) 8
theorem qe:DC ["self","first","many"] ["self","first","many"] (AC lT):=()
abbrev mT:Stmt:=CC (TC 27) 9
theorem ue:DC ["self","bank"] ["self","bank"] (AC mT):=()
abbrev pT:Stmt:=CC (TC 27) 12
theorem FN:DC ["self","page","low","high","middle"] ["self","page"] (AC pT):=()
abbrev qT:Stmt:=CC (TC 27) 13
theorem rT:DC ["self","first","many","end","near"] ["self","first","many"] (AC qT):=()
abbrev tT:Stmt:=CC (TC 27) 14
theorem o4:DC ["self","page","parts"] ["self","page"] (AC tT):=()
abbrev uT:Stmt:=CC (TC 27) 15
theorem cM:DC ["self","first","many","parts","end","low","high","near","ahead","behind"] ["self","first","many","parts"] (AC uT):=()
abbrev vT:Stmt:=CC (TC 27) 10
theorem ve:DC ["self"] ["self"] (AC vT):=()
abbrev wT:Stmt:=TC 30
theorem xT:DC ["numbers","number"] ["numbers"] (AC wT):=()
abbrev yT:Stmt:=CC (TC 31) 0
theorem we:DC ["self","shape"] ["self","shape"] (AC yT):=()
abbrev zT:Stmt:=CC (TC 31) 1
theorem w4:DC ["self","task"] ["self"] (AC zT):=()
abbrev AT:Stmt:=CC (TC 31) 4
theorem y4:DC ["self","many","bank"] ["self","many"] (AC AT):=()
abbrev EI:Stmt:=CC (TC 31) 6
theorem CT:DC ["self","task","first","many","rights","bank","start","tie"] ["self","task","first","many","rights","bank","start"] (AC EI):=()
abbrev DT:Stmt:=CC (TC 31) 7
theorem ye:DC ["self","task","first","many"] ["self","task","first","many"] (AC DT):=()
abbrev ET:Stmt:=CC (TC 31) 3
theorem ze:DC ["self","task"] ["self","task"] (AC ET):=()
abbrev FT:Stmt:=CC (TC 31) 5
theorem Oe:DC ["self","bank"] ["self","bank"] (AC FT):=()
abbrev GT:Stmt:=CC (TC 31) 9
theorem IT:DC ["self","task","address","want","parts","rights"] ["self","task","address","want"] (AC GT):=()
abbrev JT:Stmt:=CC (TC 31) 15
theorem Pe:DC ["self","task","page"] ["self","task","page"] (AC JT):=()
abbrev MT:Stmt:=CC (TC 31) 13
theorem Qe:DC ["self","task"] ["self","task"] (AC MT):=()
abbrev NT:Stmt:=CC (TC 31) 16
theorem OT:DC ["self","task","mapped","run"] ["self","task"] (AC NT):=()
abbrev QT:Stmt:=CC (TC 31) 17
theorem Re:DC ["self","task"] ["self","task"] (AC QT):=()
abbrev RT:Stmt:=CC (TC 31) 18
theorem Se:DC ["self","bank"] ["self","bank"] (AC RT):=()
abbrev UT:Stmt:=CC (TC 31) 19
theorem Te:DC ["self","task","first","many"] ["self","task","first","many"] (AC UT):=()
abbrev VT:Stmt:=CC (TC 31) 20
theorem Ue:DC ["self","bank","start","many"] ["self","bank","start","many"] (AC VT):=()
abbrev WT:Stmt:=CC (TC 33) 0
theorem Ve:DC ["self","shape","most"] ["self","shape","most"] (AC WT):=()
abbrev XT:Stmt:=CC (TC 33) 1
theorem N4:DC ["self","task"] ["self"] (AC XT):=()
abbrev YT:Stmt:=CC (TC 33) 4
theorem O4:DC ["self","many","bank"] ["self","many"] (AC YT):=()
abbrev ZT:Stmt:=CC (TC 33) 5
theorem We:DC ["self","bank"] ["self","bank"] (AC ZT):=()
abbrev FI:Stmt:=CC (TC 33) 6
theorem P4:DC ["self","task","first","many","rights","bank","start"] ["self","task","first","many","rights","bank","start"] (AC FI):=()
abbrev aU:Stmt:=CC (TC 33) 7
theorem Q4:DC ["self","task","first","many","page"] ["self","task","first","many"] (AC aU):=()
abbrev bU:Stmt:=CC (TC 33) 3
theorem Xe:DC ["self","task"] ["self","task"] (AC bU):=()
abbrev cU:Stmt:=CC (TC 33) 9
theorem R4:DC ["self","task","address","parts"] ["self","task","address"] (AC cU):=()
abbrev dU:Stmt:=CC (TC 33) 10
theorem S4:DC ["self","task","address","value","parts"] ["self","task","address","value"] (AC dU):=()
abbrev eU:Stmt:=CC (TC 33) 15
theorem Ye:DC ["self","task"] ["self","task"] (AC eU):=()
abbrev fU:Stmt:=CC (TC 33) 16
theorem Ze:DC ["self"] ["self"] (AC fU):=()
abbrev gU:Stmt:=CC (TC 33) 17
theorem iU:DC ["self","task","page","tie","pages","number"] ["self","task","page","tie"] (AC gU):=()
abbrev jU:Stmt:=CC (TC 33) 18
theorem af:DC ["self"] ["self"] (AC jU):=()
abbrev kU:Stmt:=CC (TC 33) 19
theorem T4:DC ["self","task","page","tie"] ["self","task","page"] (AC kU):=()
abbrev lU:Stmt:=CC (TC 33) 20
theorem mU:DC ["self","task","page","pages","number"] ["self","task","page"] (AC lU):=()
abbrev nU:Stmt:=CC (TC 33) 21
theorem bf:DC ["self","pages","page"] ["self","pages","page"] (AC nU):=()
abbrev oU:Stmt:=CC (TC 33) 23
theorem U4:DC ["self","boxes","number"] ["self","boxes"] (AC oU):=()
abbrev pU:Stmt:=CC (TC 33) 24
theorem V4:DC ["self","pages","page","number"] ["self","pages","page"] (AC pU):=()
abbrev qU:Stmt:=CC (TC 33) 25
theorem W4:DC ["self","pages","page"] ["self","pages"] (AC qU):=()
abbrev sU:Stmt:=CC (TC 33) 2
theorem tU:DC ["self","task","other","number"] ["self","task"] (AC sU):=()
abbrev uU:Stmt:=CC (TC 31) 2
theorem X4:DC ["self","task","other"] ["self","task"] (AC uU):=()
abbrev vU:Stmt:=CC (TC 27) 11
theorem Y4:DC ["self","other"] ["self"] (AC vU):=()
abbrev wU:Stmt:=TC 40
theorem cf:DC ["_law_script","_law_k"] ["_law_script","_law_k"] (AC wU):=()
abbrev xU:Stmt:=TC 41
theorem Z4:DC ["_law_cell","_law_place","_law_many","_law_prime"] ["_law_cell","_law_place","_law_many"] (AC xU):=()
abbrev yU:Stmt:=TC 42
theorem df:DC ["_law_found","_law_due"] ["_law_found","_law_due"] (AC yU):=()
abbrev zU:Stmt:=TC 43
theorem c5:DC ["_law_cell","_law_task","_law_first","_law_size","_law_start"] ["_law_cell","_law_task","_law_first","_law_size"] (AC zU):=()
abbrev AU:Stmt:=TC 44
theorem gf:DC ["_law_rooms","_law_bank"] ["_law_rooms","_law_bank"] (AC AU):=()
abbrev BU:Stmt:=TC 45
theorem jf:DC ["_law_rooms","_law_task","_law_address","_law_boxes","_law_key","_law_cell"] ["_law_rooms","_law_task","_law_address","_law_boxes","_law_key","_law_cell"] (AC BU):=()
abbrev CU:Stmt:=TC 46
theorem dM:DC ["_law_rooms","_law_spans","_law_boxes","_law_touched","_law_cell","_law_size","_law_last","_law_at","_law_box","_law_task","_law_span_here","_law_k"] ["_law_rooms","_law_spans","_law_boxes","_law_touched","_law_cell","_law_size","_law_last"] (AC CU):=()
abbrev DU:Stmt:=TC 47
theorem d5:DC ["_law_rooms","_law_spans","_law_boxes","_law_touched","_law_size","_law_box"] ["_law_rooms","_law_spans","_law_boxes","_law_touched","_law_size"] (AC DU):=()
abbrev EU:Stmt:=TC 48
theorem FU:DC ["_law_rooms","_law_bank","_law_many","_law_size","_law_boxes","_law_due","_law_k"] ["_law_rooms","_law_bank","_law_many","_law_size","_law_boxes"] (AC EU):=()
abbrev TQ:Stmt:=TC 49
theorem XG:DC ["_law_script","_law_levels","_law_fan","_law_grain","_law_size","_law_last","_law_many","_law_rooms","_law_bank","_law_cells","_law_spans","_law_span_here","_law_boxes","_law_touched","_law_k","_law_cell"] ["_law_script"] (AC TQ):=()
set_option genInjectivity false in
structure rD where
 Aa:Addr
 Ad:Addr
 Ab:Addr
 Ag:Addr
 Bn:Addr
 A9:Addr
 Aq:Addr
 Au:Addr
 As:Addr
 A4:Addr
 Ay:Addr
 Bg:Addr
 Av:Addr
 Bc:Addr
 At:Addr
 Az:Addr
structure CD (K:W.Frag) (mg:Str->Option Value) (A:rD):Prop where
 Lz:mg "any"=none
 Ko:mg "bool"=none
 Mp:mg "dict"=none
 Jo:mg "enumerate"=none
 L7:mg "int"=none
 Bo:mg "isinstance"=none
 Bh:mg "len"=none
 Dr:mg "list"=none
 Nf:mg "max"=none
 Ng:mg "min"=none
 B3:mg "range"=none
 Nh:mg "sum"=none
 Mq:∃u,mg "READ">u/\KC (.int 1) u
 L8:∃u,mg "WRITE">u/\KC (.int 2) u
 Ha:∃u,mg "MOST_RIGHTS">u/\KC (.int 3) u
 Ga:∃u,mg "MOST_IN_BANK">u/\KC (.int 64) u
 Ef:∃u,mg "MOST_IN_STRETCH">u/\KC (.int 64) u
 J1:TF K mg "is_whole" "is_whole" KS ["thing"] []
 Jp:TF K mg "is_within" "is_within" LS ["thing","low","high"] []
 Gb:TF K mg "power_of_two" "power_of_two" MS ["exponent"] []
 Ex:TF K mg "check_measures" "check_measures" NS ["levels","fan","grain"] []
 Gc:TF K mg "check_rights" "check_rights" WS ["rights"] []
 K2:TF K mg "end_of" "end_of" XS ["run"] []
 J3:TF K mg "tie_from" "tie_from" YS ["run","page"] []
 Kq:TF K mg "part_of" "part_of" ZS ["run","low","high"] []
 Kr:TF K mg "goes_on" "goes_on" aT ["run","later"] []
 K3:TF K mg "joined" "joined" bT ["runs"] []
 Hu:TF K mg "least_free" "least_free" wT ["numbers"] []
 Jq:TF K mg "_law_cell_at" "_law_cell_at" wU ["_law_script","_law_k"] []
 K4:TF K mg "_law_part" "_law_part" xU ["_law_cell","_law_place","_law_many"] []
 Ks:TF K mg "_law_whole" "_law_whole" yU ["_law_found","_law_due"] []
 K5:TF K mg "_law_span" "_law_span" zU ["_law_cell","_law_task","_law_first","_law_size"] []
 K6:TF K mg "_law_busy" "_law_busy" AU ["_law_rooms","_law_bank"] []
 J4:TF K mg "_law_access" "_law_access" BU ["_law_rooms","_law_task","_law_address","_law_boxes","_law_key","_law_cell"] []
 K7:TF K mg "_law_turn" "_law_turn" CU ["_law_rooms","_law_spans","_law_boxes","_law_touched","_law_cell","_law_size","_law_last"] []
 Ka:TF K mg "_law_forked" "_law_forked" DU ["_law_rooms","_law_spans","_law_boxes","_law_touched","_law_size"] []
 Hb:TF K mg "_law_bank_seen" "_law_bank_seen" EU ["_law_rooms","_law_bank","_law_many","_law_size","_law_boxes"] []
 Ae:vG K A.Aa
 Ah:qD K A.Aa "runs"
 Ey:lH K mg "Stretches" A.Aa "Stretches.__init__" cT ["self"] []
 Fu:dF K A.Aa "put" "Stretches.put" vJ ["self","first","many","rights","tie"] []
 K8:dF K A.Aa "put" "Stretches.put" vJ ["self","first","many","rights","tie"] [.non]
 Fv:lD K A.Aa "cut" "Stretches.cut" eT ["self","first","many"] []
 Cc:lD K A.Aa "check_full" "Stretches.check_full" fT ["self","first","many"] []
 Cl:lD K A.Aa "rights_at" "Stretches.rights_at" iT ["self","page"] []
 Ds:lD K A.Aa "tie_at" "Stretches.tie_at" jT ["self","page"] []
 C4:lD K A.Aa "is_free" "Stretches.is_free" kT ["self","first","many"] []
 C5:lD K A.Aa "is_full" "Stretches.is_full" lT ["self","first","many"] []
 C6:lD K A.Aa "is_tied" "Stretches.is_tied" mT ["self","bank"] []
 B4:lD K A.Aa "place_behind" "Stretches.place_behind" pT ["self","page"] []
 Cd:lD K A.Aa "parts_amid" "Stretches.parts_amid" qT ["self","first","many"] []
 C7:lD K A.Aa "part_at" "Stretches.part_at" tT ["self","page"] []
 Cv:lD K A.Aa "lay_amid" "Stretches.lay_amid" uT ["self","first","many","parts"] []
 Ez:lD K A.Aa "told" "Stretches.told" vT ["self"] []
 Dt:lD K A.Aa "copied" "Stretches.copied" vU ["self"] []
 Af:vG K A.Ad
 Bi:qD K A.Ad "shape"
 Aj:qD K A.Ad "tasks"
 A1:qD K A.Ad "banks"
 Hv:lH K mg "House" A.Ad "House.__init__" yT ["self","shape"] []
 E0:lD K A.Ad "new_task" "House.new_task" zT ["self"] []
 E1:lD K A.Ad "new_bank" "House.new_bank" AT ["self","many"] []
 Jr:dF K A.Ad "lay" "House.lay" EI ["self","task","first","many","rights","bank","start"] []
 Mr:dF K A.Ad "lay" "House.lay" EI ["self","task","first","many","rights","bank","start"] [.int 0]
 Ms:dF K A.Ad "lay" "House.lay" EI ["self","task","first","many","rights","bank","start"] [.non,.int 0]
 Hw:lD K A.Ad "lift" "House.lift" DT ["self","task","first","many"] []
 E2:lD K A.Ad "end_task" "House.end_task" ET ["self","task"] []
 Eg:lD K A.Ad "drop_bank" "House.drop_bank" FT ["self","bank"] []
 Hc:lD K A.Ad "asked" "House.asked" GT ["self","task","address","want"] []
 Gd:lD K A.Ad "tie_at" "House.tie_at" JT ["self","task","page"] []
 Cw:lD K A.Ad "stretches_of" "House.stretches_of" MT ["self","task"] []
 E3:lD K A.Ad "pages_of" "House.pages_of" NT ["self","task"] []
 Dw:lD K A.Ad "check_task" "House.check_task" QT ["self","task"] []
 Dx:lD K A.Ad "check_bank" "House.check_bank" RT ["self","bank"] []
 Cm:lD K A.Ad "check_stretch" "House.check_stretch" UT ["self","task","first","many"] []
 Bx:lD K A.Ad "check_part_of_bank" "House.check_part_of_bank" VT ["self","bank","start","many"] []
 Hx:lD K A.Ad "fork" "House.fork" uU ["self","task"] []
 Ac:vG K A.Ab
 Co:qD K A.Ab "shape"
 C2:qD K A.Ab "most"
 Ak:qD K A.Ab "house"
 Ao:qD K A.Ab "sheets"
 An:qD K A.Ab "havers"
 By:qD K A.Ab "made"
 Al:qD K A.Ab "private"
 A3:qD K A.Ab "banked"
 Hy:lH K mg "Rooms" A.Ab "Rooms.__init__" WT ["self","shape","most"] []
 E4:lD K A.Ab "new_task" "Rooms.new_task" XT ["self"] []
 E5:lD K A.Ab "new_bank" "Rooms.new_bank" YT ["self","many"] []
 Eh:lD K A.Ab "drop_bank" "Rooms.drop_bank" ZT ["self","bank"] []
 Js:dF K A.Ab "lay" "Rooms.lay" FI ["self","task","first","many","rights","bank","start"] []
 Mt:dF K A.Ab "lay" "Rooms.lay" FI ["self","task","first","many","rights","bank","start"] [.int 0]
 Ia:dF K A.Ab "lay" "Rooms.lay" FI ["self","task","first","many","rights","bank","start"] [.non,.int 0]
 Ib:lD K A.Ab "lift" "Rooms.lift" aU ["self","task","first","many"] []
 E6:lD K A.Ab "end_task" "Rooms.end_task" bU ["self","task"] []
 Ic:lD K A.Ab "read" "Rooms.read" cU ["self","task","address"] []
 He:lD K A.Ab "write" "Rooms.write" dU ["self","task","address","value"] []
 Fw:lD K A.Ab "seen_by" "Rooms.seen_by" eU ["self","task"] []
 C8:lD K A.Ab "live_sheets" "Rooms.live_sheets" fU ["self"] []
 Hf:lD K A.Ab "shown" "Rooms.shown" gU ["self","task","page","tie"] []
 Fx:lD K A.Ab "noughts" "Rooms.noughts" jU ["self"] []
 Cp:lD K A.Ab "sheet_to_read" "Rooms.sheet_to_read" kU ["self","task","page"] []
 Ce:lD K A.Ab "sheet_to_write" "Rooms.sheet_to_write" lU ["self","task","page"] []
 C9:lD K A.Ab "sheet_there" "Rooms.sheet_there" nU ["self","pages","page"] []
 Ei:lD K A.Ab "new_sheet" "Rooms.new_sheet" oU ["self","boxes"] []
 Da:lD K A.Ab "let_page_go" "Rooms.let_page_go" pU ["self","pages","page"] []
 Dy:lD K A.Ab "let_all_go" "Rooms.let_all_go" qU ["self","pages"] []
 Id:lD K A.Ab "fork" "Rooms.fork" sU ["self","task"] []
 Ax:vG K A.Ag
 Ca:qD K A.Ag "levels"
 Dz:qD K A.Ag "fan"
 Cq:qD K A.Ag "grain"
 C3:qD K A.Ag "ways"
 A6:qD K A.Ag "boxes"
 A2:qD K A.Ag "pages"
 Ie:lH K mg "Shape" A.Ag "Shape.__init__" OS ["self","levels","fan","grain"] []
 D0:lD K A.Ag "sheet_size" "Shape.sheet_size" QS ["self"] []
 E7:lD K A.Ag "has_page" "Shape.has_page" RS ["self","page"] []
 Db:lD K A.Ag "has_address" "Shape.has_address" SS ["self","address"] []
 Ge:lD K A.Ag "parted" "Shape.parted" US ["self","address"] []
 Ig:lD K A.Ag "fits" "Shape.fits" VS ["self","first","many"] []
 Mu:∃u,mg "FrameError">u/\KC (.ref A.Bn) u
 Nk:∃u,mg "NoShape">u/\KC (.ref A.A9) u
 D3:XC K mg "NoShape" A.A9
 Na:∃u,mg "OutOfRoom">u/\KC (.ref A.Aq) u
 Ep:XC K mg "OutOfRoom" A.Aq
 Nb:∃u,mg "BadRights">u/\KC (.ref A.Au) u
 Jt:XC K mg "BadRights" A.Au
 Nn:∃u,mg "NoTask">u/\KC (.ref A.As) u
 K9:XC K mg "NoTask" A.As
 No:∃u,mg "NoBank">u/\KC (.ref A.A4) u
 La:XC K mg "NoBank" A.A4
 Nc:∃u,mg "OutOfBank">u/\KC (.ref A.Ay) u
 Er:XC K mg "OutOfBank" A.Ay
 Nq:∃u,mg "Taken">u/\KC (.ref A.Bg) u
 L9:XC K mg "Taken" A.Bg
 Nd:∃u,mg "NotMapped">u/\KC (.ref A.Av) u
 Es:XC K mg "NotMapped" A.Av
 Nm:∃u,mg "NoRight">u/\KC (.ref A.Bc) u
 Kt:XC K mg "NoRight" A.Bc
 Np:∃u,mg "NoRoom">u/\KC (.ref A.At) u
 Lb:XC K mg "NoRoom" A.At
 Nr:∃u,mg "Busy">u/\KC (.ref A.Az) u
 Mv:XH K mg "Busy" A.Az
 Mw:XC K mg "Busy" A.Az
 Hg:sJ K A.Az A.Az
 Ni:∃f fd,mg "law"=↑f/\iH K "law" "law" TQ f fd/\∀(s:Shared) (u:Value),BindsTo s fd ⟨[u],[]⟩ [("_law_script",u)]
theorem zH {P:!Value->Prop} (h:∀a0,P [a0]):∀us:!Value,us.length=1->P us:=by
 intro us e;cases us with
 |nil=>cases e
 |cons a us=>
  cases us with
  |nil=>show h a
  |cons b us=>show absurd e (by simp)
theorem oF {P:!Value->Prop} (h:∀a0 q,P [a0,q]):∀us:!Value,us.length=2->P us:=by
 intro us e;cases us with
 |nil=>cases e
 |cons a us=>show zH (P:=λus=>P (a::us)) (λD=>h a D) us (Nat.succ.inj e)
theorem QG {P:!Value->Prop} (h:∀a0 q D,P [a0,q,D]):∀us:!Value,us.length=3->P us:=by
 intro us e;cases us with
 |nil=>cases e
 |cons a us=>show oF (P:=λus=>P (a::us)) (λF J=>h a F J) us (Nat.succ.inj e)
theorem eJ {P:!Value->Prop} (h:∀a0 q D F,P [a0,q,D,F]):∀us:!Value,us.length=4->P us:=by
 intro us e;cases us with
 |nil=>cases e
 |cons a us=>show QG (P:=λus=>P (a::us)) (λJ L N=>h a J L N) us (Nat.succ.inj e)
theorem i5 {P:!Value->Prop} (h:∀a0 q D F J,P [a0,q,D,F,J]):∀us:!Value,us.length=5->P us:=by
 intro us e;cases us with
 |nil=>cases e
 |cons a us=>show eJ (P:=λus=>P (a::us)) (λL N O U=>h a L N O U) us (Nat.succ.inj e)
theorem lf {P:!Value->Prop} (h:∀a0 q D F J L,P [a0,q,D,F,J,L]):∀us:!Value,us.length=6->P us:=by
 intro us e;cases us with
 |nil=>cases e
 |cons a us=>show i5 (P:=λus=>P (a::us)) (λN O U V W=>h a N O U V W) us (Nat.succ.inj e)
theorem mf {P:!Value->Prop} (h:∀a0 q D F J L N,P [a0,q,D,F,J,L,N]):∀us:!Value,us.length=7->P us:=by
 intro us e;cases us with
 |nil=>cases e
 |cons a us=>show lf (P:=λus=>P (a::us)) (λO U V W Y Z=>h a O U V W Y Z) us (Nat.succ.inj e)
theorem bd4x {s fd ns ds} (h:∀a0 q D F,BindsTo s fd {pos:=[a0,q,D,F]} (List.zip ns ([a0,q,D,F]++ds))):∀us,us.length=4->BindsTo s fd {pos:=us} (List.zip ns (us++ds)):=eJ (P:=λus=>BindsTo s fd {pos:=us} (List.zip ns (us++ds))) h
theorem bd5x {s fd ns ds} (h:∀a0 q D F J,BindsTo s fd {pos:=[a0,q,D,F,J]} (List.zip ns ([a0,q,D,F,J]++ds))):∀us,us.length=5->BindsTo s fd {pos:=us} (List.zip ns (us++ds)):=i5 (P:=λus=>BindsTo s fd {pos:=us} (List.zip ns (us++ds))) h
theorem bd6x {s fd ns ds} (h:∀a0 q D F J L,BindsTo s fd {pos:=[a0,q,D,F,J,L]} (List.zip ns ([a0,q,D,F,J,L]++ds))):∀us,us.length=6->BindsTo s fd {pos:=us} (List.zip ns (us++ds)):=lf (P:=λus=>BindsTo s fd {pos:=us} (List.zip ns (us++ds))) h
theorem bd7x {s fd ns ds} (h:∀a0 q D F J L N,BindsTo s fd {pos:=[a0,q,D,F,J,L,N]} (List.zip ns ([a0,q,D,F,J,L,N]++ds))):∀us,us.length=7->BindsTo s fd {pos:=us} (List.zip ns (us++ds)):=mf (P:=λus=>BindsTo s fd {pos:=us} (List.zip ns (us++ds))) h
theorem eM {K:W.Frag} {h:Heap} {mg:Str->Option Value} (X:K.In h) (q:h.Ns mainGlobals mg)
 {U a7 ac a9 ad ab a3 a6 a8 a5 a4 b0 L D F J:Addr}
 {jr:Tok}
 {js:Tok}
 {jq:Tok}
 {jo:Tok}
 {jp:Tok}
 {a0 c0:Addr} {iu hs jv:Option Addr} {j0 k5:Array (Option Value)} {ip ih hz ix bt hw k2:Value} {jy:Nat}
 {a1 c1:Addr} {iv ht jw:Option Addr} {j1 kc:Array (Option Value)} {iq ii i1 iy bw hx k3:Value} {jz:Nat} {jt:Tok}
 {a2 c2:Addr} {iw hu jx:Option Addr} {jj kf:Array (Option Value)} {ir io i2 iz bz hy k4:Value} {k1:Nat} {ju:Tok}
 {hv:ClassData}
 (ah:W.nsIn K mainGlobals "Busy">(↑U))
 (be:W.nsIn K mainGlobals "NoRoom">(↑a7))
 (b5:W.nsIn K mainGlobals "NoRight">(↑ac))
 (b1:W.nsIn K mainGlobals "NotMapped">(↑a9))
 (bl:W.nsIn K mainGlobals "Taken">(↑ad))
 (b2:W.nsIn K mainGlobals "OutOfBank">(↑ab))
 (bh:W.nsIn K mainGlobals "NoBank">(↑a3))
 (bi:W.nsIn K mainGlobals "NoTask">(↑a6))
 (b3:W.nsIn K mainGlobals "BadRights">(↑a8))
 (b4:W.nsIn K mainGlobals "OutOfRoom">(↑a5))
 (bb:W.nsIn K mainGlobals "NoShape">(↑a4))
 (f6:W.nsIn K mainGlobals "FrameError">(↑b0))
 (h8:W.nsIn K mainGlobals "Shape">(↑L))
 (h9:W.nsIn K mainGlobals "Rooms">(↑D))
 (ha:W.nsIn K mainGlobals "House">(↑F))
 (fz:W.nsIn K mainGlobals "Stretches">(↑J))
 (ho:W.nsIn K mainGlobals "any">none)
 (hb:W.nsIn K mainGlobals "bool">none)
 (hc:W.nsIn K mainGlobals "dict">none)
 (f7:W.nsIn K mainGlobals "enumerate">none)
 (hp:W.nsIn K mainGlobals "int">none)
 (eu:W.nsIn K mainGlobals "isinstance">none)
 (hq:W.nsIn K mainGlobals "len">none)
 (hd:W.nsIn K mainGlobals "list">none)
 (h5:W.nsIn K mainGlobals "max">none)
 (h6:W.nsIn K mainGlobals "min">none)
 (gt:W.nsIn K mainGlobals "range">none)
 (h7:W.nsIn K mainGlobals "sum">none)
 (he:W.nsIn K mainGlobals "READ">(some (.int 1 jr)))
 (gu:W.nsIn K mainGlobals "WRITE">(some (.int 2 js)))
 (eb:W.nsIn K mainGlobals "MOST_RIGHTS">(some (.int 3 jq)))
 (e9:W.nsIn K mainGlobals "MOST_IN_BANK">(some (.int 64 jo)))
 (cq:W.nsIn K mainGlobals "MOST_IN_STRETCH">(some (.int 64 jp)))
 (g4:GF K "is_whole" KS)
 (g0:GF K "is_within" LS)
 (ec:GF K "power_of_two" MS)
 (dd:GF K "check_measures" NS)
 (ee:GF K "check_rights" WS)
 (gv:GF K "end_of" XS)
 (g5:GF K "tie_from" YS)
 (ge:GF K "part_of" ZS)
 (gp:GF K "goes_on" aT)
 (gw:GF K "joined" bT)
 (fa:GF K "least_free" wT)
 (g1:GF K "_law_cell_at" wU)
 (gx:GF K "_law_part" xU)
 (gq:GF K "_law_whole" yU)
 (gy:GF K "_law_span" zU)
 (gz:GF K "_law_busy" AU)
 (g6:GF K "_law_access" BU)
 (h3:GF K "_law_turn" CU)
 (g7:GF K "_law_forked" DU)
 (ev:GF K "_law_bank_seen" EU)
 (g2:vG K J)
 (dm:W.findIn K (.ref J) "runs">none)
 (dk:IF K J "Stretches.__init__" cT)
 (bm:W.findIn K (.ref J) "put">(↑a0))
 (bn:W.isFn K (.ref a0)=true)
 (bo:K.lookup a0>(ip,iu,.func (W.fnOf "put" "Stretches.put" (iD vJ) (dD vJ) (AC vJ) (.ref c0) ih hz ix hs bt hw),j0))
 (bp:K.lookup c0>(k2,jv,.seq #[.none] jy,k5))
 (br:W.codeIn K bt "Stretches.put"=true)
 (Z:W.keepIn K (.ref a0)=true)
 (ea:MF K J "cut" "Stretches.cut" eT)
 (c9:MF K J "check_full" "Stretches.check_full" fT)
 (ck:MF K J "rights_at" "Stretches.rights_at" iT)
 (cr:MF K J "tie_at" "Stretches.tie_at" jT)
 (cx:MF K J "is_free" "Stretches.is_free" kT)
 (cy:MF K J "is_full" "Stretches.is_full" lT)
 (cz:MF K J "is_tied" "Stretches.is_tied" mT)
 (c3:MF K J "place_behind" "Stretches.place_behind" pT)
 (cd:MF K J "parts_amid" "Stretches.parts_amid" qT)
 (d0:MF K J "part_at" "Stretches.part_at" tT)
 (co:MF K J "lay_amid" "Stretches.lay_amid" uT)
 (dz:MF K J "told" "Stretches.told" vT)
 (cs:MF K J "copied" "Stretches.copied" vU)
 (hf:vG K F)
 (ef:W.findIn K (.ref F) "shape">none)
 (eh:W.findIn K (.ref F) "tasks">none)
 (ej:W.findIn K (.ref F) "banks">none)
 (ff:IF K F "House.__init__" yT)
 (e0:MF K F "new_task" "House.new_task" zT)
 (e1:MF K F "new_bank" "House.new_bank" AT)
 (ao:W.findIn K (.ref F) "lay">(↑a1))
 (ap:W.isFn K (.ref a1)=true)
 (aq:K.lookup a1>(iq,iv,.func (W.fnOf "lay" "House.lay" (iD EI) (dD EI) (AC EI) (.ref c1) ii i1 iy ht bw hx),j1))
 (ar:K.lookup c1>(k3,jw,.seq #[.none,(.int 0 jt)] jz,kc))
 (au:W.codeIn K bw "House.lay"=true)
 (V:W.keepIn K (.ref a1)=true)
 (fl:MF K F "lift" "House.lift" DT)
 (e2:MF K F "end_task" "House.end_task" ET)
 (dn:MF K F "drop_bank" "House.drop_bank" FT)
 (ew:MF K F "asked" "House.asked" GT)
 (ek:MF K F "tie_at" "House.tie_at" JT)
 (cp:MF K F "stretches_of" "House.stretches_of" MT)
 (e3:MF K F "pages_of" "House.pages_of" NT)
 (cu:MF K F "check_task" "House.check_task" QT)
 (cv:MF K F "check_bank" "House.check_bank" RT)
 (cl:MF K F "check_stretch" "House.check_stretch" UT)
 (c4:MF K F "check_part_of_bank" "House.check_part_of_bank" VT)
 (fn:MF K F "fork" "House.fork" uU)
 (hg:vG K D)
 (em:W.findIn K (.ref D) "shape">none)
 (ey:W.findIn K (.ref D) "most">none)
 (en:W.findIn K (.ref D) "house">none)
 (dr:W.findIn K (.ref D) "sheets">none)
 (dt:W.findIn K (.ref D) "havers">none)
 (ez:W.findIn K (.ref D) "made">none)
 (e4:W.findIn K (.ref D) "private">none)
 (du:W.findIn K (.ref D) "banked">none)
 (fo:IF K D "Rooms.__init__" WT)
 (e5:MF K D "new_task" "Rooms.new_task" XT)
 (e6:MF K D "new_bank" "Rooms.new_bank" YT)
 (dp:MF K D "drop_bank" "Rooms.drop_bank" ZT)
 (av:W.findIn K (.ref D) "lay">(↑a2))
 (aw:W.isFn K (.ref a2)=true)
 (ax:K.lookup a2>(ir,iw,.func (W.fnOf "lay" "Rooms.lay" (iD FI) (dD FI) (AC FI) (.ref c2) io i2 iz hu bz hy),jj))
 (ay:K.lookup c2>(k4,jx,.seq #[.none,(.int 0 ju)] k1,kf))
 (az:W.codeIn K bz "Rooms.lay"=true)
 (Y:W.keepIn K (.ref a2)=true)
 (fq:MF K D "lift" "Rooms.lift" aU)
 (e7:MF K D "end_task" "Rooms.end_task" bU)
 (fr:MF K D "read" "Rooms.read" cU)
 (f0:MF K D "write" "Rooms.write" dU)
 (dv:MF K D "seen_by" "Rooms.seen_by" eU)
 (d1:MF K D "live_sheets" "Rooms.live_sheets" fU)
 (f1:MF K D "shown" "Rooms.shown" gU)
 (dw:MF K D "noughts" "Rooms.noughts" jU)
 (cn:MF K D "sheet_to_read" "Rooms.sheet_to_read" kU)
 (ch:MF K D "sheet_to_write" "Rooms.sheet_to_write" lU)
 (d2:MF K D "sheet_there" "Rooms.sheet_there" nU)
 (dq:MF K D "new_sheet" "Rooms.new_sheet" oU)
 (d3:MF K D "let_page_go" "Rooms.let_page_go" pU)
 (cw:MF K D "let_all_go" "Rooms.let_all_go" qU)
 (ft:MF K D "fork" "Rooms.fork" sU)
 (hh:vG K L)
 (dy:W.findIn K (.ref L) "levels">none)
 (fu:W.findIn K (.ref L) "fan">none)
 (eo:W.findIn K (.ref L) "grain">none)
 (f2:W.findIn K (.ref L) "ways">none)
 (eq:W.findIn K (.ref L) "boxes">none)
 (er:W.findIn K (.ref L) "pages">none)
 (fv:IF K L "Shape.__init__" OS)
 (dl:MF K L "sheet_size" "Shape.sheet_size" QS)
 (e8:MF K L "has_page" "Shape.has_page" RS)
 (d9:MF K L "has_address" "Shape.has_address" SS)
 (et:MF K L "parted" "Shape.parted" US)
 (f3:MF K L "fits" "Shape.fits" VS)
 (g8:W.excIn K a4 JE "ValueError.__new__"=true)
 (f4:W.excIn K a5 JE "ValueError.__new__"=true)
 (f5:W.excIn K a8 JE "ValueError.__new__"=true)
 (gr:W.excIn K a6 JE "ValueError.__new__"=true)
 (gs:W.excIn K a3 JE "ValueError.__new__"=true)
 (fw:W.excIn K ab JE "ValueError.__new__"=true)
 (h4:W.excIn K ad JE "ValueError.__new__"=true)
 (fx:W.excIn K a9 JE "ValueError.__new__"=true)
 (g9:W.excIn K ac JE "ValueError.__new__"=true)
 (g3:W.excIn K a7 JE "ValueError.__new__"=true)
 (hj:W.typeIn K (.ref U)>(.type "type"))
 (hl:W.clsIn K U>hv)
 (hm:W.mroIn K U (.type "BaseException")>true)
 (hn:W.excIn K U JE "ValueError.__new__"=true)
 (fy:W.mroIn K U (.ref U)>true)
 (hr:GF K "law" TQ)
 :∃A:rD,CD K mg A:=((J,F,D,L,b0,a4,a5,a8,a6,a3,ab,ad,a9,ac,a7,U),W.mg_none_of X q ho,
  W.mg_none_of X q hb,
  W.mg_none_of X q hc,
  W.mg_none_of X q f7,
  W.mg_none_of X q hp,
  W.mg_none_of X q eu,
  W.mg_none_of X q hq,
  W.mg_none_of X q hd,
  W.mg_none_of X q h5,
  W.mg_none_of X q h6,
  W.mg_none_of X q gt,
  W.mg_none_of X q h7,
  (_,W.mg_of X q he,⟨_,rfl⟩),
  (_,W.mg_of X q gu,⟨_,rfl⟩),
  (_,W.mg_of X q eb,⟨_,rfl⟩),
  (_,W.mg_of X q e9,⟨_,rfl⟩),
  (_,W.mg_of X q cq,⟨_,rfl⟩),
  g4.raw X q (λο ο ο ο ο ο=>zH (λο=>rfl)),
  g0.raw X q (λο ο ο ο ο ο=>QG (λο ο ο=>rfl)),
  ec.raw X q (λο ο ο ο ο ο=>zH (λο=>rfl)),
  dd.raw X q (λο ο ο ο ο ο=>QG (λο ο ο=>rfl)),
  ee.raw X q (λο ο ο ο ο ο=>zH (λο=>rfl)),
  gv.raw X q (λο ο ο ο ο ο=>zH (λο=>rfl)),
  g5.raw X q (λο ο ο ο ο ο=>oF (λο ο=>rfl)),
  ge.raw X q (λο ο ο ο ο ο=>QG (λο ο ο=>rfl)),
  gp.raw X q (λο ο ο ο ο ο=>oF (λο ο=>rfl)),
  gw.raw X q (λο ο ο ο ο ο=>zH (λο=>rfl)),
  fa.raw X q (λο ο ο ο ο ο=>zH (λο=>rfl)),
  g1.raw X q (λο ο ο ο ο ο=>oF (λο ο=>rfl)),
  gx.raw X q (λο ο ο ο ο ο=>QG (λο ο ο=>rfl)),
  gq.raw X q (λο ο ο ο ο ο=>oF (λο ο=>rfl)),
  gy.raw X q (λο ο ο ο ο ο=>eJ (λο ο ο ο=>rfl)),
  gz.raw X q (λο ο ο ο ο ο=>oF (λο ο=>rfl)),
  g6.raw X q (λο ο ο ο ο ο=>lf (λο ο ο ο ο ο=>rfl)),
  h3.raw X q (λο ο ο ο ο ο=>mf (λο ο ο ο ο ο ο=>rfl)),
  g7.raw X q (λο ο ο ο ο ο=>i5 (λο ο ο ο ο=>rfl)),
  ev.raw X q (λο ο ο ο ο ο=>i5 (λο ο ο ο ο=>rfl)),
  g2,
  dm,
  dk.raw X q fz (λο ο ο ο ο ο=>zH (λο=>rfl)),
  (_,_,_,(bm,bn,Z),mK (st:=vJ) bo br Z,(oK 5 rfl λο us N O=>bd5x (λο ο ο ο ο=>CB rfl (N _ _ bp) rfl rfl rfl) us O),.nil),
  (_,_,_,(bm,bn,Z),mK (st:=vJ) bo br Z,(oK 4 rfl λο us N O=>bd4x (λο ο ο ο=>CB rfl (N _ _ bp) rfl rfl rfl) us O),.cons rfl (.nil)),
  ea.raw (λο ο ο ο ο ο=>QG (λο ο ο=>rfl)),
  c9.raw (λο ο ο ο ο ο=>QG (λο ο ο=>rfl)),
  ck.raw (λο ο ο ο ο ο=>oF (λο ο=>rfl)),
  cr.raw (λο ο ο ο ο ο=>oF (λο ο=>rfl)),
  cx.raw (λο ο ο ο ο ο=>QG (λο ο ο=>rfl)),
  cy.raw (λο ο ο ο ο ο=>QG (λο ο ο=>rfl)),
  cz.raw (λο ο ο ο ο ο=>oF (λο ο=>rfl)),
  c3.raw (λο ο ο ο ο ο=>oF (λο ο=>rfl)),
  cd.raw (λο ο ο ο ο ο=>QG (λο ο ο=>rfl)),
  d0.raw (λο ο ο ο ο ο=>oF (λο ο=>rfl)),
  co.raw (λο ο ο ο ο ο=>eJ (λο ο ο ο=>rfl)),
  dz.raw (λο ο ο ο ο ο=>zH (λο=>rfl)),
  cs.raw (λο ο ο ο ο ο=>zH (λο=>rfl)),
  hf,
  ef,
  eh,
  ej,
  ff.raw X q ha (λο ο ο ο ο ο=>oF (λο ο=>rfl)),
  e0.raw (λο ο ο ο ο ο=>zH (λο=>rfl)),
  e1.raw (λο ο ο ο ο ο=>oF (λο ο=>rfl)),
  (_,_,_,(ao,ap,V),mK (st:=EI) aq au V,(oK 7 rfl λο us N O=>bd7x (λο ο ο ο ο ο ο=>CB rfl (N _ _ ar) rfl rfl rfl) us O),.nil),
  (_,_,_,(ao,ap,V),mK (st:=EI) aq au V,(oK 6 rfl λο us N O=>bd6x (λο ο ο ο ο ο=>CB rfl (N _ _ ar) rfl rfl rfl) us O),.cons ⟨_,rfl⟩ (.nil)),
  (_,_,_,(ao,ap,V),mK (st:=EI) aq au V,(oK 5 rfl λο us N O=>bd5x (λο ο ο ο ο=>CB rfl (N _ _ ar) rfl rfl rfl) us O),.cons rfl (.cons ⟨_,rfl⟩ (.nil))),
  fl.raw (λο ο ο ο ο ο=>eJ (λο ο ο ο=>rfl)),
  e2.raw (λο ο ο ο ο ο=>oF (λο ο=>rfl)),
  dn.raw (λο ο ο ο ο ο=>oF (λο ο=>rfl)),
  ew.raw (λο ο ο ο ο ο=>eJ (λο ο ο ο=>rfl)),
  ek.raw (λο ο ο ο ο ο=>QG (λο ο ο=>rfl)),
  cp.raw (λο ο ο ο ο ο=>oF (λο ο=>rfl)),
  e3.raw (λο ο ο ο ο ο=>oF (λο ο=>rfl)),
  cu.raw (λο ο ο ο ο ο=>oF (λο ο=>rfl)),
  cv.raw (λο ο ο ο ο ο=>oF (λο ο=>rfl)),
  cl.raw (λο ο ο ο ο ο=>eJ (λο ο ο ο=>rfl)),
  c4.raw (λο ο ο ο ο ο=>eJ (λο ο ο ο=>rfl)),
  fn.raw (λο ο ο ο ο ο=>oF (λο ο=>rfl)),
  hg,
  em,
  ey,
  en,
  dr,
  dt,
  ez,
  e4,
  du,
  fo.raw X q h9 (λο ο ο ο ο ο=>QG (λο ο ο=>rfl)),
  e5.raw (λο ο ο ο ο ο=>zH (λο=>rfl)),
  e6.raw (λο ο ο ο ο ο=>oF (λο ο=>rfl)),
  dp.raw (λο ο ο ο ο ο=>oF (λο ο=>rfl)),
  (_,_,_,(av,aw,Y),mK (st:=FI) ax az Y,(oK 7 rfl λο us N O=>bd7x (λο ο ο ο ο ο ο=>CB rfl (N _ _ ay) rfl rfl rfl) us O),.nil),
  (_,_,_,(av,aw,Y),mK (st:=FI) ax az Y,(oK 6 rfl λο us N O=>bd6x (λο ο ο ο ο ο=>CB rfl (N _ _ ay) rfl rfl rfl) us O),.cons ⟨_,rfl⟩ (.nil)),
  (_,_,_,(av,aw,Y),mK (st:=FI) ax az Y,(oK 5 rfl λο us N O=>bd5x (λο ο ο ο ο=>CB rfl (N _ _ ay) rfl rfl rfl) us O),.cons rfl (.cons ⟨_,rfl⟩ (.nil))),
  fq.raw (λο ο ο ο ο ο=>eJ (λο ο ο ο=>rfl)),
  e7.raw (λο ο ο ο ο ο=>oF (λο ο=>rfl)),
  fr.raw (λο ο ο ο ο ο=>QG (λο ο ο=>rfl)),
  f0.raw (λο ο ο ο ο ο=>eJ (λο ο ο ο=>rfl)),
  dv.raw (λο ο ο ο ο ο=>oF (λο ο=>rfl)),
  d1.raw (λο ο ο ο ο ο=>zH (λο=>rfl)),
  f1.raw (λο ο ο ο ο ο=>eJ (λο ο ο ο=>rfl)),
  dw.raw (λο ο ο ο ο ο=>zH (λο=>rfl)),
  cn.raw (λο ο ο ο ο ο=>QG (λο ο ο=>rfl)),
  ch.raw (λο ο ο ο ο ο=>QG (λο ο ο=>rfl)),
  d2.raw (λο ο ο ο ο ο=>QG (λο ο ο=>rfl)),
  dq.raw (λο ο ο ο ο ο=>oF (λο ο=>rfl)),
  d3.raw (λο ο ο ο ο ο=>QG (λο ο ο=>rfl)),
  cw.raw (λο ο ο ο ο ο=>oF (λο ο=>rfl)),
  ft.raw (λο ο ο ο ο ο=>oF (λο ο=>rfl)),
  hh,
  dy,
  fu,
  eo,
  f2,
  eq,
  er,
  fv.raw X q h8 (λο ο ο ο ο ο=>eJ (λο ο ο ο=>rfl)),
  dl.raw (λο ο ο ο ο ο=>zH (λο=>rfl)),
  e8.raw (λο ο ο ο ο ο=>oF (λο ο=>rfl)),
  d9.raw (λο ο ο ο ο ο=>oF (λο ο=>rfl)),
  et.raw (λο ο ο ο ο ο=>oF (λο ο=>rfl)),
  f3.raw (λο ο ο ο ο ο=>QG (λο ο ο=>rfl)),
  (_,W.mg_of X q f6,rfl),
  (_,W.mg_of X q bb,rfl),
  ⟨W.mg_of X q bb,g8⟩,
  (_,W.mg_of X q b4,rfl),
  ⟨W.mg_of X q b4,f4⟩,
  (_,W.mg_of X q b3,rfl),
  ⟨W.mg_of X q b3,f5⟩,
  (_,W.mg_of X q bi,rfl),
  ⟨W.mg_of X q bi,gr⟩,
  (_,W.mg_of X q bh,rfl),
  ⟨W.mg_of X q bh,gs⟩,
  (_,W.mg_of X q b2,rfl),
  ⟨W.mg_of X q b2,fw⟩,
  (_,W.mg_of X q bl,rfl),
  ⟨W.mg_of X q bl,h4⟩,
  (_,W.mg_of X q b1,rfl),
  ⟨W.mg_of X q b1,fx⟩,
  (_,W.mg_of X q b5,rfl),
  ⟨W.mg_of X q b5,g9⟩,
  (_,W.mg_of X q be,rfl),
  ⟨W.mg_of X q be,g3⟩,
  (_,W.mg_of X q ah,rfl),
  (W.mg_of X q ah,hj,⟨_,hl⟩,hm),
  ⟨W.mg_of X q ah,hn⟩,
  fy,
  hr.law X q λο ο ο ο ο ο ο=>rfl)
section
variable {P:Program} {w:World} {K:W.Frag} {mg:Str->Option Value} {base:Heap} {A:rD}
theorem GU {a0 O U V W Y:Type} {p:a0->O->U->V->W->Y->Prop} (q:a0) (D:O) (F:U) (J:V) (L:W) (N:Y) (h:p q D F J L N):∃q D F J L N,p q D F J L N:=(q,D,F,J,L,N,h)
theorem UO {a0 U V W Y Z a1:Type} {p:a0->U->V->W->Y->Z->a1->Prop} (q:a0) (D:U) (F:V) (J:W) (L:Y) (N:Z) (O:a1) (h:p q D F J L N O):∃q D F J L N O,p q D F J L N O:=(q,D,F,J,L,N,O,h)
theorem VO {a0 a1 a4 a5 a6 a7 a8 a9 ab ac a2 a3:Type} {p:a0->a1->a4->a5->a6->a7->a8->a9->ab->ac->a2->a3->Prop} (q:a0) (D:a1) (L:a4) (N:a5) (O:a6) (U:a7) (V:a8) (W:a9) (Y:ab) (Z:ac) (F:a2) (J:a3) (h:p q D L N O U V W Y Z F J):∃q D L N O U V W Y Z F J,p q D L N O U V W Y Z F J:=(q,D,L,N,O,U,V,W,Y,Z,F,J,h)
theorem AH {a0 a2 a6 a7 a8 a9 ab ac ad ah a3 a4 a5:Type} {p:a0->a2->a6->a7->a8->a9->ab->ac->ad->ah->a3->a4->a5->Prop} (q:a0) (D:a2) (N:a6) (O:a7) (U:a8) (V:a9) (W:ab) (Y:ac) (Z:ad) (a1:ah) (F:a3) (J:a4) (L:a5) (h:p q D N O U V W Y Z a1 F J L):∃q D N O U V W Y Z a1 F J L,p q D N O U V W Y Z a1 F J L:=(q,D,N,O,U,V,W,Y,Z,a1,F,J,L,h)
theorem GI {a0 a3 a8 a9 ab ac ad ah ao ap a4 a5 a6 a7:Type} {p:a0->a3->a8->a9->ab->ac->ad->ah->ao->ap->a4->a5->a6->a7->Prop} (q:a0) (D:a3) (O:a8) (U:a9) (V:ab) (W:ac) (Y:ad) (Z:ah) (a1:ao) (a2:ap) (F:a4) (J:a5) (L:a6) (N:a7) (h:p q D O U V W Y Z a1 a2 F J L N):∃q D O U V W Y Z a1 a2 F J L N,p q D O U V W Y Z a1 a2 F J L N:=(q,D,O,U,V,W,Y,Z,a1,a2,F,J,L,N,h)
theorem uK {a0 a4 ab ac ad ah ao ap aq ar a5 a6 a7 a8 a9:Type} {p:a0->a4->ab->ac->ad->ah->ao->ap->aq->ar->a5->a6->a7->a8->a9->Prop} (q:a0) (D:a4) (U:ab) (V:ac) (W:ad) (Y:ah) (Z:ao) (a1:ap) (a2:aq) (a3:ar) (F:a5) (J:a6) (L:a7) (N:a8) (O:a9) (h:p q D U V W Y Z a1 a2 a3 F J L N O):∃q D U V W Y Z a1 a2 a3 F J L N O,p q D U V W Y Z a1 a2 a3 F J L N O:=(q,D,U,V,W,Y,Z,a1,a2,a3,F,J,L,N,O,h)
theorem vK {a0 a5 ad ah ao ap aq ar au av a6 a7 a8 a9 ab ac:Type} {p:a0->a5->ad->ah->ao->ap->aq->ar->au->av->a6->a7->a8->a9->ab->ac->Prop} (q:a0) (D:a5) (V:ad) (W:ah) (Y:ao) (Z:ap) (a1:aq) (a2:ar) (a3:au) (a4:av) (F:a6) (J:a7) (L:a8) (N:a9) (O:ab) (U:ac) (h:p q D V W Y Z a1 a2 a3 a4 F J L N O U):∃q D V W Y Z a1 a2 a3 a4 F J L N O U,p q D V W Y Z a1 a2 a3 a4 F J L N O U:=(q,D,V,W,Y,Z,a1,a2,a3,a4,F,J,L,N,O,U,h)
theorem WO {a0 a6 ao ap aq ar au av aw ax a7 a8 a9 ab ac ad ah:Type} {p:a0->a6->ao->ap->aq->ar->au->av->aw->ax->a7->a8->a9->ab->ac->ad->ah->Prop} (q:a0) (D:a6) (W:ao) (Y:ap) (Z:aq) (a1:ar) (a2:au) (a3:av) (a4:aw) (a5:ax) (F:a7) (J:a8) (L:a9) (N:ab) (O:ac) (U:ad) (V:ah) (h:p q D W Y Z a1 a2 a3 a4 a5 F J L N O U V):∃q D W Y Z a1 a2 a3 a4 a5 F J L N O U V,p q D W Y Z a1 a2 a3 a4 a5 F J L N O U V:=(q,D,W,Y,Z,a1,a2,a3,a4,a5,F,J,L,N,O,U,V,h)
theorem XO {a0 a7 aq ar au av aw ax ay az a8 a9 ab ac ad ah ao ap:Type} {p:a0->a7->aq->ar->au->av->aw->ax->ay->az->a8->a9->ab->ac->ad->ah->ao->ap->Prop} (q:a0) (D:a7) (Y:aq) (Z:ar) (a1:au) (a2:av) (a3:aw) (a4:ax) (a5:ay) (a6:az) (F:a8) (J:a9) (L:ab) (N:ac) (O:ad) (U:ah) (V:ao) (W:ap) (h:p q D Y Z a1 a2 a3 a4 a5 a6 F J L N O U V W):∃q D Y Z a1 a2 a3 a4 a5 a6 F J L N O U V W,p q D Y Z a1 a2 a3 a4 a5 a6 F J L N O U V W:=(q,D,Y,Z,a1,a2,a3,a4,a5,a6,F,J,L,N,O,U,V,W,h)
theorem YO {a0 ad az b3 b4 b5 bb be bh bi ah ao ap aq ar au av aw ax ay b0 b1 b2:Type} {p:a0->ad->az->b3->b4->b5->bb->be->bh->bi->ah->ao->ap->aq->ar->au->av->aw->ax->ay->b0->b1->b2->Prop} (q:a0) (D:ad) (a1:az) (a5:b3) (a6:b4) (a7:b5) (a8:bb) (a9:be) (ab:bh) (ac:bi) (F:ah) (J:ao) (L:ap) (N:aq) (O:ar) (U:au) (V:av) (W:aw) (Y:ax) (Z:ay) (a2:b0) (a3:b1) (a4:b2) (h:p q D a1 a5 a6 a7 a8 a9 ab ac F J L N O U V W Y Z a2 a3 a4):∃q D a1 a5 a6 a7 a8 a9 ab ac F J L N O U V W Y Z a2 a3 a4,p q D a1 a5 a6 a7 a8 a9 ab ac F J L N O U V W Y Z a2 a3 a4:=(q,D,a1,a5,a6,a7,a8,a9,ab,ac,F,J,L,N,O,U,V,W,Y,Z,a2,a3,a4,h)
theorem wK {a0 ao b1 be bh bi bl bm bn bo ap aq ar au av aw ax ay az b0 b2 b3 b4 b5 bb:Type} {p:a0->ao->b1->be->bh->bi->bl->bm->bn->bo->ap->aq->ar->au->av->aw->ax->ay->az->b0->b2->b3->b4->b5->bb->Prop} (q:a0) (D:ao) (a1:b1) (a7:be) (a8:bh) (a9:bi) (ab:bl) (ac:bm) (ad:bn) (ah:bo) (F:ap) (J:aq) (L:ar) (N:au) (O:av) (U:aw) (V:ax) (W:ay) (Y:az) (Z:b0) (a2:b2) (a3:b3) (a4:b4) (a5:b5) (a6:bb) (h:p q D a1 a7 a8 a9 ab ac ad ah F J L N O U V W Y Z a2 a3 a4 a5 a6):∃q D a1 a7 a8 a9 ab ac ad ah F J L N O U V W Y Z a2 a3 a4 a5 a6,p q D a1 a7 a8 a9 ab ac ad ah F J L N O U V W Y Z a2 a3 a4 a5 a6:=(q,D,a1,a7,a8,a9,ab,ac,ad,ah,F,J,L,N,O,U,V,W,Y,Z,a2,a3,a4,a5,a6,h)
def sp_is_whole:Sp:=λvs H Q ο=>∃x,vs=[x]/\Kn H x/\Q (.bl (UF x)) H
theorem pf (T:CD K mg A):pE P w K mg base "is_whole" 1 ["thing"] [] sp_is_whole:=by
 show T.J1.have Pd (λvs H Q E D=>?_) ?_
 .let(x,rfl,_):=D;rfl
 .intro f J F N s H vs Q E L D;let(x,rfl,hk,q):=D;show(_,(bD (PD (XI (YF JQ rfl T.Bo dC (EC (BC 0) (EC (IQ (n:="int") rfl T.L7 PyProof.Rows.boot_int) IC))) (gL (mZ (YF JQ rfl T.Bo dC (EC (BC 0) (EC (IQ (n:="bool") rfl T.Ko PyProof.Rows.boot_bool) IC)))))))),?_);rfl';rw[<-xb hk] at q;show(by decide,hk,?_);cases e:vI "int" H x with
  |true=>rw[e] at q;show fE (by decide,hk,q)
  |false=>rw[e] at q;show oE q
def sp_is_within:Sp:=λvs H Q ο=>∃x l h,vs=[x,.int l,.int h]/\Kn H x/\Q (.bl (uE x l h)) H
theorem fM (T:CD K mg A):pE P w K mg base "is_within" 2 ["thing","low","high"] [] sp_is_within:=by
 let F:=@pf P w K mg base A T;show T.Jp.have Qd (λvs H Q E D=>?_) ?_
 .let(x,l,h,rfl,_):=D;rfl
 .intro f N L O s H vs Q E J D;let(x,l,h,rfl,hk,q):=D;show(_,(bD (PD (XI (XD F (-J) ZC (EC (BC 0) IC)) (gL (P9 PJ PJ (BC 1) (BC 0) (BC 2)))))),?_);unfold sp_is_whole;rfl';show⟨hk,?_⟩;cases x with
  |int i=>
   show fE (i,rfl,?_);rw[wI] at q;by_cases c:l<=i
   .rw[pA c] at q;rw[jA c];show(i,rfl,q)
   .rw[DA c] at q;rw[fA c];show q
  |_=>show oE q
def sp_power_of_two:Sp:=λvs H Q ο=>∃e:Int,vs=[.int e]/\0<=e/\e<=62/\Q (.int (pw e)) H
theorem qf (T:CD K mg A):pE P w K mg base "power_of_two" 1 ["exponent"] [] sp_power_of_two:=by
 show T.Gb.have RQ (λvs H Q E D=>?_) ?_
 .let(e,rfl,_):=D;rfl
 .intro f L J W s H vs Q E V D;let(e,rfl,h0,h1,q):=D;show(_,(aD (SD (i:=1) RQ.nd rfl (Or.inl rfl) NC)
   (aD (dJ nB rfl (uQ rfl T.B3 (EC (BC 0) IC)) (XF (i:=2) RQ.nd rfl (Or.inl rfl)) (bD (SD (i:=1) RQ.nd rfl (Or.inl rfl) (KD OJ (BC 1) NC))))
   (bD (PD (BC 1))))),?_)
  rfl';show(⋯,⋯,KQ (λi F H'=>∃v,F=[some (.int e),some (.int (pw (i:Int))),v]/\H'=H) (_,rfl,rfl) (λi F H' hi=>?_) (λF H'=>?_))
  .rintro⟨v,rfl,rfl⟩;rfl';let O:=Z0 (n:=i) (m:=62) ⋯;let U:=NQ i;let N:pw ((62:Nat):Int)=4611686018427387904:=by decide
   show by first|exact (MQ i).symm|exact⟨⋯,(MQ i).symm⟩|(rw[MQ];omega)|(trace_state;omega)
  .rintro⟨v,rfl,rfl⟩;rfl';rw[show ((e.toNat:Nat):Int)=e by omega];show q
def qH (x y z:V):Bool:=uE x 2 3&&uE y 1 8&&uE z 0 4
theorem rf {l f g:Int} (h:qH (.int l) (.int f) (.int g)=true):2<=l/\l<=3/\1<=f/\f<=8/\0<=g/\g<=4:=by
 unfold qH at h;simp only[wI,MA,ZA] at h;omega
theorem sf {l f g:Int} (h:2<=l/\l<=3/\1<=f/\f<=8/\0<=g/\g<=4):qH (.int l) (.int f) (.int g)=true:=by
 unfold qH;simp only[wI,MA,ZA];omega
def j5 (N:Addr):Sp:=λvs H Q E=>∃x y z,vs=[x,y,z]/\Kn H x/\Kn H y/\Kn H z/\if qH x y z=true then Q .non H else E (.ref N) none H
theorem uf (T:CD K mg A):pE P w K mg base "check_measures" 3 ["levels","fan","grain"] [] (j5 A.A9):=by
 let F:=@fM P w K mg base A T;show T.Ex.have Sd (λvs H Q E D=>?_) ?_
 .let(x,L,D,rfl,_):=D;rfl
 .intro f Z Y a0 s H vs Q E J D;let(x,L,D,rfl,V,W,hz,q):=D;show(_,(aD (ME (JG (rG (XD F (-J) ZC (EC (BC 0) (EC NC (EC NC IC)))))) (bD (WG VG rfl T.D3 (EC xF IC))) OE)
   (aD (ME (JG (rG (XD F (-J) ZC (EC (BC 1) (EC NC (EC NC IC)))))) (bD (WG VG rfl T.D3 (EC xF IC))) OE)
   (bD (ME (JG (rG (XD F (-J) ZC (EC (BC 2) (EC NC (EC NC IC)))))) (bD (WG VG rfl T.D3 (EC xF IC))) OE)))),?_)
  unfold sp_is_within;rfl';unfold qH at q;simp only[V,W,hz,true_and];cases N:uE x 2 3<;>cases O:uE L 1 8<;>cases U:uE D 0 4<;>simp only[N,O,U,Bool.and_true,Bool.and_false,Bool.true_and,Bool.false_and,Bool.not_true,Bool.not_false,yC,HB,XA, ↓reduceIte] at q ⊢<;>show q
def FH (l f g:Int):!(Str×V):=LC "pages" (.int (pw (l * f))) (LC "boxes" (.int (pw g)) (LC "ways" (.int (pw f)) (LC "grain" (.int g) (LC "fan" (.int f) (LC "levels" (.int l) [])))))
def HI (C N:Addr):Sp:=λvs H Q E=>∃(p dx:Addr) (x y z:V),vs=[.ref p,x,y,z]/\H p>(.ins C dx [])/\Kn H x/\Kn H y/\Kn H z/\
 if qH x y z=true then ∃l f g:Int,x=.int l/\y=.int f/\z=.int g/\Q .non (FC H p (.ins C dx (FH l f g))) else E (.ref N) none H
theorem gM (T:CD K mg A):HF P w K mg base "Shape" A.Ag 4 ["self","levels","fan","grain"] [] (HI A.Ag A.A9):=by
 let N:=@uf P w K mg base A T;let L:=@qf P w K mg base A T;show T.Ie.have Td (λvs H Q E D=>?_) ?_
 .let(p,O,x,Y,D,rfl,_):=D;rfl
 .intro f a0 Z a2 s H vs Q E J D;let(p,O,x,Y,D,rfl,U,V,W,hz,q):=D;show(_,(aD (lE (XD N (-J) ZC (EC (BC 1) (EC (BC 2) (EC (BC 3) IC)))))
   (aD (cG (BC 0) (BC 1) rfl)
   (aD (cG (BC 0) (BC 2) rfl)
   (aD (cG (BC 0) (BC 3) rfl)
   (aD (cG (BC 0) (XD L (-J) ZC (EC (BC 2) IC)) rfl)
   (aD (cG (BC 0) (XD L (-J) ZC (EC (BC 3) IC)) rfl)
   (bD (cG (BC 0) (XD L (-J) ZC (EC (KD OJ (BC 1) (BC 2)) IC)) rfl)))))))),?_)
  unfold j5 sp_power_of_two;rfl';simp only[V,W,hz,U,T.Ax,T.Ca,T.Dz,T.Cq,T.C3,T.A6,T.A2,true_and];rfl';simp only[T.Ax,T.Ca,T.Dz,T.Cq,T.C3,T.A6,T.A2,true_and];show pI (λF=>?_) (λF=>?_)
  .rw[jA F] at q;let(l,a1,g,rfl,rfl,rfl,q):=q;let b:=rf F;let m:=xS b.1 b.2.1 b.2.2.1 b.2.2.2.1;rfl'
   repeat' (show And.intro ?_ ?_)
   all_goals first|omega|exact q|(show NA (?_:_ < 9) (by decide);repeat (first|exact Nat.zero_lt_succ _|refine N1 ?_))
  .rw[fA F] at q;show q
theorem HU {l f g:Int}:(FH l f g).lookup ("pages":Str)>(.int (pw (l * f))):=by rfl
theorem UQ {l f g:Int}:(FH l f g).lookup ("boxes":Str)>(.int (pw g)):=by rfl
theorem fJ {l f g:Int} {m:Str} (h:¬m∈(["levels","fan","grain","ways","boxes","pages"]:!Str)):(FH l f g).lookup m=none:=by
 simp only[uA,bB,zC,not_or] at h;unfold FH;simp only[wN,h,HB]
 rfl
def TD (C:Addr) (H:Hp) (p:Addr) (l f g:Int):Prop:=∃dx,H p>(.ins C dx (FH l f g))
theorem TD.same {C:Addr} {H H':Hp} {p:Addr} {l f g:Int} (h:TD C H p l f g) (s:JC H H'):TD C H' p l f g:=let ⟨dx,e⟩:=h;⟨dx,s _ _ e⟩
def l5 (C:Addr):Sp:=λvs H Q ο=>∃(p:Addr) (x l f g:Int),vs=[.ref p,.int x]/\TD C H p l f g/\Q (.bl (decide (0<=x)&&decide (x<=pw (l * f) - 1))) H
theorem ZO (T:CD K mg A):QC P w K mg base A.Ag "has_page" 3 ["self","page"] [] (l5 A.Ag):=by
 let F:=@fM P w K mg base A T;show T.E7.have Vd (λvs H Q E D=>?_) ?_
 .let(p,x,l,f,g,rfl,_):=D;rfl
 .intro f O N W s H vs Q E L D;let(p,x,l,V,g,rfl,(U,J),q):=D;show(_,(bD (PD (XD F (-L) ZC (EC (BC 1) (EC NC (EC (KD dI (FD (BC 0) rfl) NC) IC)))))),?_);unfold sp_is_within;rfl';simp only[J,T.Ax,T.A2,true_and];rfl';simp only[T.Ax,T.A2,HU,true_and];rfl';show q
def UD (x m p:Int):Bool:=decide (0<=x/\x < p/\1<=m/\m<=64/\x+m - 1 < p)
def o5 (C:Addr):Sp:=λvs H Q ο=>∃(p:Addr) (x m l f g:Int),vs=[.ref p,.int x,.int m]/\TD C H p l f g/\Q (.bl (UD x m (pw (l * f)))) H
theorem iM (T:CD K mg A):QC P w K mg base A.Ag "fits" 4 ["self","first","many"] [] (o5 A.Ag):=by
 let W:=@fM P w K mg base A T;let V:=@ZO P w K mg base A T;show T.Ig.have Yd (λvs H Q E U=>?_) ?_
 .let(p,x,m,l,f,g,rfl,_):=U;rfl
 .intro f a0 Z a3 s H vs Q E O U;let(p,x,m,l,F,g,rfl,L,q):=U;show(_,(bD (PD (XI (GD (BC 0) T.Ax V (-O) ZC (EC (BC 1) IC)) (XI (XD W (-O) ZC (EC (BC 2) (EC NC (EC (AO rfl T.Ef) IC)))) (gL (GD (BC 0) T.Ax V (-O) ZC (EC (KD dI (KD LF (BC 1) (BC 2)) NC) IC))))))),?_);unfold sp_is_within l5;rfl';let(a1,Y):=id L;simp only[Y];rfl';show(fJ ∅,l,F,g,L,?_);generalize a2:pw (l * F)=N at q ⊢;by_cases c:0<=x/\x<=N - 1
  .rw[pA c.1,pA c.2];show fE ?_;rw[wI];by_cases J:1<=m/\m<=64
   .rw[pA J.1,pA J.2];show fE (fJ ∅,l,F,g,L,?_);let D:(decide (0<=x+m - 1)&&decide (x+m - 1<=pw (l * F) - 1))=UD x m N:=by
     unfold UD;rw[rB];simp only[MA,ZA];omega
    rw[D];show q
   .let e:(decide (1<=m)&&decide (m<=64))=false:=by
     rw[uC];simp only[ne_eq,MA,ZA];show J
    rw[e];show oE ?_;let D:UD x m N=false:=DA ⋯;rw[D] at q;show q
  .let e:(decide (0<=x)&&decide (x<=N - 1))=false:=by
    rw[uC];simp only[ne_eq,MA,ZA];show c
   rw[e];show oE ?_;let D:UD x m N=false:=DA ⋯;rw[D] at q;show q
theorem vf {a b c:Int}:(decide (a<=b)&&decide (b<=c - 1))=decide (a<=b/\b < c):=by
 rw[rB];simp only[MA,ZA];omega
def gd (l f g:Int):Prop:=2<=l/\l<=3/\1<=f/\f<=8/\0<=g/\g<=4
theorem II {l f g:Int} (h:gd l f g):(1<=pw g/\pw g<=16)/\(1<=pw (l * f)/\pw (l * f)<=16777216):=by
 let(h1,h2,q,D,J,F):=h;let m:=xS h1 h2 q D;show(⟨NQ _,Sb F⟩,NQ _,wS m.2)
def xK (C:Addr):Sp:=λvs H Q ο=>∃(p:Addr) (x l f g:Int),vs=[.ref p,.int x]/\TD C H p l f g/\gd l f g/\Q (.bl (decide (0<=x/\x < pw (l * f) * pw g))) H
theorem IU (T:CD K mg A):QC P w K mg base A.Ag "has_address" 3 ["self","address"] [] (xK A.Ag):=by
 let F:=@fM P w K mg base A T;show T.Db.have Wd (λvs H Q E D=>?_) ?_
 .let(p,x,l,f,g,rfl,_):=D;rfl
 .intro f V U Z s H vs Q E O D;let(p,x,l,Y,g,rfl,J,L,q):=D;show(_,(bD (PD (XD F (-O) ZC (EC (BC 1) (EC NC (EC (KD dI (KD OJ (FD (BC 0) rfl) (FD (BC 0) rfl)) NC) IC)))))),?_);unfold sp_is_within;let(W,N):=id J;rfl';simp only[N];rfl';simp only[T.Ax,T.A2,T.A6,HU,UQ,true_and];rfl';let b:=II L;show⟨.inr ⟨⋯,⋯⟩,?_⟩;rw[wI,vf];show q
def yK (C O:Addr):Sp:=λvs H Q E=>∃(p:Addr) (x l f g:Int),vs=[.ref p,.int x]/\TD C H p l f g/\gd l f g/\
 if 0<=x/\x < pw (l * f) * pw g then ∀t,H t=none->Q (.ref t) (FC H t (.tup [.int (x / pw g),.int (x % pw g)])) else E (.ref O) none H
theorem JU (T:CD K mg A):QC P w K mg base A.Ag "parted" 4 ["self","address"] [] (yK A.Ag A.Aq):=by
 let N:=@IU P w K mg base A T;show T.Ge.have Xd (λvs H Q E D=>?_) ?_
 .let(p,x,l,f,g,rfl,_):=D;rfl
 .intro f W V Z s H vs Q E U D;let(p,x,l,F,g,rfl,J,L,q):=D;show(_,(aD (ME (JG (rG (GD (BC 0) T.Ax N (-U) ZC (EC (BC 1) IC)))) (bD (WG VG rfl T.Ep (EC xF IC))) OE)
   (bD (PD (dG (EC (KD vQ (BC 1) (FD (BC 0) rfl)) (EC (KD OH (BC 1) (FD (BC 0) rfl)) IC)))))),?_)
  unfold xK;let(Y,O):=id J;rfl';simp only[O];rfl';show(fJ ∅,l,F,g,J,L,?_);simp only[T.Ax,T.A2,T.A6,HU,UQ,true_and];rfl';let b:=II L;by_cases c:0<=x/\x < pw (l * F) * pw g
  .rw[jA c] at q;rw[pA c];show oE (⋯,⋯,⋯,q)
  .rw[fA c] at q;rw[DA c];show fE q
def p5 (K:W.Frag) (a:Addr) (ns:!Int):Sp:=λvs H Q ο=>∃(k:Int),vs=[.ref a,.int k]/\pD K H a (ns.map V.int)/\0<=k/\Q (.int (ns.getD k.toNat 0)) H
theorem jM (T:CD K mg A) (a:Addr) (ns:!Int):pE P w K mg base "_law_cell_at" 1 ["_law_script","_law_k"] [] (p5 K a ns):=by
 show T.Jq.have cf (λvs H Q E D=>?_) ?_
 .let(k,rfl,_):=D;rfl
 .intro f O N W s H vs Q E U D;let(k,rfl,F,hk,q):=D;show(_,(aD (ME (yF wQ (BC 1) (YF ZI rfl T.Bh PySem.boot_len (EC (BC 0) IC)) (UC _)) (bD (PD (WD lI (BC 0) (BC 1) (λο ο=>rfl)))) OE)
   (bD (PD NC))),?_)
  rfl';show(ns.length,.inl (_,F,by simp),?_);by_cases c:k < (ns.length:Int)
  .rw[jA c];show(_,F,.int (ns.getD k.toNat 0),?_,q);let L:k.toNat < ns.length:=⋯;let e:SG (ns.map V.int) ((k.toNat:Nat):Int)>(.int (ns.getD k.toNat 0)):=QH (by simp[L]);rw[show ((k.toNat:Nat):Int)=k by omega] at e;show e
  .rw[fA c];let J:ns.length<=k.toNat:=⋯;rw[show ns.getD k.toNat 0=0 by simp[List.getD,J]] at q;show q
theorem GH {H H':Hp} {t:Addr} {o:HO} (s:JC H H') (h:H t=none):JC H (FC H' t o):=λb u e=>by
 rw[VC (OD e h)];show s b u e
theorem FG {H H':Hp} {p:Addr} (s:JC H H') (h:H' p=none):H p=none:=by
 cases e:H p with
 |none=>rfl
 |some o=>rw[s p o e] at h;cases h
structure Rn where
 f:Int
 m:Int
 r:Int
 t:Option (Int×Int)
 deriving DecidableEq
def RC (r:Rn):Int:=r.f+r.m
def tf (r:Rn) (p:Int):Option (Int×Int):=r.t.map λt=>(t.1,t.2+p - r.f)
def GE (r:Rn) (lo hi:Int):Rn:=(max r.f lo,min (RC r) hi - max r.f lo,r.r,tf r (max r.f lo))
def go (r s:Rn):Bool:=decide (RC r=s.f)&&decide (r.r=s.r)&&decide (tf r s.f=s.t)
def zE (acc:!Rn) (r:Rn):!Rn:=
 match acc.getLast? with
 |none=>acc++[r]
 |some l=>if go l r=true then acc.dropLast++[(l.f,l.m+r.m,l.r,l.t)] else acc++[r]
def jn (rs:!Rn):!Rn:=rs.foldl zE []
def pb (rs:!Rn) (p:Int):Nat:=(rs.takeWhile λr=>decide (RC r<=p)).length
def NE (rs:!Rn) (lo hi:Nat):!Rn:=(rs.take hi).drop lo
def ZE (rs:!Rn) (a n:Int):!Rn:=((NE rs (pb rs a) (pb rs (a+n)+1)).filter λr=>decide (r.f < a+n)).map λr=>GE r a (a+n)
def AE (rs:!Rn) (a n:Int) (parts:!Rn):!Rn:=
 letI near:=NE rs (pb rs (a - 1)) (pb rs (a+n)+1)
 rs.take (pb rs (a - 1))++jn ((near.filter λr=>decide (r.f < a)).map (λr=>GE r r.f a)++parts++(near.filter λr=>decide (GT.gt (RC r) (a+n))).map (λr=>GE r (a+n) (RC r)))++rs.drop (pb rs (a+n)+1)
def pm:!Rn->Int->Option (Int×Option (Int×Int))
 |[],_=>none
 |r::rs,p=>if r.f<=p/\p < RC r then some (r.r,tf r p) else pm rs p
def YC (rs:!Rn):Prop:=rs.Pairwise (λa b=>RC a<=b.f)/\∀r∈rs,0 < r.m
def ZD:!Rn->Prop
 |[]=>True
 |[_]=>True
 |a::b::r=>go a b=false/\ZD (b::r)
theorem YC.tail {r:Rn} {rs:!Rn} (h:YC (r::rs)):YC rs:=⟨(VB.mp h.1).2,λx q=>h.2 x (qA _ q)⟩
theorem YC.head {r:Rn} {rs:!Rn} (h:YC (r::rs)):∀s∈rs,RC r<=s.f:=(VB.mp h.1).1
theorem ZD.tail {r:Rn} {rs:!Rn} (h:ZD (r::rs)):ZD rs:=by
 cases rs with
 |nil=>show True.intro
 |cons s rs=>show h.2
theorem VQ {p:Int}:∀{rs:!Rn},(∀r∈rs,¬(r.f<=p/\p < RC r))->pm rs p=none
 |[],_=>rfl
 |r::rs,h=>by
  unfold pm;rw[fA (h r aA)];show VQ λs hs=>h s (qA _ hs)
theorem kM {p:Int} {rs:!Rn} (h:∀r∈rs,p < r.f):pm rs p=none:=VQ λr q D=>by have:=h r q;omega
theorem KU {p:Int} {rs:!Rn} (h:∀r∈rs,RC r<=p):pm rs p=none:=VQ λr q D=>by have:=h r q;omega
theorem zK {p:Int}:∀{rs:!Rn} {r:Rn},YC rs->r∈rs->r.f<=p->p < RC r->pm rs p>(r.r,tf r p)
 |[],_,_,h,_,_=>by cases h
 |s::rs,r,o,h,h1,h2=>by
  unfold pm;let rfl||h:=uA.mp h
  .rw[jA ⟨h1,h2⟩]
  .have:=o.head r h;rw[fA ⋯];show zK o.tail h h1 h2
theorem u5 {p:Int} {x:Int×Option (Int×Int)}:∀{rs:!Rn},pm rs p>x->∃r∈rs,r.f<=p/\p < RC r/\x=(r.r,tf r p)
 |[],h=>by cases h
 |s::rs,h=>by
  unfold pm at h;by_cases c:s.f<=p/\p < RC s
  .rw[jA c] at h;show(s,aA,c.1,c.2,(rA h).symm)
  .rw[fA c] at h;let(r,h1,h2):=u5 h;show(r,qA _ h1,h2)
theorem rH {p:Int}:∀{rs ss:!Rn},pm (rs++ss) p=(pm rs p).or (pm ss p)
 |[],ss=>by rw[List.nil_append];rfl
 |r::rs,ss=>by
  change (if r.f<=p/\p < RC r then some (r.r,tf r p) else pm (rs++ss) p)=(if r.f<=p/\p < RC r then some (r.r,tf r p) else pm rs p).or (pm ss p);by_cases c:r.f<=p/\p < RC r
  .rw[jA c,jA c];rfl
  .rw[fA c,fA c];show rH
theorem aP {r:Rn}:tf r r.f=r.t:=by
 unfold tf;cases r.t with
 |none=>rfl
 |some t=>simp
theorem LU {r:Rn} {p q:Int} {m x:Int}:tf (p,m,x,tf r p) q=tf r q:=by
 unfold tf;cases r.t with
 |none=>rfl
 |some t=>simp;omega
theorem N5:∀{rs ss:!Rn},YC rs->YC ss->ZD rs->ZD ss->(∀p,pm rs p=pm ss p)->rs=ss
 |[],[],_,_,_,_,_=>rfl
 |[],b::ss,_,o2,_,_,h=>by
  let hb:=o2.2 b aA;have:=h b.f;rw[zK o2 aA (DB _) (by unfold RC;omega)] at this;cases this
 |a::rs,[],o1,_,_,_,h=>by
  let hb:=o1.2 a aA;have:=h a.f;rw[zK o1 aA (DB _) (by unfold RC;omega)] at this;cases this
 |a::rs,b::ss,o1,o2,l1,l2,h=>by
  let pa:=o1.2 a aA;let pb':=o2.2 b aA;let ha:=zK o1 (p:=a.f) aA (DB _) (by unfold RC;omega);let hb:=zK o2 (p:=b.f) aA (DB _) (by unfold RC;omega);let first:∀{x y:Rn} {xs ys:!Rn},YC (x::xs)->YC (y::ys)->(∀p,pm (x::xs) p=pm (y::ys) p)->¬x.f < y.f:=by
   intro x y xs ys ox oy hh hlt;let px:=ox.2 x aA;let e1:=zK ox (p:=x.f) aA (DB _) (by unfold RC;omega);rw[hh,kM (λr hr=>by
    let rfl||hr:=uA.mp hr
    .show hlt
    .have:=oy.head r hr;have:=oy.2 y aA;unfold RC at *; omega)] at e1
   cases e1
  let ef:a.f=b.f:=by
   let h1:=first o1 o2 h
   let h2:=first o2 o1 λp=>(h p).symm
   omega
  let e0:=h a.f;rw[ha,ef,hb] at e0;let e1:=rA e0;let er:a.r=b.r:=congrArg Prod.fst e1;let et:a.t=b.t:=by
   have:=congrArg Prod.snd e1;simp only at this;rw[<-ef,aP,ef,aP] at this;show this
  let etf:∀p,tf a p=tf b p:=λp=>by unfold tf;rw[et,ef]
  let nlt:∀{x y:Rn} {xs ys:!Rn},YC (x::xs)->YC (y::ys)->ZD (x::xs)->(∀p,pm (x::xs) p=pm (y::ys) p)->x.f=y.f->x.r=y.r->(∀p,tf x p=tf y p)->¬RC x < RC y:=by
   intro x y xs ys ox oy lx hh efx erx etx hlt;let px:=ox.2 x aA;let e1:=zK oy (p:=RC x) aA (by unfold RC at *; omega) hlt;rw[<-hh] at e1;let(s,hs,h1,h2,h3):=u5 e1;let rfl||hs:=uA.mp hs
   .omega
   .cases xs with
    |nil=>cases hs
    |cons z zs=>
     let g:=lx.1;let hz:=ox.head z aA;let rfl||hs:=uA.mp hs
     .let hsf:RC x=s.f:=⋯;unfold go at g;rw[pA hsf] at g;let h4:=Prod.mk.inj h3;rw[pA (show x.r=s.r by rw[erx,h4.1])] at g;rw[pA (show tf x s.f=s.t by rw[etx,<-hsf,h4.2,hsf,aP])] at g;cases g
     .have:=ox.tail.head s hs;have:=ox.2 z (by simp);unfold RC at *;omega
  let ee:RC a=RC b:=by
   let h1:=nlt o1 o2 l1 h ef er etf;let h2:=nlt o2 o1 l2 (λp=>(h p).symm) ef.symm er.symm λp=>(etf p).symm;omega
  let eab:a=b:=by
   cases a;cases b;simp only[RC] at *;simp only[Rn.mk.injEq];show(ef,⋯,er,et)
  subst eab;show congrArg (a::·) (N5 o1.tail o2.tail l1.tail l2.tail λp=>?_);by_cases c:p < RC a
  .rw[kM λr hr=>by have:=o1.head r hr;omega,kM λr hr=>by have:=o2.head r hr;omega]
  .have:=h p;unfold pm at this;rw[fA ⋯,fA ⋯] at this;show this
def WQ (a b:Rn):Prop:=a.f=b.f/\a.r=b.r/\a.t=b.t
def MU (a b:Rn):Prop:=RC a=RC b/\a.r=b.r/\∀p,tf a p=tf b p
theorem NU {l a b:Rn} (h:WQ a b):go l a=go l b:=by unfold go;rw[h.1,h.2.1,h.2.2]
theorem AK {l a b:Rn} (h:MU a b):go a l=go b l:=by unfold go;rw[h.1,h.2.1,h.2.2]
theorem XQ:∀{xs ys:!Rn},ZD xs->ZD ys->(∀a b,xs.getLast?>a->ys.head?>b->go a b=false)->ZD (xs++ys)
 |[],ys,_,h,_=>h
 |[a],[],h,_,_=>h
 |[a],b::ys,_,h,g=>⟨g a b rfl rfl,h⟩
 |a::b::xs,ys,h,h2,g=>⟨h.1,XQ (xs:=b::xs) h.2 h2 λx y e1 e2=>g x y (by rw[List.getLast?_cons_cons];show e1) e2⟩
theorem O5:∀{xs ys:!Rn},ZD (xs++ys)->ZD xs
 |[],_,_=>True.intro
 |[a],_,_=>True.intro
 |a::b::xs,ys,h=>⟨h.1,O5 (xs:=b::xs) (ys:=ys) h.2⟩
theorem YQ:∀{xs ys:!Rn},ZD (xs++ys)->ZD ys
 |[],_,h=>h
 |a::xs,ys,h=>YQ (xs:=xs) (ZD.tail (r:=a) h)
theorem OU:∀{xs ys:!Rn} {a b:Rn},ZD (xs++ys)->xs.getLast?>a->ys.head?>b->go a b=false
 |[],_,_,_,_,h,_=>by cases h
 |[x],[],_,_,_,_,h=>by cases h
 |[x],y::ys,a,b,h,h1,h2=>by
  cases h1;cases h2;show h.1
 |x::z::xs,ys,a,b,h,h1,h2=>OU (xs:=z::xs) h.2 (by rw[List.getLast?_cons_cons] at h1;show h1) h2
theorem P5:∀{xs:!Rn} {a b:Rn},WQ a b->ZD (xs++[b])->ZD (xs++[a])
 |[],_,_,_,_=>True.intro
 |[x],a,b,h,l=>⟨by rw[NU h];show l.1,True.intro⟩
 |x::z::xs,a,b,h,l=>⟨l.1,P5 (xs:=z::xs) h l.2⟩
theorem GN {xs ys:!Rn} (h1:YC xs) (h2:YC ys) (h:∀x∈xs,∀D∈ys,RC x<=D.f):YC (xs++ys):=
 ⟨List.pairwise_append.mpr (h1.1,h2.1,h),λr q=>(kA.mp q).elim (h1.2 r) (h2.2 r)⟩
theorem bP {xs ys:!Rn} (h:YC (xs++ys)):YC xs:=⟨(List.pairwise_append.mp h.1).1,λr q=>h.2 r (EA _ q)⟩
theorem gJ {xs ys:!Rn} (h:YC (xs++ys)):YC ys:=⟨(List.pairwise_append.mp h.1).2.1,λr q=>h.2 r (vA _ q)⟩
theorem lM {xs ys:!Rn} (h:YC (xs++ys)):∀x∈xs,∀y∈ys,RC x<=y.f:=(List.pairwise_append.mp h.1).2.2
theorem ZQ {r:Rn} (h:0 < r.m):YC [r]:=⟨by simp,λx q=>by rw[bA.mp q];show h⟩
structure Jn (c acc:!Rn):Prop where
 ord:YC acc
 lst:ZD acc
 pg:∀p,pm acc p=pm c p
 hd:∀b,c.head?>b->∃a,acc.head?>a/\WQ a b
 ls:∀b,c.getLast?>b->∃a,acc.getLast?>a/\MU a b
 lo:∀z,(∀y∈c,z<=y.f)->∀x∈acc,z<=x.f
 hi:∀z,(∀y∈c,RC y<=z)->∀x∈acc,RC x<=z
 no:c=[]->acc=[]
theorem aR {α:Type}:∀{l:!α} {a:α},l.getLast?>a->∃i,l=i++[a]
 |[],_,h=>by cases h
 |[x],a,h=>⟨[],by cases h;rfl⟩
 |x::y::l,a,h=>by
  rw[List.getLast?_cons_cons] at h;let(i,e):=aR h;show⟨x::i,by rw[e];rfl⟩
theorem Jn.step {c acc:!Rn} {r:Rn} (D:Jn c acc) (o:YC (c++[r])):Jn (c++[r]) (zE acc r):=by
 let a5:0 < r.m:=o.2 r (vA _ aA);let a2:∀F∈c,RC F<=r.f:=λF J=>lM o F J r aA;rcases hc:c.getLast? with _|a6
 .have:c=[]:=List.getLast?_eq_none_iff.mp hc;subst this;have:=D.no rfl;subst this;show(ZQ a5,True.intro,λο=>rfl,λb h=>(r,rfl,by cases h;show(rfl,rfl,rfl)),λb h=>(r,rfl,by cases h;show(rfl,rfl,λο=>rfl)),λL h=>h,λL h=>h,λh=>by cases h)
 .let(l,a4,ah):=D.ls a6 hc;let(i,rfl):=aR a4;let a8:c≠[]:=λe=>by rw[e] at hc;cases hc
  let ad:RC l<=r.f:=D.hi r.f a2 l (by simp);let a9:∀x∈i,RC x<=l.f:=λx q=>lM D.ord x q l aA;let ac:0 < l.m:=D.ord.2 l (by simp);let a3:∀{b:Rn} {x:!Rn},(c++x).head?>b->c.head?>b:=λ{b x} h=>by
   cases c with
   |nil=>show absurd rfl a8
   |cons F c=>show h
  unfold zE;rw[a4];change Jn (c++[r]) (if go l r=true then (i++[l]).dropLast++[(l.f,l.m+r.m,l.r,l.t)] else (i++[l])++[r]);cases g:go l r with
  |true=>
   rw[jA rfl,List.dropLast_concat];unfold go at g;simp only[MA,ZA] at g;let((ab,a0),a1):=g;let Z:∀p,tf r p=tf l p:=λp=>by
    unfold tf at a1 ⊢;rw[<-a1];cases l.t with
    |none=>rfl
    |some t=>simp;omega
   let a7:∀p,tf ((l.f,l.m+r.m,l.r,l.t):Rn) p=tf l p:=λp=>rfl;show(?_,?_,?_,?_,?_,?_,?_,?_)
   .show GN (bP D.ord) (ZQ (by change 0 < l.m+r.m;omega)) λx q F J=>?_;rw[bA.mp J];show a9 x q
   .show P5 (b:=l) (rfl,rfl,rfl) D.lst
   .intro p;rw[rH,rH,<-D.pg p,rH];cases pm i p with
    |some x=>rfl
    |none=>
     change (if l.f<=p/\p < l.f+(l.m+r.m) then some (l.r,tf l p) else none)=((if l.f<=p/\p < RC l then some (l.r,tf l p) else none).or (if r.f<=p/\p < RC r then some (r.r,tf r p) else none));unfold RC at *;by_cases W:l.f<=p/\p < l.f+l.m
     .rw[jA W,jA ⋯];rfl
     .rw[fA W];by_cases Y:r.f<=p/\p < r.f+r.m
      .rw[jA Y,jA ⋯,Z,a0];rfl
      .rw[fA Y,fA ⋯];rfl
   .intro b N;let(a,O,U):=D.hd b (a3 N);cases i with
    |nil=>
     cases O;show(_,rfl,U.1,U.2.1,U.2.2)
    |cons x i=>show(a,O,U)
   .intro b N;rw[AB] at N;cases N;show((l.f,l.m+r.m,l.r,l.t),by rw[AB],by change l.f+(l.m+r.m)=RC r;unfold RC at *; omega,a0,λp=>(a7 p).trans (Z p).symm)
   .intro L hz x q;let V:∀F∈c,L<=F.f:=λF J=>hz F (EA _ J);let q||q:=kA.mp q
    .show D.lo L V x (EA _ q)
    .rw[bA.mp q];show D.lo L V l (by simp)
   .intro L hz x q;let V:∀F∈c,RC F<=L:=λF J=>hz F (EA _ J);let q||q:=kA.mp q
    .show D.hi L V x (EA _ q)
    .rw[bA.mp q];have:=hz r (by simp);change l.f+(l.m+r.m)<=L;unfold RC at *;omega
   .intro h;simp at h
  |false=>
   rw[fA AA];show(?_,?_,?_,?_,?_,?_,?_,?_)
   .show GN D.ord (ZQ a5) λx q F J=>?_;rw[bA.mp J];show D.hi r.f a2 x q
   .show XQ D.lst True.intro λa b O N=>?_;rw[AB] at O;cases O;cases N;show g
   .intro p;rw[rH,rH (rs:=c),D.pg p]
   .intro b N;let(a,O,U):=D.hd b (a3 N);show(a,?_,U);rw[List.head?_append,O];rfl
   .intro b N;rw[AB] at N;cases N;show(_,by rw[AB],rfl,rfl,λο=>rfl)
   .intro L hz x q;let q||q:=kA.mp q
    .show D.lo L (λF J=>hz F (EA _ J)) x q
    .show hz x (vA _ q)
   .intro L hz x q;let q||q:=kA.mp q
    .show D.hi L (λF J=>hz F (EA _ J)) x q
    .show hz x (vA _ q)
   .intro h;simp at h
theorem Jn.fold:∀{rs c acc:!Rn},Jn c acc->YC (c++rs)->Jn (c++rs) (rs.foldl zE acc)
 |[],c,acc,J,_=>by rw[uB];show J
 |r::rs,c,acc,J,o=>by
  let e:c++r::rs=(c++[r])++rs:=by simp
  rw[e] at o ⊢;show Jn.fold (J.step (bP o)) o
theorem cP {rs:!Rn} (o:YC rs):Jn rs (jn rs):=by
 have:=Jn.fold (rs:=rs) (c:=[]) (acc:=[]) (⟨by simp,λο h=>by simp at h⟩,True.intro,λο=>rfl,λο h=>by simp at h,λο h=>by simp at h,λο ο ο h=>by simp at h,λο ο ο h=>by simp at h,λο=>rfl) o;show this
theorem PU {rs:!Rn} (o:YC rs) (p:Int):∃A R,rs=A++R/\pb rs p=A.length/\(∀x∈A,RC x<=p)/\(∀x∈R,p < RC x):=by
 show(rs.takeWhile λr=>decide (RC r<=p),rs.dropWhile λr=>decide (RC r<=p),(List.takeWhile_append_dropWhile).symm,rfl,λx q=>?_,λx q=>?_)
 .induction rs with
  |nil=>cases q
  |cons F rs D=>
   rw[List.takeWhile_cons] at q;by_cases c:RC F<=p
   .rw[pA c] at q;simp only[yC] at q;let rfl||q:=uA.mp q
    .show c
    .show D o.tail q
   .rw[DA c] at q;simp at q
 .induction rs with
  |nil=>cases q
  |cons F rs D=>
   rw[List.dropWhile_cons] at q;by_cases c:RC F<=p
   .rw[pA c] at q;simp only[yC] at q;show D o.tail q
   .rw[DA c] at q;simp only[XA,HB] at q;let rfl||q:=uA.mp q
    .omega
    .let h1:=o.head x q;let h2:=o.2 x (qA _ q);unfold RC at *;omega
theorem Q5 {rs:!Rn} (o:YC rs) {p q:Int} (h:p<=q):∃A M R,rs=A++M++R/\pb rs p=A.length/\pb rs q=A.length+M.length/\(∀x∈A,RC x<=p)/\(∀x∈M,p < RC x/\RC x<=q)/\(∀x∈R,q < RC x):=by
 let(A,R1,D,h1,h2,N):=PU o p;let(M,R,J,L,O,U):=PU (rs:=R1) (by rw[D] at o;show gJ o) q;show(A,M,R,by rw[D,J,UA],h1,?_,h2,λx F=>⟨N x (by rw[J];show EA _ F),O x F⟩,U);have:pb rs q=A.length+pb R1 q:=by
  rw[D];clear D h1 J L o
  induction A with
  |nil=>simp
  |cons W A V=>
   let Y:=h2 W aA;unfold pb at *;rw[List.cons_append,List.takeWhile_cons,pA ⋯];simp only[yC,dB];rw[V λx F=>h2 x (qA _ F)];omega
 rw[this,L]
theorem R5 {A M R:!Rn} {n m:Nat} (D:n=A.length) (q:m=A.length+M.length+1):NE (A++M++R) n m=M++R.take 1:=by
 unfold NE;rw[D,q,UA,List.take_append,kC ⋯,List.drop_append,List.drop_length,Nat.sub_self,List.drop_zero,List.nil_append,
  List.take_append,kC ⋯]
 congr 2;omega
theorem wf {A M R:!Rn} {m:Nat} (q:m=A.length+M.length+1):(A++M++R).drop m=R.drop 1:=by
 rw[q,<-xA,List.drop_append,List.drop_eq_nil_of_le ⋯,List.nil_append];congr 1;omega
theorem QU {r:Rn} {a:Int} (h1:a<=RC r):GE r r.f a=(r.f,a - r.f,r.r,r.t):=by
 unfold GE;rw[Int.max_self,Int.min_eq_right h1,aP]
theorem S5 {a p:Int}:∀{N:!Rn},(∀x∈N,a<=RC x)->pm ((N.filter λr=>decide (r.f < a)).map λr=>GE r r.f a) p=if p < a then pm N p else none
 |[],_=>by simp[pm]
 |x::N,h=>by
  let ih:=S5 (p:=p) (N:=N) λy hy=>h y (qA _ hy);let hx:=h x aA;rw[vB];by_cases c:x.f < a
  .rw[pA c];simp only[yC,BA];rw[QU hx];change (if x.f<=p/\p < x.f+(a - x.f) then some (x.r,tf (x.f,a - x.f,x.r,x.t) p) else pm _ p)=if p < a then (if x.f<=p/\p < RC x then some (x.r,tf x p) else pm N p) else none
   rw[ih];let et:tf (x.f,a - x.f,x.r,x.t) p=tf x p:=rfl;rw[et];by_cases c2:p < a
   .rw[jA c2,jA c2];by_cases c3:x.f<=p
    .rw[jA ⋯,jA ⋯]
    .rw[fA ⋯,fA ⋯]
   .rw[fA c2,fA c2,fA ⋯]
  .rw[DA c];simp only[XA,HB];rw[ih];change _=if p < a then (if x.f<=p/\p < RC x then some (x.r,tf x p) else pm N p) else none
   by_cases c2:p < a
   .rw[jA c2,jA c2,fA ⋯]
   .rw[fA c2,fA c2]
theorem T5 {e p:Int}:∀{N:!Rn},pm ((N.filter λr=>decide (GT.gt (RC r) e)).map λr=>GE r e (RC r)) p=if e<=p then pm N p else none
 |[]=>by simp[pm]
 |x::N=>by
  let ih:=T5 (e:=e) (p:=p) (N:=N);rw[vB];by_cases c:GT.gt (RC x) e
  .rw[pA c];simp only[yC,BA];change (if max x.f e<=p/\p < max x.f e+(min (RC x) (RC x) - max x.f e) then some (x.r,tf (_,_,_,tf x (max x.f e)) p) else pm _ p)=if e<=p then (if x.f<=p/\p < RC x then some (x.r,tf x p) else pm N p) else none
   rw[ih,LU,Int.min_self];by_cases c2:e<=p
   .rw[jA c2,jA c2];by_cases c3:x.f<=p/\p < RC x
    .rw[jA c3,jA ⋯]
    .rw[fA c3,fA ⋯]
   .rw[fA c2,fA c2,fA ⋯]
  .rw[DA c];simp only[XA,HB];rw[ih];change _=if e<=p then (if x.f<=p/\p < RC x then some (x.r,tf x p) else pm N p) else none
   by_cases c2:e<=p
   .rw[jA c2,jA c2,fA ⋯]
   .rw[fA c2,fA c2]
theorem RU {N:!Rn} {q:Rn->Bool} {g:Rn->Rn} (o:YC N) (h1:∀x∈N,q x=true->0 < (g x).m) (h2:∀x∈N,∀F∈N,q x=true->q F=true->RC x<=F.f->RC (g x)<=(g F).f):YC ((N.filter q).map g):=by
 show⟨?_,λr O=>?_⟩
 .rw[List.pairwise_map];let L:((N.filter q)).Pairwise λa b=>RC a<=b.f:=o.1.filter q;show List.Pairwise.imp_of_mem (λ{x F} D J h=>?_) L;let D:=HA.mp D;let J:=HA.mp J;show h2 x D.1 F J.1 D.2 J.2 h
 .let(x,D,rfl):=cA.mp O;let D:=HA.mp D;show h1 x D.1 D.2
theorem mM {rs U:!Rn} {a n:Int} (o:YC rs) (l:ZD rs) (cn:0 < n) (c0:YC U) (a0:∀x∈U,a<=x.f/\RC x<=a+n):
  YC (AE rs a n U)/\ZD (AE rs a n U)/\∀p,pm (AE rs a n U) p=if a<=p/\p < a+n then pm U p else pm rs p:=by
 let(A,M,R,e,h1,h2,ac,be,ao):=Q5 o (p:=a - 1) (q:=a+n) ⋯;let b2:NE rs (pb rs (a - 1)) (pb rs (a+n)+1)=M++R.take 1:=by
  rw[h1,h2]
  conv=>lhs;rw[e]
  show R5 rfl rfl
 let b1:rs.drop (pb rs (a+n)+1)=R.drop 1:=by
  rw[h2]
  conv=>lhs;rw[e]
  show wf rfl
 let b0:rs.take (pb rs (a - 1))=A:=by rw[h1];conv=>lhs;rw[e,UA,List.take_left]
 unfold AE;(try simp only[]);rw[b2,b1,b0];let ap:R=R.take 1++R.drop 1:=(List.take_append_drop 1 R).symm;let o3:YC (A++((M++R.take 1)++R.drop 1)):=by rw[UA M,<-ap,<-UA,<-e];show o
 let a9:ZD (A++((M++R.take 1)++R.drop 1)):=by rw[UA M,<-ap,<-UA,<-e];show l
 let a3:∀x∈M++R.take 1,a<=RC x:=λx F=>by
  let F||F:=kA.mp F
  .have:=be x F;omega
  .have:=ao x (List.mem_of_mem_take F);omega
 let ad:∀x∈R.drop 1,a+n < x.f:=λx F=>by
  cases R with
  |nil=>cases F
  |cons J B=>
   let b3:RC J<=x.f:=(gJ (gJ o3)) |> λο=>by
    let ar:=lM (gJ o3) J (by simp) x F;show ar
   have:=ao J aA;omega
 let hz:R.drop 1≠[]->∃J,(M++R.take 1).getLast?>J/\a+n < RC J:=λh=>by
  cases R with
  |nil=>show absurd rfl h
  |cons J B=>show(J,by simp,ao J aA)
 let a7:YC (M++R.take 1):=bP (gJ o3);let br:YC (R.drop 1):=gJ (gJ o3);let bp:YC A:=bP o3;let ep:∀p,pm rs p=(pm A p).or ((pm (M++R.take 1) p).or (pm (R.drop 1) p)):=λp=>by
  rw[<-rH,<-rH,UA M,<-ap,<-UA,<-e]
 generalize cl:M++R.take 1=N at *;generalize R.drop 1=B at *;let bw:YC ((N.filter λr=>decide (r.f < a)).map λr=>GE r r.f a):=RU a7 (λx F c=>by
   let c:x.f < a:=by simpa using c
   rw[QU (a3 x F)];change 0 < a - x.f;omega) λx F D L ab Z h=>by
  let Z:D.f < a:=by simpa using Z
  have:=a3 x F;omega
 let bz:YC ((N.filter λr=>decide (GT.gt (RC r) (a+n))).map λr=>GE r (a+n) (RC r)):=RU a7 (λx F c=>by
   let c:GT.gt (RC x) (a+n):=by simpa using c
   have:=a7.2 x F;change 0 < min (RC x) (RC x) - max x.f (a+n);rw[Int.min_self];unfold RC at *;omega) λx F D L ab Z h=>by
  let ab:GT.gt (RC x) (a+n):=by simpa using ab
  have:=a7.2 x F;change max x.f (a+n)+(min (RC x) (RC x) - max x.f (a+n))<=max D.f (a+n);rw[Int.min_self];omega
 let a2:∀x∈(N.filter λr=>decide (r.f < a)).map λr=>GE r r.f a,RC x=a/\∃D∈N,D.f < a/\WQ x D:=λx F=>by
  let(D,L,rfl):=cA.mp F;let L:=HA.mp L;let c:D.f < a:=by simpa using L.2
  rw[QU (a3 D L.1)];show(by change D.f+(a - D.f)=a;omega,D,L.1,c,rfl,rfl,rfl)
 let a8:∀x∈(N.filter λr=>decide (GT.gt (RC r) (a+n))).map λr=>GE r (a+n) (RC r),a+n<=x.f/\∃D∈N,RC x=RC D:=λx F=>by
  let(D,L,rfl):=cA.mp F;let L:=HA.mp L;show(by change a+n<=max D.f (a+n);omega,D,L.1,?_);change max D.f (a+n)+(min (RC D) (RC D) - max D.f (a+n))=RC D;rw[Int.min_self];omega
 generalize b4:(N.filter λr=>decide (r.f < a)).map (λr=>GE r r.f a)=ah at *;generalize au:(N.filter λr=>decide (GT.gt (RC r) (a+n))).map (λr=>GE r (a+n) (RC r))=bh at *;let bt:YC (ah++U++bh):=by
  show GN (GN bw c0 λx F D L=>?_) bz λx F D L=>?_
  .have:=(a2 x F).1;have:=(a0 D L).1;omega
  .let b3:=(a8 D L).1;let F||F:=kA.mp F
   .have:=(a2 x F).1;omega
   .have:=(a0 x F).2;omega
 let V:=cP bt;let bi:∀x∈jn (ah++U++bh),∀D∈B,RC x<=D.f:=λx F D L=>by
  show V.hi D.f (λw O=>?_) x F;let O||O:=kA.mp O
  .let O||O:=kA.mp O
   .have:=(a2 w O).1;have:=ad D L;omega
   .have:=(a0 w O).2;have:=ad D L;omega
  .let(J,a1,a6):=(a8 w O).2;rw[a6];show lM (gJ o3) J a1 D L
 let b5:∀x∈A,∀D∈jn (ah++U++bh),RC x<=D.f:=λx F D L=>by
  show V.lo (RC x) (λw O=>?_) D L;let cq:=ac x F;let O||O:=kA.mp O
  .let O||O:=kA.mp O
   .let(J,a1,_,a6):=(a2 w O).2;rw[a6.1];show lM o3 x F J (EA _ a1)
   .have:=(a0 w O).1;omega
  .have:=(a8 w O).1;omega
 show(?_,?_,?_)
 .show GN (GN bp V.ord b5) br λx F D L=>?_;let F||F:=kA.mp F
  .show lM o3 x F D (vA _ L)
  .show bi x F D L
 .let bm:ZD A:=O5 a9;let bo:ZD B:=YQ (YQ a9);let bn:ZD (A++jn (ah++U++bh)):=XQ bm V.lst λu v a5 Y=>by
   cases W:(ah++U++bh).head? with
   |none=>
    let W:=List.head?_eq_none_iff.mp W;rw[W,show jn []=[] from rfl] at Y;cases Y
   |some w=>
    let(cs,av,c2):=V.hd w W;rw[Y] at av;cases av;rw[NU c2];let cp:=ac u (List.mem_of_getLast? a5);by_cases ax:a<=w.f
    .unfold go;rw[DA ⋯];rfl
    .cases ah with
     |nil=>
      exfalso;let O:w∈U++bh:=by
       rw[List.nil_append] at W;show List.mem_of_head? W
      let O||O:=kA.mp O
      .show ax (a0 w O).1
      .have:=(a8 w O).1;omega
     |cons aw ch=>
      obtain rfl:aw=w:=by simpa using W
      let(D,L,cr,c3):=(a2 aw aA).2;rw[NU c3];show OU a9 a5 ?_;rw[List.head?_append];cases N with
      |nil=>cases L
      |cons c9 N=>
       let rfl||L:=uA.mp L
       .rfl
       .let ar:=a7.head D L;let ck:=a3 c9 aA;omega
  show XQ bn bo λu v a5 Y=>?_;let bb:B≠[]:=λJ=>by rw[J] at Y;cases Y
  let(J,a1,a6):=hz bb;let(cd,rfl):=aR a1;let bl:(ah++U++bh).getLast?>(GE J (a+n) (RC J)):=by
   rw[<-au,JB,nA];have:([J].filter λr=>decide (GT.gt (RC r) (a+n)))=[J]:=by rw[vB,pA a6];rfl
   rw[this,<-UA,BA,IB,AB]
  let(c4,aq,c1):=V.ls _ bl;let co:jn (ah++U++bh)≠[]:=λJ=>by rw[J] at aq;cases aq
  rw[List.getLast?_append,aq] at a5;obtain rfl:c4=u:=by simpa using a5
  rw[AK c1];let sz:MU (GE J (a+n) (RC J)) J:=by
   show(?_,rfl,λp=>?_)
   .change max J.f (a+n)+(min (RC J) (RC J) - max J.f (a+n))=RC J;rw[Int.min_self];omega
   .show LU
  rw[AK sz];show OU (YQ a9) a1 Y
 .intro p;rw[rH,rH,V.pg,rH,rH,ep p];let ay:pm ah p=if p < a then pm N p else none:=by rw[<-b4];show S5 a3
  let az:pm bh p=if a+n<=p then pm N p else none:=by rw[<-au];show T5
  rw[ay,az];by_cases c:a<=p/\p < a+n
  .rw[jA c,fA ⋯,fA ⋯,KU (rs:=A) λr a4=>by have:=ac r a4;omega,kM (rs:=B) λr a4=>by have:=ad r a4;omega];cases pm U p<;>rfl
  .rw[fA c,VQ (rs:=U) λr a4 J=>by have:=a0 r a4;omega];by_cases Z:p < a
   .rw[jA Z,fA ⋯];cases pm A p<;>cases pm N p<;>rfl
   .rw[fA Z,jA ⋯];cases pm A p<;>cases pm N p<;>rfl
theorem U5 {r:Rn} {a e:Int} (h1:a < RC r) (h2:r.f < e) (J:a < e) (h0:0 < r.m):a<=(GE r a e).f/\RC (GE r a e)<=e/\0 < (GE r a e).m:=by
 let q:(GE r a e).f=max r.f a:=rfl;let D:(GE r a e).m=min (RC r) e - max r.f a:=rfl;let F:RC (GE r a e)=max r.f a+(min (RC r) e - max r.f a):=rfl;rw[F,D,q];unfold RC at *;omega
theorem BK {a e p:Int}:∀{N:!Rn},(∀x∈N,0 < x.m)->pm ((N.filter λr=>decide (r.f < e)).map λr=>GE r a e) p=if a<=p/\p < e then pm N p else none
 |[],_=>by simp[pm]
 |x::N,h=>by
  let ih:=BK (a:=a) (e:=e) (p:=p) (N:=N) λy hy=>h y (qA _ hy);let hx:=h x aA;rw[vB];by_cases c:x.f < e
  .rw[pA c];simp only[yC,BA];change (if max x.f a<=p/\p < max x.f a+(min (RC x) e - max x.f a) then some (x.r,tf (_,_,_,tf x (max x.f a)) p) else pm _ p)=if a<=p/\p < e then (if x.f<=p/\p < RC x then some (x.r,tf x p) else pm N p) else none
   rw[ih,LU];by_cases c2:a<=p/\p < e
   .rw[jA c2,jA c2];by_cases c3:x.f<=p/\p < RC x
    .rw[jA c3,jA ⋯]
    .rw[fA c3,fA ⋯]
   .rw[fA c2,fA c2,fA ⋯]
  .rw[DA c];simp only[XA,HB];rw[ih];change _=if a<=p/\p < e then (if x.f<=p/\p < RC x then some (x.r,tf x p) else pm N p) else none
   by_cases c2:a<=p/\p < e
   .rw[jA c2,jA c2,fA ⋯]
   .rw[fA c2,fA c2]
theorem SU {rs:!Rn} {a n:Int} (o:YC rs) (a6:0 < n):YC (ZE rs a n)/\(∀x∈ZE rs a n,a<=x.f/\RC x<=a+n)/\∀p,pm (ZE rs a n) p=if a<=p/\p < a+n then pm rs p else none:=by
 let(A,M,R,e,h1,h2,a0,a2,V):=Q5 o (p:=a) (q:=a+n) ⋯;let Z:NE rs (pb rs a) (pb rs (a+n)+1)=M++R.take 1:=by
  rw[h1,h2]
  conv=>lhs;rw[e]
  show R5 rfl rfl
 unfold ZE;rw[Z];let W:R=R.take 1++R.drop 1:=(List.take_append_drop 1 R).symm;let o3:YC (A++((M++R.take 1)++R.drop 1)):=by rw[UA M,<-W,<-UA,<-e];show o
 let U:∀x∈M++R.take 1,a < RC x:=λx D=>by
  let D||D:=kA.mp D
  .show (a2 x D).1
  .have:=V x (List.mem_of_mem_take D);omega
 let a1:∀x∈R.drop 1,a+n < x.f:=λx D=>by
  cases R with
  |nil=>cases D
  |cons Y B=>
   let a5:=lM (gJ o3) Y (by simp) x D;have:=V Y aA;omega
 let J:YC (M++R.take 1):=bP (gJ o3);let ep:∀p,pm rs p=(pm A p).or ((pm (M++R.take 1) p).or (pm (R.drop 1) p)):=λp=>by
  rw[<-rH,<-rH,UA M,<-W,<-UA,<-e]
 generalize M++R.take 1=N at *;generalize R.drop 1=B at *;show(RU J (λx D c=>?_) (λx D L F a3 a4 h=>?_),λx D=>?_,λp=>?_)
 .show (U5 (U x D) (by simpa using c) ⋯ (J.2 x D)).2.2
 .change max x.f a+(min (RC x) (a+n) - max x.f a)<=max L.f a;omega
 .let(L,F,rfl):=cA.mp D;let F:=HA.mp F;have:=U5 (U L F.1) (by simpa using F.2) (show a < a+n by omega) (J.2 L F.1);show⟨this.1,this.2.1⟩
 .rw[BK λx D=>J.2 x D,ep p];by_cases c:a<=p/\p < a+n
  .rw[jA c,jA c,KU (rs:=A) λr O=>by have:=a0 r O;omega,kM (rs:=B) λr O=>by have:=a1 r O;omega];cases pm N p<;>rfl
  .rw[fA c,fA c]
theorem V5:∀{L:!Rn} {a e:Int},YC L->a<=e->(∀x∈L,a<=x.f/\RC x<=e)->0<=(L.map (·.m)).sum/\(L.map (·.m)).sum<=e - a/\((L.map (·.m)).sum=e - a↔∀p,a<=p->p < e->pm L p≠none)
 |[],a,e,_,h,_=>by
  show(by simp,by simp;omega,?_);constructor
  .intro h1 p h2 h3;simp at h1;omega
  .intro h1;simp;let h2||h2:=(by omega:a < e\/e<=a)
   .show absurd rfl (h1 a (DB _) h2)
   .omega
 |x::L,a,e,o,h,hb=>by
  let hx:=hb x aA;let pos:=o.2 x aA;let ih:=V5 (L:=L) (a:=RC x) (e:=e) o.tail hx.2 λy hy=>⟨o.head y hy,(hb y (qA _ hy)).2⟩
  rw[BA,List.sum_cons];let ex:RC x=x.f+x.m:=rfl;show(⋯,⋯,?_);constructor
  .intro h1 p h2 h3;let h4:(L.map (·.m)).sum=e - RC x:=⋯;let h5:x.f=a:=⋯;change (if x.f<=p/\p < RC x then some (x.r,tf x p) else pm L p)≠none;by_cases c:p < RC x
   .rw[jA ⋯];show λz=>by cases z
   .rw[fA ⋯];show ih.2.2.mp h4 p ⋯ h3
  .intro h1;let h5:x.f=a:=by
    let h2||h2:=(by omega:a < x.f\/x.f<=a)
    .show absurd (kM (p:=a) (rs:=x::L) λr hr=>?_) (h1 a (DB _) ⋯);let rfl||hr:=uA.mp hr
     .show h2
     .have:=o.head r hr;omega
    .omega
   let h4:=ih.2.2.mpr λp h2 h3=>by
    have:=h1 p ⋯ h3;intro z;apply this;change (if x.f<=p/\p < RC x then some (x.r,tf x p) else pm L p)=none;rw[fA ⋯];show z
   omega
theorem xf {rs:!Rn} {a n:Int} (o:YC rs) (F:0 < n):((ZE rs a n).map (·.m)).sum=n↔∀p,a<=p->p < a+n->pm rs p≠none:=by
 let(h1,h2,D):=SU (a:=a) o F;have:=(V5 h1 (show a<=a+n by omega) h2).2.2;rw[show a+n - a=n by omega] at this;rw[this];show⟨λh p x q=>?_,λh p x q=>?_⟩
 .have:=h p x q;rw[D,jA ⟨x,q⟩] at this;show this
 .rw[D,jA ⟨x,q⟩];show h p x q
theorem yf {rs:!Rn} {a n:Int} (o:YC rs) (J:0 < n):ZE rs a n=[]↔∀p,a<=p->p < a+n->pm rs p=none:=by
 let(h1,h2,D):=SU (a:=a) o J;show⟨λh p x N=>?_,λh=>?_⟩
 .have:=D p;rw[h,jA ⟨x,N⟩] at this;show this.symm
 .cases e:ZE rs a n with
  |nil=>rfl
  |cons q L=>
   rw[e] at h1 h2 D;let hz:=h2 q aA;let U:=h1.2 q aA;let O:RC q=q.f+q.m:=rfl;let F:=zK h1 (p:=q.f) aA (DB _) ⋯;rw[D,jA ⋯,h q.f hz.1 ⋯] at F;cases F
theorem zf {rs:!Rn} {p:Int} (o:YC rs):(ZE rs p 1=[]/\pm rs p=none)\/∃x,ZE rs p 1=[x]/\pm rs p>(x.r,x.t):=by
 let(h1,h2,D):=SU (a:=p) o (show (0:Int) < 1 by decide);cases e:ZE rs p 1 with
 |nil=>
  show .inl ⟨rfl,?_⟩;have:=D p;rw[e,jA ⋯] at this;show this.symm
 |cons x L=>
  rw[e] at h1 h2 D;let W:=h2 x aA;let Y:=h1.2 x aA;let ex:RC x=x.f+x.m:=rfl;let F:L=[]:=by
   cases L with
   |nil=>rfl
   |cons q L=>
    let O:=h1.head q aA;let U:=h2 q (by simp);let V:=h1.2 q (by simp);let N:RC q=q.f+q.m:=rfl;omega
  subst F;show .inr (x,rfl,?_);have:=D p;rw[jA ⋯] at this;rw[<-this];let J:x.f=p:=⋯;change (if x.f<=p/\p < RC x then some (x.r,tf x p) else none)=_;rw[jA ⋯,<-J,aP]
theorem dP {rs:!Rn} {p:Int}:pb rs p<=rs.length:=by unfold pb;show (List.takeWhile_prefix _).length_le
theorem eP {rs:!Rn} (o:YC rs) {p:Int} {i:Nat} {x:Rn} (h:rs[i]?>x):i < pb rs p↔RC x<=p:=by
 let(A,R,e,h1,h2,q):=PU o p;rw[h1];rw[e] at h;constructor
 .intro hi;rw[xB hi] at h;show h2 x (VA h)
 .intro D;let hi||hi:=Nat.lt_or_ge i A.length
  .show hi
  .rw[jB hi] at h;have:=q x (VA h);omega
def ND (H:Hp) (v:V):Option (Int×Int)->Prop
 |none=>v=.non
 |some (b,k)=>∃a,v=.ref a/\H a>(.tup [.int b,.int k])
def tD (H:Hp) (v:V) (r:Rn):Prop:=∃a tv,v=.ref a/\H a>(.tup [.int r.f,.int r.m,.int r.r,tv])/\ND H tv r.t
theorem ND.same {H H':Hp} {v:V}:∀{t:Option (Int×Int)},ND H v t->JC H H'->ND H' v t
 |none,h,_=>h
 |some (b,k),⟨a,e,h⟩,s=>(a,e,s _ _ h)
theorem tD.same {H H':Hp} {v:V} {r:Rn} (h:tD H v r) (s:JC H H'):tD H' v r:=let ⟨a,tv,e,h1,h2⟩:=h;(a,tv,e,s _ _ h1,h2.same s)
theorem ND.same2 {H H':Hp} {a:Addr} {xs:!V} {o:HO} {v:V} (hx:H' a>(.lst xs)):∀{t:Option (Int×Int)},ND H' v t->ND (FC H' a o) v t
 |none,h=>h
 |some (b,k),⟨c,e,h⟩=>(c,e,by rw[VC (cD h hx λz=>nomatch z)];show h)
theorem tD.same2 {H H':Hp} {a:Addr} {xs:!V} {o:HO} {v:V} {r:Rn} (h:tD H' v r) (q:H' a>(.lst xs)) (_:JC H H'):tD (FC H' a o) v r:=
 let ⟨c,tv,e,h1,h2⟩:=h
 (c,tv,e,by rw[VC (cD h1 q λD=>nomatch D)];show h1,ND.same2 (H:=H) q h2)
abbrev MC (H:Hp):!V->!Rn->Prop:=Paired (tD H)
theorem MC.same {H H':Hp} {vs:!V} {rs:!Rn} (h:MC H vs rs) (s:JC H H'):MC H' vs rs:=Paired.mapP h λο ο q=>q.same s
theorem MC.same2 {H H':Hp} {a:Addr} {xs:!V} {o:HO} {vs:!V} {rs:!Rn} (h:MC H' vs rs) (D:H' a>(.lst xs)) (s:JC H H'):MC (FC H' a o) vs rs:=Paired.mapP h λο ο q=>q.same2 D s
theorem JI {α β:Type} {F:α->β->Prop}:∀{xs:!α} {ys:!β} {i:Nat} {x:α},Paired F xs ys->xs[i]?>x->∃y,ys[i]?>y/\F x y
 |_,_,_,_,.nil,e=>by simp at e
 |_,_,0,_,.cons r _,e=>by simp at e;subst e;show(_,rfl,r)
 |_,_,i+1,x,.cons _ t,e=>by
  let(u,h1,h2):=JI (i:=i) (x:=x) t (by simpa using e);show(u,by simpa using h1,h2)
theorem KI {α β:Type} {F:α->β->Prop}:∀{xs:!α} {ys:!β} {zs:!α} {ws:!β},Paired F xs ys->Paired F zs ws->Paired F (xs++zs) (ys++ws)
 |_,_,_,_,.nil,h=>h
 |_,_,_,_,.cons r t,h=>.cons r (KI t h)
theorem bR {α β:Type} {F:α->β->Prop}:∀{xs:!α} {ys:!β} (n:Nat),Paired F xs ys->Paired F (xs.take n) (ys.take n)
 |_,_,0,_=>.nil
 |_,_,_+1,.nil=>.nil
 |_,_,n+1,.cons r t=>.cons r (bR n t)
theorem cR {α β:Type} {F:α->β->Prop}:∀{xs:!α} {ys:!β} (n:Nat),Paired F xs ys->Paired F (xs.drop n) (ys.drop n)
 |_,_,0,h=>h
 |_,_,_+1,.nil=>.nil
 |_,_,n+1,.cons _ t=>cR n t
def HN (K:W.Frag):Sp:=λvs H Q ο=>∃v r,vs=[v]/\tD H v r/\Q (.int (RC r)) H
theorem fP (T:CD K mg A):pE P w K mg base "end_of" 1 ["run"] [] (HN K):=by
 show T.K2.have ae (λvs H Q E D=>?_) ?_
 .let(v,r,rfl,_):=D;rfl
 .intro f L J U s H vs Q E N D;let(v,r,rfl,(a,V,rfl,F,O),q):=D;show(_,(bD (PD (KD LF (WD vE (BC 0) NC (λο ο=>rfl)) (WD vE (BC 0) NC (λο ο=>rfl))))),?_);rfl';show(_,uD.of F,_,rfl,_,uD.of F,_,rfl,_,rfl,_,rfl,q)
def dR (K:W.Frag):Sp:=λvs H Q ο=>∃v r p,vs=[v,.int p]/\tD H v r/\∀u H',JC H H'->ND H' u (tf r p)->Q u H'
theorem TU (T:CD K mg A):pE P w K mg base "tie_from" 1 ["run","page"] [] (dR K):=by
 show T.J3.have d4 (λvs H Q E F=>?_) ?_
 .let(v,r,p,rfl,_):=F;rfl
 .intro f W V Z s H vs Q E Y F;let(v,r,p,rfl,(a,U,rfl,J,D),q):=F;show(_,(aD (SD (i:=2) d4.nd rfl (Or.inl rfl) (WD vE (BC 0) NC (λο ο=>rfl)))
   (aD (ME (yF gI (BC 2) CG (UC _)) (bD (PD CG)) OE)
   (bD (PD (dG (EC (WD vE (BC 2) NC (λο ο=>rfl)) (EC (KD dI (KD LF (WD vE (BC 2) NC (λο ο=>rfl)) (BC 1)) (WD vE (BC 0) NC (λο ο=>rfl))) IC))))))),?_)
  rfl';show(_,uD.of J,_,rfl,?_);cases e:r.t with
  |none=>
   rw[e] at D;let D:U=.non:=D;subst D;rw[jA rfl];show q _ _ iE ?_;unfold tf;rw[e]
   rfl
  |some t=>
   let(b,k):=t;rw[e] at D;let(c,rfl,L):=D;rw[fA nofun];rfl';show(_,uD.of L,_,rfl,_,uD.of L,_,rfl,_,rfl,_,uD.of J,_,rfl,_,rfl,λO N=>?_);show q _ _ (nE iE N) ?_;unfold tf;rw[e];show(O,rfl,jD)
def UU (K:W.Frag):Sp:=λvs H Q ο=>∃v r lo hi,vs=[v,.int lo,.int hi]/\tD H v r/\∀u H',JC H H'->tD H' u (GE r lo hi)->Q u H'
theorem W5 (T:CD K mg A):pE P w K mg base "part_of" 2 ["run","low","high"] [] (UU K):=by
 let V:=@fP P w K mg base A T;let W:=@TU P w K mg base A T;show T.Kq.have i4 (λvs H Q E F=>?_) ?_
 .let(v,r,lo,hi,rfl,_):=F;rfl
 .intro f a2 a0 a4 s H vs Q E O F;let(v,r,lo,hi,rfl,D,q):=F;let(a,a5,rfl,L,a3):=id D;show(_,(aD (SD (i:=3) i4.nd rfl (Or.inl rfl) (YF (Q9 rfl) rfl T.Nf PyProof.Rows.boot_max (EC (WD vE (BC 0) NC (λο ο=>rfl)) (EC (BC 1) IC))))
   (bD (PD (dG (EC (BC 3) (EC (KD dI (YF (R9 rfl) rfl T.Ng PyProof.Rows.boot_min (EC (XD V (-O) ZC (EC (BC 0) IC)) (EC (BC 2) IC))) (BC 3)) (EC (WD vE (BC 0) NC (λο ο=>rfl)) (EC (XD W (-O) ZC (EC (BC 0) (EC (BC 3) IC))) IC)))))))),?_)
  unfold HN dR;rfl';show(_,uD.of L,_,rfl,_,rfl,r,D,_,uD.of L,_,rfl,r,D,λu a1 Z U p N=>?_);let J:(if GT.gt lo r.f then lo else r.f)=max r.f lo:=by split<;>omega
  let Y:(if hi < RC r then hi else RC r)=min (RC r) hi:=by split<;>omega
  rw[J,Y];rw[J] at U;show q _ _ (nE Z N) (p,u,rfl,jD,?_);show U.same (nE iE N)
theorem Of {H:Hp} {u v:V} {F D:Option (Int×Int)} {Q:VK} (h1:ND H u F) (h2:ND H v D) (q:Q (.bl (decide (F=D))) H):FO K 4 u v H Q:=by
 cases F with
 |none=>
  cases D with
  |none=>show .inl (h1,h2,q)
  |some D=>
   let(b,k):=D;let(a,e,h2):=h2;show .inr (.inl (h1,(a,_,e,uD.of h2),q))
 |some F=>
  let(b,k):=F;let(a,e,h1):=h1;cases D with
  |none=>show .inr (.inr (.inl ((a,_,e,uD.of h1),h2,q)))
  |some D=>
   let(J,k2):=D;let(N,L,h2):=h2;subst e L;show .inr (.inr (.inr (true,MD [b,k],MD [J,k2],Z1 (ns:=[b,k]) (uD.of h1),Z1 (ns:=[J,k2]) (uD.of h2),j2 _ _,by rw[N2];decide,?_)));rw[O2];rw[show decide ([b,k]=[J,k2])=decide (some (b,k)>(J,k2)) from by rw[decide_eq_decide];simp];show q
def X5 (K:W.Frag):Sp:=λvs H Q ο=>∃v u r s,vs=[v,u]/\tD H v r/\tD H u s/\∀H',JC H H'->Q (.bl (go r s)) H'
theorem Rf (T:CD K mg A):pE P w K mg base "goes_on" 2 ["run","later"] [] (X5 K):=by
 let W:=@fP P w K mg base A T;let Y:=@TU P w K mg base A T;show T.Kr.have ce (λvs H Q E D=>?_) ?_
 .let(v,u,r,s,rfl,_):=D;rfl
 .intro f a6 a4 a8 s H vs Q E O D;let(v,u,r,s',rfl,N,Z,q):=D;let(a,a9,rfl,a0,a7):=id N;let(b,a3,rfl,L,a1):=id Z;show(_,(bD (PD (XI (PH fI (XD W (-O) ZC (EC (BC 0) IC)) (WD vE (BC 1) NC (λο ο=>rfl)) (UC _)) (XI (PH fI (WD vE (BC 0) NC (λο ο=>rfl)) (WD vE (BC 1) NC (λο ο=>rfl)) (UC _)) (gL (PH (RL (n:=4) (W1 O)) (XD Y (-O) ZC (EC (BC 0) (EC (WD vE (BC 1) NC (λο ο=>rfl)) IC))) (WD vE (BC 1) NC (λο ο=>rfl)) (UC _))))))),?_);unfold HN dR;rfl';show(r,N,_,uD.of L,.int s'.f,rfl,rfl,?_);by_cases F:RC r=s'.f
  .rw[jA (by rw[F])];show(_,uD.of a0,.int r.r,rfl,_,uD.of L,.int s'.r,rfl,rfl,?_);by_cases J:r.r=s'.r
   .rw[jA (by rw[J])];show(_,uD.of L,_,rfl,r,_,rfl,N,λu a5 U a2=>(_,uD.of (U _ _ L),a3,rfl,Of a2 (a1.same U) ?_));let e:go r s'=decide (tf r s'.f=s'.t):=by unfold go;rw[pA F,pA J,Bool.true_and,Bool.true_and]
    have:=q _ U;rw[e] at this;show this
   .rw[fA (λD=>J (V.int.inj D))];let e:go r s'=false:=by unfold go;rw[DA J,Bool.and_false,Bool.false_and]
    have:=q _ iE;rw[e] at this;show this
  .rw[fA (λD=>F (V.int.inj D))];let e:go r s'=false:=by unfold go;rw[DA F,Bool.false_and,Bool.false_and]
   have:=q _ iE;rw[e] at this;show this
theorem Y5 {α β:Type} {F:α->β->Prop} {y:β}:∀{ys:!β} {xs:!α},Paired F xs (ys++[y])->∃zs z,xs=zs++[z]/\Paired F zs ys/\F z y
 |[],_,.cons r .nil=>([],_,rfl,.nil,r)
 |_::_,_,.cons r t=>by
  let(zs,z,e,h1,h2):=Y5 t;show(_::zs,z,by rw[e];rfl,.cons r h1,h2)
theorem VU:∀(l acc:!Rn),(l.foldl zE acc).length<=acc.length+l.length
 |[],acc=>yA _
 |r::l,acc=>by
  rw[List.foldl_cons];show zB (VU l _) ?_;have:(zE acc r).length<=acc.length+1:=by
   unfold zE;cases h:acc.getLast? with
   |none=>simp
   |some x=>
    simp only
    split
    .rw[xA,List.length_dropLast,yB];cases acc with
     |nil=>cases h
     |cons a acc=>simp
    .simp
  rw[dB];omega
theorem Sf {acc:!Rn} {l r:Rn} (h:go l r=false):zE (acc++[l]) r=acc++[l]++[r]:=by
 unfold zE;rw[AB];change (if go l r=true then _ else _)=_;rw[h];rfl
theorem Tf {acc:!Rn} {l r:Rn} (h:go l r=true):zE (acc++[l]) r=acc++[(l.f,l.m+r.m,l.r,l.t)]:=by
 unfold zE;rw[AB];change (if go l r=true then _ else _)=_;rw[jA h,List.dropLast_concat]
def Z5 (K:W.Frag):Sp:=λvs H Q ο=>∃(a:Addr) (ws:!V) (rs:!Rn),vs=[.ref a]/\pD K H a ws/\MC H ws rs/\rs.length<=1000000/\∀t us H',JC H H'->H t=none->H' t>(.lst us)->MC H' us (jn rs)->Q (.ref t) H'
theorem Uf (T:CD K mg A):pE P w K mg base "joined" 3 ["runs"] [] (Z5 K):=by
 let aw:=@Rf P w K mg base A T;show T.K3.have SQ (λvs H Q E Z=>?_) ?_
 .let(a,ac,rs,rfl,_):=Z;rfl
 .intro f bi be br s H vs Q E b0 Z;let(a,ac,rs,rfl,ap,ah,bp,q):=Z;show(_,(aD (SD (i:=1) SQ.nd rfl (Or.inl rfl) (oJ IC))
   (aD (dJ nB rfl (YI (BC 0)) (XF (i:=2) SQ.nd rfl (Or.inl rfl)) (bD (ME (PW.pt (YR (yF tL (YF ZI rfl T.Bh PySem.boot_len (EC (BC 1) IC)) NC (UC _)) (WR (rG (XD aw (-b0) ZC (EC (WD lI (BC 1) (bO LL NC) (λο ο=>rfl)) (EC (BC 2) IC))))))) (aD (SD (i:=3) SQ.nd rfl (Or.inl rfl) (yL PySem.F.plainAttrs_list PySem.F.slot_list_pop PySem.F.type_list_pop BL (BC 1)))
   (bD (lE (zL PySem.F.plainAttrs_list PySem.F.slot_list_append PySem.F.type_list_append AL (BC 1) (EC (dG (EC (WD vE (BC 3) NC (λο ο=>rfl)) (EC (KD LF (WD vE (BC 3) NC (λο ο=>rfl)) (WD vE (BC 2) NC (λο ο=>rfl))) (EC (WD vE (BC 3) NC (λο ο=>rfl)) (EC (WD vE (BC 3) NC (λο ο=>rfl)) IC))))) IC))))) (bD (lE (zL PySem.F.plainAttrs_list PySem.F.slot_list_append PySem.F.type_list_append AL (BC 1) (EC (BC 2) IC)))))))
   (bD (PD (BC 1))))),?_)
  unfold X5;rfl';intro t W;let av:=nE (o:=.lst []) iE W;let b4:ac.length=rs.length:=Paired.length ah;show⟨⟨_,av.seq ap⟩,LQ (xs:=ac) (λi a2 H'=>∃us a9 ab,a2=[↑a,↑t,a9,ab]/\JC H H'/\H' t>(.lst us)/\MC H' us ((rs.take i).foldl zE [])) ([],_,_,rfl,av,jD,.nil) (λi a2 H' _ ad=>by let(_,_,_,ad):=ad;show ad.2.1.seq ap) (λi x a2 H' hi=>?_) (λa2 H'=>?_)⟩
  .rintro⟨us,a9,ab,rfl,Y,J,U⟩;let(r,au,b1):=JI ah hi;let a1:=b1.same Y;let b2:rs.take (i+1)=rs.take i++[r]:=by rw[mB,au];rfl
   let b3:us.length<=i:=by
    let h1:=Paired.length U;let h2:=VU (rs.take i) [];rw[aB] at h2;simp only[List.length_nil] at h2;omega
   let bo:i < rs.length:=(QA.mp au).1;rw[b2,List.foldl_append,List.foldl_cons,List.foldl_nil];generalize (rs.take i).foldl zE []=acc at *;rfl';show(us.length,.inl (_,pD.of J,rfl),?_);rcases hacc:acc.getLast? with _|l
   .let ax:acc=[]:=List.getLast?_eq_none_iff.mp hacc;subst ax;cases U;rw[fA (show ¬(0:Int) < (([]:!V).length:Int) from λZ=>absurd Z (by decide))];show oE (.inl (rfl,_,pD.of J),_,J,by change 0 < 16777216;decide,GH Y W,_,rfl,?_);show .cons (a1.same2 J Y) .nil
   .let(bh,rfl):=aR hacc;let(F,O,rfl,ao,a6):=Y5 U;let az:(0:Int) < ((F++[O]).length:Int):=by rw[xA,yB];omega
    rw[jA az];show(_,pD.of J,O,?_,l,a6,r,a1,λa3 L=>?_)
    .unfold SG jI;rw[fA (by decide),jA (by rw[xA,yB];omega)];change (F++[O])[(-1+((F++[O]).length:Int)).toNat]?>O;rw[xA,yB,show (-1+((F.length+1:Nat):Int)).toNat=F.length by omega,jB (yA _),Nat.sub_self]
     rfl
    let D:=L _ _ J;let N:=Y.trans L;cases ar:go l r with
    |true=>
     show fE (.inl (rfl,_,pD.of D),_,D,O,by rw[xA,yB,Nat.add_sub_cancel,jB (yA _),Nat.sub_self];rfl,?_);rw[List.dropLast_concat];let bb:tD (FC a3 t (.lst F)) O l:=(a6.same L).same2 D N;let b5:tD (FC a3 t (.lst F)) x r:=(a1.same L).same2 D N;let(c,a4,rfl,a0,ay):=id bb;let(bl,bm,rfl,hd,bn):=id b5;rfl';show(.inl (rfl,_,pD.of jD),_,uD.of a0,_,rfl,_,uD.of a0,_,rfl,_,uD.of hd,_,rfl,_,rfl,_,rfl,_,uD.of a0,_,rfl,_,uD.of a0,_,rfl,λe aq=>?_);let a7:=nE (o:=.tup [V.int l.f,V.int (l.m+r.m),V.int l.r,a4]) iE aq;let a5:=a7 _ _ (jD (H:=a3) (a:=t) (o:=.lst F));let a8:=nE (o:=.tup [V.int l.f,V.int (l.m+r.m),V.int l.r,a4]) (GH (o:=.lst F) N W) aq;show(F,a5,by rw[xA,yB] at b3;omega,GH a8 W,_,rfl,?_);rw[Tf ar];show KI (MC.same2 (MC.same (MC.same2 (MC.same ao L) D N) a7) a5 a8) (.cons ?_ .nil);show tD.same2 ((e,a4,rfl,jD,ay.same a7):tD _ (.ref e) (l.f,l.m+r.m,l.r,l.t)) a5 a8
    |false=>
     show oE (.inl (rfl,_,pD.of D),_,D,by rw[xA,yB] at *; omega,GH N W,_,rfl,?_);rw[Sf ar];show KI (KI (MC.same2 (MC.same ao L) D N) (.cons ((a6.same L).same2 D N) .nil)) (.cons ((a1.same L).same2 D N) .nil)
  .rintro⟨us,a9,ab,rfl,Y,J,U⟩;rfl';rw[b4,wB] at U;show q _ _ _ Y W J U
def sH (a:Addr):!(Str×V):=LC "runs" (.ref a) []
theorem wJ {a:Addr}:(sH a).lookup ("runs":Str)=↑a:=by rfl
theorem SF {a:Addr} {m:Str} (h:¬m∈(["runs"]:!Str)):(sH a).lookup m=none:=by
 simp only[uA,bB,zC] at h;unfold sH;simp only[wN,h,HB]
 rfl
def jE (C:Addr) (H:Hp) (p a:Addr) (rs:!Rn):Prop:=∃dx vs,H p>(.ins C dx (sH a))/\H a>(.lst vs)/\MC H vs rs
theorem jE.same {C:Addr} {H H':Hp} {p a:Addr} {rs:!Rn} (h:jE C H p a rs) (s:JC H H'):jE C H' p a rs:=let ⟨dx,vs,h1,h2,h3⟩:=h;(dx,vs,s _ _ h1,s _ _ h2,MC.same h3 s)
def WU (K:W.Frag) (C:Addr):Sp:=λvs H Q ο=>∃(p a:Addr) (rs:!Rn) (x:Int),vs=[.ref p,.int x]/\jE C H p a rs/\YC rs/\rs.length<=1000000/\Q (.int (pb rs x)) H
theorem b6 (T:CD K mg A):QC P w K mg base A.Aa "place_behind" 2 ["self","page"] [] (WU K A.Aa):=by
 let Y:=@fP P w K mg base A T;show T.B4.have FN (λvs H Q E D=>?_) ?_
 .let(p,a,rs,x,rfl,_):=D;rfl
 .intro f a7 a6 a9 s H vs Q E a2 D;let(p,a,rs,x,rfl,(Z,vs,h1,h2,J),ho,a8,q):=D;show(_,(aD (SD (i:=2) FN.nd rfl (Or.inl rfl) NC)
   (aD (SD (i:=3) FN.nd rfl (Or.inl rfl) (YF ZI rfl T.Bh PySem.boot_len (EC (FD (BC 0) rfl) IC)))
   (aD (Y2 nB (yF wQ (BC 2) (BC 3) (UC _)) (aD (SD (i:=4) FN.nd rfl (Or.inl rfl) (KD vQ (KD LF (BC 2) (BC 3)) NC))
   (bD (ME (yF tL (XD Y (-a2) ZC (EC (WD lI (FD (BC 0) rfl) (BC 4) (λο ο=>rfl)) IC)) (BC 1) (UC _)) (bD (SD (i:=3) FN.nd rfl (Or.inl rfl) (BC 4))) (bD (SD (i:=2) FN.nd rfl (Or.inl rfl) (KD LF (BC 4) NC)))))))
   (bD (PD (BC 2)))))),?_)
  let a5:vs.length=rs.length:=Paired.length J;unfold HN;rfl';simp only[h1];rfl';show(T.Ae,T.Ah,_,wJ,vs.length,.inl (_,pD.of h2,rfl),?_);show Z2 (λO W H'=>∃(lo hi:Nat) (U:Option V),O=hi - lo/\W=[↑p,some (.int x),some (.int lo),some (.int hi),U]/\H'=H/\lo<=pb rs x/\pb rs x<=hi/\hi<=rs.length) vs.length (0,vs.length,_,rfl,rfl,rfl,vC _,by rw[a5];show dP,⋯) (λO W H'=>?_);rintro⟨lo,hi,U,rfl,rfl,rfl,k1,k2,k3⟩;rfl';by_cases c:(lo:Int) < (hi:Int)
  .rw[jA c];show jK ?_;rfl';let L:(lo+hi) / 2 < vs.length:=⋯;let(r,a3,a4):=JI J (WA L);let a1:=QH (WA L);let a0:((lo:Int)+(hi:Int)) / 2=(((lo+hi) / 2:Nat):Int):=⋯;let N:=eP ho (p:=x) a3;rw[a0];show(_,Z,_,h1,T.Ae,T.Ah,_,wJ,a,rfl,_,pD.of h2,_,a1,r,a4,?_);by_cases F:x < RC r
   .rw[jA F];have:¬(lo+hi) / 2 < pb rs x:=λD=>by have:=N.mp D;omega
    show((lo+hi) / 2 - lo,⋯,lo,(lo+hi) / 2,?_)
    first
     |exact⟨rfl,rfl,rfl,k1,⋯,⋯⟩
     |exact⟨rfl,k1,⋯,⋯⟩
     |(trace_state;show⟨rfl,rfl,k1,⋯,⋯⟩)
   .rw[fA F];have:(lo+hi) / 2 < pb rs x:=N.mpr ⋯;show(hi - ((lo+hi) / 2+1),⋯,(lo+hi) / 2+1,hi,?_)
    first
     |exact⟨rfl,rfl,rfl,⋯,k2,k3⟩
     |exact⟨rfl,⋯,k2,k3⟩
     |(trace_state;show⟨rfl,⋯,rfl,⋯,k2,k3⟩)
  .rw[fA c];let e:pb rs x=lo:=⋯;rw[e] at q;show q
theorem XU {xs:!V} {lo hi:Nat}:hE xs (some (lo:Int)) (some (hi:Int))=(xs.take hi).drop lo:=by
 unfold hE;change (xs.drop (if (lo:Int) < 0 then ((lo:Int)+(xs.length:Int)).toNat else min (lo:Int).toNat xs.length)).take ((if (hi:Int) < 0 then ((hi:Int)+(xs.length:Int)).toNat else min (hi:Int).toNat xs.length) - (if (lo:Int) < 0 then ((lo:Int)+(xs.length:Int)).toNat else min (lo:Int).toNat xs.length))=_;rw[fA ⋯,fA ⋯,OB,OB,List.drop_take];show List.ext_getElem? λk=>?_;rw[List.getElem?_take,List.getElem?_take,List.getElem?_drop,List.getElem?_drop];by_cases h1:k < hi - lo
 .rw[jA h1];by_cases h2:k < min hi xs.length - min lo xs.length
  .rw[jA h2,Nat.min_eq_left ⋯]
  .rw[fA h2,List.getElem?_eq_none_iff.mpr ⋯]
 .rw[fA h1];by_cases h2:k < min hi xs.length - min lo xs.length
  .rw[jA h2,List.getElem?_eq_none_iff.mpr ⋯]
  .rw[fA h2]
theorem Vf {xs:!V} {hi:Nat}:hE xs none (some (hi:Int))=xs.take hi:=by
 unfold hE;change (xs.drop 0).take ((if (hi:Int) < 0 then ((hi:Int)+(xs.length:Int)).toNat else min (hi:Int).toNat xs.length) - 0)=_;rw[fA ⋯,OB,List.drop_zero,Nat.sub_zero];let h||h:=Nat.le_total hi xs.length
 .rw[Nat.min_eq_left h]
 .rw[Nat.min_eq_right h,wB,kC h]
theorem Wf {xs:!V} {lo:Nat}:hE xs (some (lo:Int)) none=xs.drop lo:=by
 unfold hE;change (xs.drop (if (lo:Int) < 0 then ((lo:Int)+(xs.length:Int)).toNat else min (lo:Int).toNat xs.length)).take (xs.length - (if (lo:Int) < 0 then ((lo:Int)+(xs.length:Int)).toNat else min (lo:Int).toNat xs.length))=_;rw[fA ⋯,OB];let h||h:=Nat.le_total lo xs.length
 .rw[Nat.min_eq_left h];show kC (by rw[TB];omega)
 .rw[Nat.min_eq_right h,Nat.sub_self,List.take_zero,List.drop_eq_nil_of_le h]
def eR (K:W.Frag) (C:Addr):Sp:=λvs H Q ο=>∃(p a:Addr) (rs:!Rn) (x n:Int),vs=[.ref p,.int x,.int n]/\jE C H p a rs/\YC rs/\rs.length<=1000000/\∀t us H',JC H H'->H t=none->H' t>(.lst us)->MC H' us (ZE rs x n)->Q (.ref t) H'
theorem YU (T:CD K mg A):QC P w K mg base A.Aa "parts_amid" 4 ["self","first","many"] [] (eR K A.Aa):=by
 let ab:=@W5 P w K mg base A T;let a5:=@b6 P w K mg base A T;show T.Cd.have rT (λvs H Q E a3=>?_) ?_
 .let(p,a,rs,x,n,rfl,_):=a3;rfl
 .intro f b3 b2 bl s H vs Q E a0 a3;let(p,a,rs,x,n,rfl,Z,ho,a6,q):=a3;let(b5,vs,h1,h2,ad):=id Z;show(_,(aD (SD (i:=3) rT.nd rfl (Or.inr rfl) (KD LF (BC 1) (BC 2)))
   (aD (SD (i:=4) rT.nd rfl (Or.inl rfl) (vL sO (FD (BC 0) rfl) (aJ (GD (BC 0) T.Ae a5 (-a0) ZC (EC (BC 1) IC))) (aJ (KD LF (GD (BC 0) T.Ae a5 (-a0) ZC (EC (BC 3) IC)) NC))))
   (bD (PD (BN rfl (YI (BC 4)) (x:="run") (fs:=["first","end"]) (ix:=[1,3]) rfl rfl (λο ο ο ο ο ο=>(XF (i:=0) (show (["run","first","end"]:!Str).Nodup by decide+kernel) rfl (Or.inl rfl))) (λο ο ο ο ο ο=>(BS (yF wQ (WD (lK (K:=K) rfl) (BC 0) NC (λο ο=>rfl)) (BC 2) (UC _)))) (λο ο ο ο ο ο=>(XD ab (-a0) bK (EC (BC 0) (EC (BC 1) (EC (BC 2) IC)))))))))),?_)
  unfold UU WU;rfl';simp only[h1];rfl';show(T.Ae,T.Ah,_,wJ,SF ∅,a,rs,Z,ho,a6,SF ∅,a,rs,Z,ho,a6,?_);show(a,rfl,_,pD.of h2,λb0 au=>⟨⟨_,pD.of jD⟩,?_⟩);let ac:hE vs (some ((pb rs x:Nat):Int)) (some (((pb rs (x+n):Nat):Int)+1))=(vs.take (pb rs (x+n)+1)).drop (pb rs x):=XU (hi:=pb rs (x+n)+1);rw[ac];let a7:MC H ((vs.take (pb rs (x+n)+1)).drop (pb rs x)) (NE rs (pb rs x) (pb rs (x+n)+1)):=cR _ (bR _ ad);let az:∀t us H',JC H H'->H t=none->H' t>(.lst us)->MC H' us (((NE rs (pb rs x) (pb rs (x+n)+1)).filter λr=>decide (r.f < x+n)).map λr=>GE r x (x+n))->Q (.ref t) H':=q;let bh:(NE rs (pb rs x) (pb rs (x+n)+1)).length<=1000000:=by
   unfold NE;rw[TB,aB];omega
  generalize (vs.take (pb rs (x+n)+1)).drop (pb rs x)=nv at *;generalize NE rs (pb rs x) (pb rs (x+n)+1)=near at *;intro U W;let a1:=nE (o:=.lst nv) iE au;let aq:nv.length=near.length:=Paired.length a7;show AN (xs:=nv) (λi ys O H'=>∃v,O=[v,some (.int x),some (.int (x+n))]/\JC (FC H b0 (.lst nv)) H'/\H' U>(.lst ys)/\MC H' ys (((near.take i).filter λr=>decide (r.f < x+n)).map λr=>GE r x (x+n))) (_,rfl,nE iE W,jD,.nil) (λi ys O H' _ a4=>by let(_,a4):=a4;show pD.of (a4.2.1 _ _ jD)) (λi v ys O H' hi=>?_) (λys O H'=>?_)
  .rintro⟨b1,rfl,F,N,D⟩;let(r,a8,ar):=JI a7 hi;let a9:=ar.same (a1.trans F);let av:near.take (i+1)=near.take i++[r]:=by rw[mB,a8];rfl
   let be:i < near.length:=(QA.mp a8).1;let bi:ys.length<=i:=by
    let ah:=Paired.length D;rw[iA] at ah;let ao:=FB (λr:Rn=>decide (r.f < x+n)) (near.take i);rw[aB] at ao;omega
   rw[av,JB,nA];let(c,b4,rfl,ap,bb):=id a9;rfl';show(_,uD.of ap,_,rfl,_,rfl,?_);by_cases L:r.f < x+n
   .rw[jA L];show(r,a9,λu J a2 aw=>?_);let Y:=a2 _ _ N;let ax:tD (FC J U (.lst (ys++[u]))) u (GE r x (x+n)):=tD.same2 (H:=J) aw Y iE;let ay:MC (FC J U (.lst (ys++[u]))) ys (((near.take i).filter λr=>decide (r.f < x+n)).map λr=>GE r x (x+n)):=MC.same2 (H:=J) (MC.same D a2) Y iE;show(Y,⋯,GH (F.trans a2) W,?_);let V:[r].filter (λr=>decide (r.f < x+n))=[r]:=by rw[vB,pA L];rfl
    rw[V];show KI ay (.cons ax .nil)
   .rw[fA L];let V:[r].filter (λr=>decide (r.f < x+n))=[]:=by rw[vB,DA L];rfl
    rw[V,IB,uB];show(F,N,D)
  .rintro⟨b1,rfl,F,N,D⟩;rw[aq,wB] at D;show az _ _ _ (a1.trans F) (FG a1 W) N D
def c6 (C:Addr):Sp:=λvs H Q ο=>∃(p a:Addr) (rs:!Rn) (x n:Int),vs=[.ref p,.int x,.int n]/\jE C H p a rs/\YC rs/\rs.length<=1000000/\∀H',JC H H'->Q (.bl (decide (ZE rs x n=[]))) H'
theorem nM (T:CD K mg A):QC P w K mg base A.Aa "is_free" 5 ["self","first","many"] [] (c6 A.Aa):=by
 let J:=@YU P w K mg base A T;show T.C4.have ke (λvs H Q E D=>?_) ?_
 .let(p,a,rs,x,n,rfl,_):=D;rfl
 .intro f a0 Y a4 s H vs Q E U D;let(p,a,rs,x,n,rfl,F,ho,O,q):=D;let(a1,vs,h1,h2,a2):=id F;show(_,(bD (PD (PH fI (YF ZI rfl T.Bh PySem.boot_len (EC (GD (BC 0) T.Ae J (-U) ZC (EC (BC 1) (EC (BC 2) IC))) IC)) NC (UC _)))),?_);unfold eR;rfl';simp only[h1];rfl';show(SF ∅,a,rs,F,ho,O,λt us Z W a3 V L=>(us.length,.inl (_,pD.of V,rfl),?_));let N:=Paired.length L;let e:decide ((us.length:Int)=0)=decide (ZE rs x n=[]):=by
   rw[decide_eq_decide,<-List.length_eq_zero_iff,<-N];omega
  rw[e];show q _ W
def d6 (C:Addr):Sp:=λvs H Q ο=>∃(p a:Addr) (rs:!Rn) (x n:Int),vs=[.ref p,.int x,.int n]/\jE C H p a rs/\YC rs/\rs.length<=1000000/\∀H',JC H H'->Q (.bl (decide (((ZE rs x n).map (·.m)).sum=n))) H'
theorem oM (T:CD K mg A):QC P w K mg base A.Aa "is_full" 5 ["self","first","many"] [] (d6 A.Aa):=by
 let Z:=@YU P w K mg base A T;show T.C5.have qe (λvs H Q E L=>?_) ?_
 .let(p,a,rs,x,n,rfl,_):=L;rfl
 .intro f ac ab au s H vs Q E a4 L;let(p,a,rs,x,n,rfl,U,ho,a3,q):=L;let(ah,vs,h1,h2,ao):=id U;show(_,(bD (PD (PH fI (YF (fc rfl) rfl T.Nh ∅ (EC (BN rfl (YI (GD (BC 0) T.Ae Z (-a4) ZC (EC (BC 1) (EC (BC 2) IC)))) (x:="part") (fs:=[]) (ix:=[]) rfl rfl (λο ο ο ο ο ο=>(XF (i:=0) (show (["part"]:!Str).Nodup by decide+kernel) rfl (Or.inl rfl))) (λο ο ο ο ο ο=>zN) (λο ο ο ο ο ο=>(WD (lK (K:=K) rfl) (BC 0) NC (λο ο=>rfl)))) IC)) (BC 2) (UC _)))),?_);unfold eR;rfl';simp only[h1];rfl';show(SF ∅,a,rs,U,ho,a3,λt us a1 a8 ar Y W=>⟨⟨_,pD.of Y⟩,λa0 O=>?_⟩);show AN (xs:=us) (λi ys J H'=>∃v,J=[v]/\JC a1 H'/\H' a0>(.lst ys)/\ys=(((ZE rs x n).take i).map (·.m)).map V.int) (_,rfl,nE iE O,jD,rfl) (λi ys J H' _ N=>by let(_,N):=N;show pD.of (N.2.1 _ _ Y)) (λi v ys J H' hi=>?_) (λys J H'=>?_)
  .rintro⟨a9,rfl,F,D,rfl⟩;let(r,a5,a6):=JI W hi;let(c,ad,rfl,a2,ap):=a6.same F;let a7:(ZE rs x n).take (i+1)=(ZE rs x n).take i++[r]:=by rw[mB,a5];rfl
   let aq:(ZE rs x n).length<=1000000:=by
    unfold ZE NE;rw[iA];show zB (FB _ _) ?_;rw[TB,aB];omega
   rfl';show(_,uD.of a2,_,rfl,D,by rw[iA,iA,aB];omega,GH F O,?_);rw[a7,nA,nA];rfl
  .rintro⟨a9,rfl,F,D,rfl⟩;rw[Paired.length W,wB] at D;show(_,pD.of D,q _ (a8.trans F))
def xD (b:Int) (x:Rn):Bool:=match x.t with|none=>false|some t=>decide (t.1=b)
def i6 (C:Addr):Sp:=λvs H Q ο=>∃(p a:Addr) (rs:!Rn) (b:Int),vs=[.ref p,.int b]/\jE C H p a rs/\rs.length<=1000000/\∀H',JC H H'->Q (.bl (rs.any (xD b))) H'
theorem pM (T:CD K mg A):QC P w K mg base A.Aa "is_tied" 1 ["self","bank"] [] (i6 A.Aa):=by
 show T.C6.have ue (λvs H Q E D=>?_) ?_
 .let(p,a,rs,b,rfl,_):=D;rfl
 .intro f ab a9 ao s H vs Q E ah D;let(p,a,rs,b,rfl,a4,ad,q):=D;let(ac,vs,h1,h2,Z):=id a4;show(_,(bD (PD (YF (W2 rfl) rfl T.Lz ∅ (EC (BN rfl (YI (FD (BC 0) rfl)) (x:="run") (fs:=["bank"]) (ix:=[1]) rfl rfl (λο ο ο ο ο ο=>(XF (i:=0) (show (["run","bank"]:!Str).Nodup by decide+kernel) rfl (Or.inl rfl))) (λο ο ο ο ο ο=>zN) (λο ο ο ο ο ο=>(XI (PH AZ (WD (lK (K:=K) rfl) (BC 0) NC (λο ο=>rfl)) CG (UC _)) (gL (PH fI (WD (lK (K:=K) rfl) (WD (lK (K:=K) rfl) (BC 0) NC (λο ο=>rfl)) NC (λο ο=>rfl)) (BC 1) (UC _)))))) IC)))),?_);rfl';simp only[h1];rfl';show(T.Ae,T.Ah,_,wJ,a,rfl,⟨_,pD.of h2⟩,λO a0=>?_);show AN (xs:=vs) (λi ys N H'=>∃v,N=[v,some (.int b)]/\JC H H'/\H' O>(.lst ys)/\ys=((rs.take i).map (xD b)).map V.bl) (_,rfl,nE iE a0,jD,rfl) (λi ys N H' _ W=>by let(_,W):=W;show pD.of (W.2.1 _ _ h2)) (λi v ys N H' hi=>?_) (λys N H'=>?_)
  .rintro⟨a8,rfl,L,J,rfl⟩;let(r,a5,a6):=JI Z hi;let(c,Y,rfl,a1,F):=a6.same L;let a7:rs.take (i+1)=rs.take i++[r]:=by rw[mB,a5];rfl
   rw[a7,nA,nA];let a2:∀k:Bool,k=xD b r->H' O>(.lst (((rs.take i).map (xD b)).map V.bl))/\(((rs.take i).map (xD b)).map V.bl).length < 16777216/\JC H (FC H' O (.lst (((rs.take i).map (xD b)).map V.bl++[V.bl k])))/\((rs.take i).map (xD b)).map V.bl++[V.bl k]=((rs.take i).map (xD b)).map V.bl++([r].map (xD b)).map V.bl:=λk e=>by
    show(J,by rw[iA,iA,aB];omega,GH L a0,?_);rw[e];rfl
   rfl';show(_,uD.of a1,Y,rfl,?_);cases e:r.t with
   |none=>
    rw[e] at F;let F:Y=.non:=F;rw[F,pA rfl];show oE (a2 false (by unfold xD;rw[e]))
   |some t=>
    let(U,k2):=t;rw[e] at F;let(a3,rfl,h):=F;rw[DA nofun];show fE (_,uD.of a1,_,rfl,a3,rfl,_,uD.of h,.int U,rfl,rfl,a2 _ ?_);unfold xD;rw[e];change decide (V.int U=V.int b)=decide (U=b);rw[decide_eq_decide];show⟨λD=>V.int.inj D,λD=>by rw[D]⟩
  .rintro⟨a8,rfl,L,J,rfl⟩;rw[Paired.length Z,wB] at J;show(_,pD.of J,?_);rw[List.any_map];show q _ L
def j6 (C:Addr):Sp:=λvs H Q ο=>∃(p a:Addr) (rs:!Rn),vs=[.ref p]/\jE C H p a rs/\∀t us,H t=none->MC (FC H t (.lst us)) us rs->Q (.ref t) (FC H t (.lst us))
theorem Xf (T:CD K mg A):QC P w K mg base A.Aa "told" 1 ["self"] [] (j6 A.Aa):=by
 show T.Ez.have ve (λvs H Q E D=>?_) ?_
 .let(p,a,rs,rfl,_):=D;rfl
 .intro f O N W s H vs Q E V D;let(p,a,rs,rfl,L,q):=D;let(U,vs,h1,h2,J):=id L;show(_,(bD (PD (xN zQ rfl T.Dr lC (EC (FD (BC 0) rfl) IC)))),?_);rfl';simp only[h1];rfl';show(T.Ae,T.Ah,_,wJ,a,rfl,_,.inl (pD.of h2),λt F=>?_);show q t vs F (MC.same J (nE iE F))
def ZU (C:Addr):Sp:=λvs H Q ο=>∃(p a:Addr) (rs:!Rn) (x:Int),vs=[.ref p,.int x]/\jE C H p a rs/\YC rs/\rs.length<=1000000/\∀v H',JC H H'->((v=.non/\pm rs x=none)\/∃y,tD H' v y/\pm rs x>(y.r,y.t))->Q v H'
theorem CK (T:CD K mg A):QC P w K mg base A.Aa "part_at" 5 ["self","page"] [] (ZU A.Aa):=by
 let W:=@YU P w K mg base A T;show T.C7.have o4 (λvs H Q E D=>?_) ?_
 .let(p,a,rs,x,rfl,_):=D;rfl
 .intro f a5 a3 a9 s H vs Q E a0 D;let(p,a,rs,x,rfl,N,ho,Y,q):=D;let(a6,vs,h1,h2,a7):=id N;show(_,(aD (SD (i:=2) o4.nd rfl (Or.inl rfl) (GD (BC 0) T.Ae W (-a0) ZC (EC (BC 1) (EC NC IC))))
   (bD (PD (uN (yF tL (YF ZI rfl T.Bh PySem.boot_len (EC (BC 2) IC)) NC (UC _)) (WD lI (BC 2) NC (λο ο=>rfl)) CG)))),?_)
  unfold eR;rfl';simp only[h1];rfl';show(SF ∅,a,rs,N,ho,Y,λt us a4 U a8 O F=>(us.length,.inl (_,pD.of O,rfl),?_));let(J,L)||(a2,J,L):=zf (p:=x) ho
  .rw[J] at F;cases F;rw[fA (show ¬(0:Int) < (([]:!V).length:Int) from λD=>absurd D (by decide))];show q _ _ U (.inl ⟨rfl,L⟩)
  .rw[J] at F;cases F with
   |cons a1 Z=>
    cases Z;rw[jA (show (0:Int) < (([_]:!V).length:Int) from by change (0:Int) < 1;decide)];show(_,pD.of O,_,QH (j:=0) rfl,q _ _ U (.inr (a2,a1,L)))
def oR:Option (Int×Option (Int×Int))->V
 |none=>.non
 |some (r,_)=>.int r
def k6 (C:Addr):Sp:=λvs H Q ο=>∃(p a:Addr) (rs:!Rn) (x:Int),vs=[.ref p,.int x]/\jE C H p a rs/\YC rs/\rs.length<=1000000/\∀H',JC H H'->Q (oR (pm rs x)) H'
theorem gP (T:CD K mg A):QC P w K mg base A.Aa "rights_at" 6 ["self","page"] [] (k6 A.Aa):=by
 let N:=@CK P w K mg base A T;show T.Cl.have j4 (λvs H Q E D=>?_) ?_
 .let(p,a,rs,x,rfl,_):=D;rfl
 .intro f Z W a4 s H vs Q E U D;let(p,a,rs,x,rfl,F,ho,O,q):=D;let(a1,vs,h1,h2,a2):=id F;show(_,(aD (SD (i:=2) j4.nd rfl (Or.inl rfl) (GD (BC 0) T.Ae N (-U) ZC (EC (BC 1) IC)))
   (bD (PD (uN (yF gI (BC 2) CG (UC _)) CG (WD vE (BC 2) NC (λο ο=>rfl)))))),?_)
  unfold ZU;rfl';simp only[h1];rfl';show(SF ∅,a,rs,F,ho,O,λv Y L h=>?_);let(rfl,e)||(a5,V,e):=h
  .rw[jA rfl];have:=q _ L;rw[e] at this;show this
  .let(c,a0,rfl,J,a3):=V;rw[fA nofun];have:=q _ L;rw[e] at this
   first
    |exact⟨_,uD.of J,_,rfl,this⟩
    |(rfl';show⟨_,uD.of J,_,rfl,this⟩)
def l6 (C:Addr):Sp:=λvs H Q ο=>∃(p a:Addr) (rs:!Rn) (x:Int),vs=[.ref p,.int x]/\jE C H p a rs/\YC rs/\rs.length<=1000000/\∀v H',JC H H'->ND H' v ((pm rs x).bind (·.2))->Q v H'
theorem iP (T:CD K mg A):QC P w K mg base A.Aa "tie_at" 6 ["self","page"] [] (l6 A.Aa):=by
 let N:=@CK P w K mg base A T;show T.Ds.have l4 (λvs H Q E D=>?_) ?_
 .let(p,a,rs,x,rfl,_):=D;rfl
 .intro f a0 Y a4 s H vs Q E V D;let(p,a,rs,x,rfl,F,ho,U,q):=D;let(a2,vs,h1,h2,a3):=id F;show(_,(aD (SD (i:=2) l4.nd rfl (Or.inl rfl) (GD (BC 0) T.Ae N (-V) ZC (EC (BC 1) IC)))
   (bD (PD (uN (yF gI (BC 2) CG (UC _)) CG (WD vE (BC 2) NC (λο ο=>rfl)))))),?_)
  unfold ZU;rfl';simp only[h1];rfl';show(SF ∅,a,rs,F,ho,U,λv Z L h=>?_);let(rfl,e)||(a5,W,e):=h
  .rw[jA rfl];show q _ _ L (by rw[e];rfl)
  .let(c,a1,rfl,J,O):=W;rw[fA nofun];have:=q _ _ L (by rw[e];show O)
   first
    |exact⟨_,uD.of J,_,rfl,this⟩
    |(rfl';show⟨_,uD.of J,_,rfl,this⟩)
def aV (C:Addr):Sp:=λvs H Q ο=>∃(p dx:Addr),vs=[.ref p]/\H p>(.ins C dx [])/\∀a,H a=none->Q .non (FC (FC H a (.lst [])) p (.ins C dx (sH a)))
theorem m6 (T:CD K mg A):HF P w K mg base "Stretches" A.Aa 1 ["self"] [] (aV A.Aa):=by
 show T.Ey.have de (λvs H Q E D=>?_) ?_
 .let(p,F,rfl,_):=D;rfl
 .intro f U O W s H vs Q E V D;let(p,F,rfl,L,q):=D;show(_,(bD (cG (BC 0) (oJ IC) rfl)),?_);rfl';intro a J;let N:p≠a:=OD L J;show(_,F,[],by rw[VC N];show L,T.Ae,T.Ah,by change 0 < 1000;decide,?_);show q a J
def cV (O:Addr):Sp:=λvs H Q E=>∃x:V,vs=[x]/\Kn H x/\if uE x 0 3=true then Q .non H else E (.ref O) none H
theorem jP (T:CD K mg A):pE P w K mg base "check_rights" 3 ["rights"] [] (cV A.Au):=by
 let F:=@fM P w K mg base A T;show T.Gc.have Zd (λvs H Q E D=>?_) ?_
 .let(x,rfl,_):=D;rfl
 .intro f N L O s H vs Q E J D;let(x,rfl,hk,q):=D;show(_,(bD (ME (JG (rG (XD F (-J) ZC (EC (BC 0) (EC NC (EC (AO rfl T.Ha) IC)))))) (bD (WG VG rfl T.Jt (EC xF IC))) OE)),?_);unfold sp_is_within;rfl';show⟨hk,?_⟩;cases e:uE x 0 3 with
  |true=>rw[e,jA rfl] at q;show oE q
  |false=>rw[e,fA (show ¬false=true by decide)] at q;show fE q
def Bu (p:Addr) (H H':Hp):Prop:=∀c o,H c>o->c≠p->H' c>o
def eV (C:Addr):Sp:=λvs H Q ο=>∃(p a b:Addr) (rs parts:!Rn) (x n:Int) (ws:!V),vs=[.ref p,.int x,.int n,.ref b]/\jE C H p a rs/\YC rs/\rs.length<=100000/\H b>(.lst ws)/\MC H ws parts/\parts.length<=100000/\∀a' H',jE C H' p a' (AE rs x n parts)->Bu p H H'->Q .non H'
theorem DK (T:CD K mg A):QC P w K mg base A.Aa "lay_amid" 5 ["self","first","many","parts"] [] (eV A.Aa):=by
 let bn:=@W5 P w K mg base A T;let bl:=@fP P w K mg base A T;let cs:=@Uf P w K mg base A T;let bm:=@b6 P w K mg base A T;show T.Cv.have cM (λvs H Q E U=>?_) ?_
 .let(p,a,b,rs,a8,x,n,F,rfl,_):=U;rfl
 .intro f em ej ez s H vs Q E a1 U;let(p,a,b,rs,a8,x,n,F,rfl,aw,ho,dm,dd,bz,dp,q):=U;let(ao,vs,h1,h2,ap):=id aw;show(_,(aD (SD (i:=4) cM.nd rfl (Or.inr rfl) (KD LF (BC 1) (BC 2)))
   (aD (SD (i:=5) cM.nd rfl (Or.inl rfl) (GD (BC 0) T.Ae bm (-a1) ZC (EC (KD dI (BC 1) NC) IC)))
   (aD (SD (i:=6) cM.nd rfl (Or.inl rfl) (KD LF (GD (BC 0) T.Ae bm (-a1) ZC (EC (BC 4) IC)) NC))
   (aD (SD (i:=7) cM.nd rfl (Or.inl rfl) (vL sO (FD (BC 0) rfl) (aJ (BC 5)) (aJ (BC 6))))
   (aD (S2 (i:=8) cM.nd rfl rfl rfl (YI (BC 7)) (x:="run") (fs:=["first"]) (ix:=[1]) rfl rfl (λο ο ο ο ο ο=>(XF (i:=0) (show (["run","first"]:!Str).Nodup by decide+kernel) rfl (Or.inl rfl))) (λο ο ο ο ο ο=>(BS (yF wQ (WD (lK (K:=K) rfl) (BC 0) NC (λο ο=>rfl)) (BC 1) (UC _)))) (λο ο ο ο ο ο=>(XD bn (-a1) bK (EC (BC 0) (EC (WD (lK (K:=K) rfl) (BC 0) NC (λο ο=>rfl)) (EC (BC 1) IC))))))
   (aD (S2 (i:=9) cM.nd rfl rfl rfl (YI (BC 7)) (x:="run") (fs:=["end"]) (ix:=[4]) rfl rfl (λο ο ο ο ο ο=>(XF (i:=0) (show (["run","end"]:!Str).Nodup by decide+kernel) rfl (Or.inl rfl))) (λο ο ο ο ο ο=>(BS (yF tL (XD bl (-a1) bK (EC (BC 0) IC)) (BC 1) (UC _)))) (λο ο ο ο ο ο=>(XD bn (-a1) bK (EC (BC 0) (EC (BC 1) (EC (XD bl (-a1) bK (EC (BC 0) IC)) IC))))))
   (bD (cG (BC 0) (KD AQ (KD AQ (vL sO (FD (BC 0) rfl) yQ (aJ (BC 5))) (XD cs (-a1) ZC (EC (KD AQ (KD AQ (BC 8) (BC 3)) (BC 9)) IC))) (vL sO (FD (BC 0) rfl) (aJ (BC 6)) yQ)) rfl)))))))),?_)
  unfold UU HN Z5 WU;rfl';simp only[h1];rfl';show(SF ∅,a,rs,aw,ho,⋯,SF ∅,a,rs,aw,ho,⋯,T.Ae,T.Ah,_,wJ,a,rfl,_,pD.of h2,λcp e6=>⟨⟨_,pD.of jD⟩,?_⟩);let cy:hE vs (some ((pb rs (x - 1):Nat):Int)) (some (((pb rs (x+n):Nat):Int)+1))=(vs.take (pb rs (x+n)+1)).drop (pb rs (x - 1)):=XU (hi:=pb rs (x+n)+1);rw[cy];let ax:MC H ((vs.take (pb rs (x+n)+1)).drop (pb rs (x - 1))) (NE rs (pb rs (x - 1)) (pb rs (x+n)+1)):=cR _ (bR _ ap);let en:(NE rs (pb rs (x - 1)) (pb rs (x+n)+1)).length<=100000:=by
   unfold NE;rw[TB,aB];omega
  let e8:∀cu H',jE A.Aa H' p cu (rs.take (pb rs (x - 1))++jn (((NE rs (pb rs (x - 1)) (pb rs (x+n)+1)).filter λr=>decide (r.f < x)).map (λr=>GE r r.f x)++a8++((NE rs (pb rs (x - 1)) (pb rs (x+n)+1)).filter λr=>decide (GT.gt (RC r) (x+n))).map (λr=>GE r (x+n) (RC r)))++rs.drop (pb rs (x+n)+1))->Bu p H H'->Q .non H':=q;generalize (vs.take (pb rs (x+n)+1)).drop (pb rs (x - 1))=nv at *;generalize NE rs (pb rs (x - 1)) (pb rs (x+n)+1)=near at *;intro cq bw;let c9:=nE (o:=.lst nv) iE e6;let c2:nv.length=near.length:=Paired.length ax;let bt:∀(i:Nat) (g:Rn->Bool),((near.take i).filter g).length<=100000:=λi g=>zB (FB _ _) (by rw[aB];omega);show AN (xs:=nv) (λi ys W H'=>∃v,W=[v,some (.int x)]/\JC (FC H cp (.lst nv)) H'/\H' cq>(.lst ys)/\MC H' ys (((near.take i).filter λr=>decide (r.f < x)).map λr=>GE r r.f x)) (_,rfl,nE iE bw,jD,.nil) (λi ys W H' _ a5=>by let(_,a5):=a5;show pD.of (a5.2.1 _ _ jD)) (λi v ys W H' hi=>?_) (λys W H'=>?_)
  .rintro⟨bi,rfl,a9,ab,a2⟩;let(r,ay,az):=JI ax hi;let a7:=az.same (c9.trans a9);let b0:near.take (i+1)=near.take i++[r]:=by rw[mB,ay];rfl
   let e7:ys.length<=100000:=by
    let Z:=Paired.length a2;rw[iA] at Z;have:=bt i λr=>decide (r.f < x);omega
   rw[b0,JB,nA];let(c,br,rfl,a0,ac):=id a7;rfl';show(_,uD.of a0,_,rfl,_,rfl,?_);by_cases N:r.f < x
   .rw[jA N];show(_,uD.of a0,_,rfl,r,_,rfl,a7,λu D L b1=>?_);let a6:=L _ _ ab;show(a6,⋯,GH (a9.trans L) bw,?_);let Y:[r].filter (λr=>decide (r.f < x))=[r]:=by rw[vB,pA N];rfl
    rw[Y];show KI (MC.same2 (H:=D) (MC.same a2 L) a6 iE) (.cons (tD.same2 (H:=D) b1 a6 iE) .nil)
   .rw[fA N];let Y:[r].filter (λr=>decide (r.f < x))=[]:=by rw[vB,DA N];rfl
    rw[Y,IB,uB];show(a9,ab,a2)
  rintro⟨bi,rfl,a9,cz,a2⟩;rw[c2,wB] at a2;let c4:=a9 _ _ (jD (H:=H) (a:=cp) (o:=.lst nv));show⟨⟨_,pD.of c4⟩,λcr a6=>?_⟩;let ch:=c9.trans a9;show AN (xs:=nv) (λi J W D=>∃v,W=[v,some (.int (x+n))]/\JC H' D/\D cr>(.lst J)/\MC D J (((near.take i).filter λr=>decide (GT.gt (RC r) (x+n))).map λr=>GE r (x+n) (RC r))) (_,rfl,nE iE a6,jD,.nil) (λi ys W H' _ a5=>by let(_,a5):=a5;show pD.of (a5.2.1 _ _ c4)) (λi v J W D hi=>?_) (λJ W D=>?_)
  .rintro⟨bi,rfl,L,ab,a3⟩;let(r,ay,az):=JI ax hi;let a7:=az.same (ch.trans L);let b0:near.take (i+1)=near.take i++[r]:=by rw[mB,ay];rfl
   let e7:J.length<=100000:=by
    let Z:=Paired.length a3;rw[iA] at Z;have:=bt i λr=>decide (GT.gt (RC r) (x+n));omega
   rw[b0,JB,nA];rfl';show(r,a7,?_);by_cases N:GT.gt (RC r) (x+n)
   .rw[jA (show x+n < RC r from N)];show(r,a7,r,a7,λu bo O b1=>?_);let av:=O _ _ ab;show(av,⋯,GH (L.trans O) a6,?_);let Y:[r].filter (λr=>decide (GT.gt (RC r) (x+n)))=[r]:=by rw[vB,pA N];rfl
    rw[Y];show KI (MC.same2 (H:=bo) (MC.same a3 O) av iE) (.cons (tD.same2 (H:=bo) b1 av iE) .nil)
   .rw[fA (show ¬x+n < RC r from N)];let Y:[r].filter (λr=>decide (GT.gt (RC r) (x+n)))=[]:=by rw[vB,DA N];rfl
    rw[Y,IB,uB];show(L,ab,a3)
  rintro⟨bi,rfl,L,d1,a3⟩;rw[c2,wB] at a3;let ah:=ch.trans L;let f0:JC H D:=ah;show(_,ao,_,ah _ _ h1,T.Ae,T.Ah,_,wJ,a,rfl,_,pD.of (ah _ _ h2),λb2 dr=>?_);rw[Vf];let O:=nE (o:=.lst (vs.take (pb rs (x - 1)))) iE dr;let dt:FC D b2 (.lst (vs.take (pb rs (x - 1)))) b2>(.lst (vs.take (pb rs (x - 1)))):=jD;let d0:=O _ _ (L _ _ cz);let d2:=O _ _ d1;let dk:=O _ _ (ah _ _ dd);let e9:=ah.trans O;generalize FC D b2 (.lst (vs.take (pb rs (x - 1))))=H4 at *;let ew:ys.length<=100000:=by
   let Z:=Paired.length a2;rw[iA] at Z;have:=FB (λr:Rn=>decide (r.f < x)) near;omega
  let ey:J.length<=100000:=by
   let Z:=Paired.length a3;rw[iA] at Z;have:=FB (λr:Rn=>decide (GT.gt (RC r) (x+n))) near;omega
  let ev:F.length<=100000:=by rw[Paired.length bz];show dp
  show(_,d0,_,dk,⋯,λb3 dw=>?_);let au:=nE (o:=.lst (ys++F)) iE dw;let eo:FC H4 b3 (.lst (ys++F)) b3>(.lst (ys++F)):=jD;let d3:=au _ _ d2;let du:=au _ _ dt;let ea:=e9.trans au;generalize FC H4 b3 (.lst (ys++F))=H5 at *;show(_,rfl,_,d3,by rw[xA];omega,λar dy=>?_);let be:=nE (o:=.lst (ys++F++J)) iE dy;let dz:FC H5 ar (.lst (ys++F++J)) ar>(.lst (ys++F++J)):=jD;let dv:=be _ _ du;let ck:=ea.trans be;let cl:JC D (FC H5 ar (.lst (ys++F++J))):=O.trans (au.trans be);generalize FC H5 ar (.lst (ys++F++J))=H6 at *;let c1:MC H6 (ys++F++J) ((near.filter λr=>decide (r.f < x)).map (λr=>GE r r.f x)++a8++(near.filter λr=>decide (GT.gt (RC r) (x+n))).map (λr=>GE r (x+n) (RC r))):=
   KI (KI (MC.same a2 (L.trans cl)) (MC.same bz ck)) (MC.same a3 cl)
  let d9:((near.filter λr=>decide (r.f < x)).map (λr=>GE r r.f x)++a8++(near.filter λr=>decide (GT.gt (RC r) (x+n))).map (λr=>GE r (x+n) (RC r))).length<=1000000:=by
   rw[<-Paired.length c1,xA,xA];omega
  show(_,pD.of dz,_,c1,d9,λt us bp cn er aq c0=>?_);let eb:=ck.trans cn;let et:us.length<=1000000:=by
   rw[Paired.length c0];have:=VU ((near.filter λr=>decide (r.f < x)).map (λr=>GE r r.f x)++a8++(near.filter λr=>decide (GT.gt (RC r) (x+n))).map (λr=>GE r (x+n) (RC r))) [];unfold jn;simp only[List.length_nil,Nat.zero_add] at this;omega
  let eu:vs.length<=100000:=by rw[Paired.length ap];show dm
  show(_,cn _ _ dv,_,aq,by rw[aB];omega,λb4 e0=>?_);let co:=nE (o:=.lst (vs.take (pb rs (x - 1))++us)) iE e0;let e1:FC bp b4 (.lst (vs.take (pb rs (x - 1))++us)) b4>(.lst (vs.take (pb rs (x - 1))++us)):=jD;let bb:=eb.trans co;generalize FC bp b4 (.lst (vs.take (pb rs (x - 1))++us))=H8 at *;show(_,ao,_,bb _ _ h1,T.Ae,T.Ah,_,wJ,a,rfl,_,pD.of (bb _ _ h2),λb5 e3=>?_);let cx:hE vs (some (((pb rs (x+n):Nat):Int)+1)) none=vs.drop (pb rs (x+n)+1):=Wf (lo:=pb rs (x+n)+1);rw[cx];let bh:=nE (o:=.lst (vs.drop (pb rs (x+n)+1))) iE e3;let eq:FC H8 b5 (.lst (vs.drop (pb rs (x+n)+1))) b5>(.lst (vs.drop (pb rs (x+n)+1))):=jD;let e2:=bh _ _ e1;let ec:=bb.trans bh;let ef:=co.trans bh;generalize FC H8 b5 (.lst (vs.drop (pb rs (x+n)+1)))=H9 at *;show(_,e2,_,rfl,by rw[xA,aB,TB];omega,λad e4=>?_);let cd:=nE (o:=.lst (vs.take (pb rs (x - 1))++us++vs.drop (pb rs (x+n)+1))) iE e4;let c3:FC H9 ad (.lst (vs.take (pb rs (x - 1))++us++vs.drop (pb rs (x+n)+1))) ad>(.lst (vs.take (pb rs (x - 1))++us++vs.drop (pb rs (x+n)+1))):=jD;let a4:=ec.trans cd;let ee:=ef.trans cd;generalize FC H9 ad (.lst (vs.take (pb rs (x - 1))++us++vs.drop (pb rs (x+n)+1)))=H10 at *;let dq:ad≠p:=cD c3 (a4 _ _ h1) λU=>nomatch U;show(_,ao,_,a4 _ _ h1,T.Ae,T.Ah,by change 1 < 1000;decide,?_);let e5:∀{v:V} {r:Rn} {o:HO},tD H10 v r->tD (FC H10 p o) v r:=λ{v r o} h=>by
   let(c,br,e,a0,ac):=h;show(c,br,e,by rw[VC (cD a0 (a4 _ _ h1) λU=>nomatch U)];show a0,?_);cases aq:r.t with
   |none=>rw[aq] at ac;show ac
   |some eh=>
    let(ek,k2):=eh;rw[aq] at ac;let(cv,cw,h2):=ac;show(cv,cw,by rw[VC (cD h2 (a4 _ _ h1) λU=>nomatch U)];show h2)
  show e8 ad _ (ao,_,jD,by rw[VC dq];show c3,?_) λc o a0 dn=>by rw[VC dn];show a4 _ _ a0
  let dl:MC H10 (vs.take (pb rs (x - 1))++us++vs.drop (pb rs (x+n)+1)) (rs.take (pb rs (x - 1))++jn ((near.filter λr=>decide (r.f < x)).map (λr=>GE r r.f x)++a8++(near.filter λr=>decide (GT.gt (RC r) (x+n))).map (λr=>GE r (x+n) (RC r)))++rs.drop (pb rs (x+n)+1)):=
   KI (KI (MC.same (bR _ ap) a4) (MC.same c0 ee)) (MC.same (cR _ ap) a4)
  show Paired.mapP dl λο ο h=>e5 h
def fR (C BR TK:Addr):Sp:=λvs H Q E=>∃(p a:Addr) (rs:!Rn) (x n r:Int) (tv:V) (t:Option (Int×Int)),vs=[.ref p,.int x,.int n,.int r,tv]/\jE C H p a rs/\YC rs/\rs.length<=100000/\ND H tv t/\
 if 0<=r/\r<=3 then (if ZE rs x n=[] then ∀a' H',jE C H' p a' (AE rs x n [(x,n,r,t)])->Bu p H H'->Q .non H' else ∀H',JC H H'->E (.ref TK) none H') else E (.ref BR) none H
theorem Zf (T:CD K mg A):OF P w K mg base "Stretches.put" vJ ["self","first","many","rights","tie"] 5 (fR A.Aa A.Au A.Bg):=by
 let Z:=@jP P w K mg base A T;let a0:=@nM P w K mg base A T;let Y:=@DK P w K mg base A T
 .intro f ap ah ar s H vs Q E L ad;let(p,a,rs,x,n,r,W,t,rfl,J,ho,a7,a5,q):=ad;let(a2,vs,h1,h2,aq):=id J;show(_,(aD (lE (XD Z (-L) ZC (EC (BC 3) IC)))
   (aD (ME (JG (rG (GD (BC 0) T.Ae a0 (-L) ZC (EC (BC 1) (EC (BC 2) IC))))) (bD (WG VG rfl T.L9 (EC xF IC))) OE)
   (bD (lE (GD (BC 0) T.Ae Y (-L) ZC (EC (BC 1) (EC (BC 2) (EC (oJ (EC (dG (EC (BC 1) (EC (BC 2) (EC (BC 3) (EC (BC 4) IC))))) IC)) IC)))))))),?_)
  unfold cV c6 eV;rfl';simp only[h1];rfl';by_cases c:0<=r/\r<=3
  .rw[jA c] at q;rw[jA (by rw[wI,pA c.1,pA c.2];rfl)];show(SF ∅,a,rs,J,ho,⋯,λao N=>?_);by_cases D:ZE rs x n=[]
   .rw[jA D] at q;rw[pA D];show oE (a2,_,N _ _ h1,SF ∅,λF a9 lp U=>?_);let ab:=nE (o:=.tup [V.int x,V.int n,V.int r,W]) N a9;let O:=nE (o:=.lst [V.ref F]) ab U;let ac:=nE (o:=.lst [V.ref F]) iE U;show(a,rs,J.same O,ho,a7,[(x,n,r,t)],[.ref F],rfl,.cons (F,W,rfl,ac _ _ jD,a5.same O) .nil,by change 1<=100000;decide,λa1 H' a4 a3=>q a1 H' a4 λc o a6 a8=>a3 c o (O c o a6) a8)
   .rw[fA D] at q;rw[DA D];show fE (q _ N)
  .rw[fA c] at q;rw[fA (by rw[wI];simpa using c)];show q
theorem ag {C q TK:Addr}:∀vs H Q E,fR C q TK vs H Q E->vs.length=5:=λvs H Q E D=>by
 let(p,a,rs,x,n,r,F,t,rfl,_):=D;rfl
theorem bg (T:CD K mg A):QC P w K mg base A.Aa "put" 6 ["self","first","many","rights","tie"] [] (fR A.Aa A.Au A.Bg):=T.Fu.have fe ag (Zf T)
def EK (C NM:Addr):Sp:=λvs H Q E=>∃(p a:Addr) (rs:!Rn) (x n:Int),vs=[.ref p,.int x,.int n]/\jE C H p a rs/\YC rs/\rs.length<=1000000/\∀H',JC H H'->if ((ZE rs x n).map (·.m)).sum=n then Q .non H' else E (.ref NM) none H'
theorem fV (T:CD K mg A):QC P w K mg base A.Aa "check_full" 6 ["self","first","many"] [] (EK A.Aa A.Av):=by
 let L:=@oM P w K mg base A T;show T.Cc.have je (λvs H Q E F=>?_) ?_
 .let(p,a,rs,x,n,rfl,_):=F;rfl
 .intro f Z W a1 s H vs Q E U F;let(p,a,rs,x,n,rfl,J,ho,O,q):=F;let(N,vs,h1,h2,a0):=id J;show(_,(bD (ME (JG (rG (GD (BC 0) T.Ae L (-U) ZC (EC (BC 1) (EC (BC 2) IC))))) (bD (WG VG rfl T.Es (EC xF IC))) OE)),?_);unfold d6;rfl';show(N,_,h1,SF ∅,a,rs,J,ho,O,λY V=>?_);let D:=q _ V;by_cases c:((ZE rs x n).map (·.m)).sum=n
  .rw[jA c] at D;rw[pA c];show oE D
  .rw[fA c] at D;rw[DA c];show fE D
def o6 (C NM:Addr):Sp:=λvs H Q E=>∃(p a:Addr) (rs:!Rn) (x n:Int),vs=[.ref p,.int x,.int n]/\jE C H p a rs/\YC rs/\rs.length<=100000/\
 if ((ZE rs x n).map (·.m)).sum=n then ∀a' H',jE C H' p a' (AE rs x n [])->Bu p H H'->Q .non H' else ∀H',JC H H'->E (.ref NM) none H'
theorem kP (T:CD K mg A):QC P w K mg base A.Aa "cut" 7 ["self","first","many"] [] (o6 A.Aa A.Av):=by
 let V:=@fV P w K mg base A T;let U:=@DK P w K mg base A T;show T.Fv.have ie (λvs H Q E J=>?_) ?_
 .let(p,a,rs,x,n,rfl,_):=J;rfl
 .intro f a6 a4 a8 s H vs Q E N J;let(p,a,rs,x,n,rfl,D,ho,a1,q):=J;let(L,vs,h1,h2,a7):=id D;show(_,(aD (lE (GD (BC 0) T.Ae V (-N) ZC (EC (BC 1) (EC (BC 2) IC))))
   (bD (lE (GD (BC 0) T.Ae U (-N) ZC (EC (BC 1) (EC (BC 2) (EC (oJ IC) IC))))))),?_)
  unfold EK eV;rfl';show(L,_,h1,SF ∅,a,rs,D,ho,⋯,λa5 F=>?_);by_cases c:((ZE rs x n).map (·.m)).sum=n
  .rw[jA c] at q;rw[jA c];show(L,_,F _ _ h1,SF ∅,λlp a2=>?_);let O:=nE (o:=.lst []) F a2;show(a,rs,D.same O,ho,a1,[],[],rfl,.nil,by decide,λW H' Z Y=>q W H' Z λc o a0 a3=>Y c o (O c o a0) a3)
  .rw[fA c] at q;rw[fA c];show q _ F
theorem qM {C:Addr} {H:Hp} {x q a:Addr} (h1:H x=none) (h2:H q=none) (D:FC (FC H q (.own x)) x (.ins C q []) a=none):
  jE C (FC (FC (FC (FC H q (.own x)) x (.ins C q [])) a (.lst [])) x (.ins C q (sH a))) x a []/\JC H (FC (FC (FC (FC H q (.own x)) x (.ins C q [])) a (.lst [])) x (.ins C q (sH a))):=by
 let N:a≠x:=λe=>by subst e;rw[jD] at D;cases D
 show⟨(q,[],jD,by rw[VC N,jD],.nil),λb o F=>?_⟩;let J:b≠x:=OD F h1;let L:b≠q:=OD F h2;let O:b≠a:=λe=>by subst e;rw[VC J,VC L,F] at D;cases D
 rw[VC J,VC O,VC J,VC L];show F
def p6 (C:Addr):Sp:=λvs H Q ο=>∃(p a:Addr) (rs:!Rn),vs=[.ref p]/\jE C H p a rs/\∀p' a' H',JC H H'->H p'=none->jE C H' p' a' rs->Q (.ref p') H'
theorem cg (T:CD K mg A):QC P w K mg base A.Aa "copied" 3 ["self"] [] (p6 A.Aa):=by
 let Z:=@m6 P w K mg base A T;show T.Dt.have Y4 (λvs H Q E V=>?_) ?_
 .let(p,a,rs,rfl,_):=V;rfl
 .intro f a9 a8 ac s H vs Q E a7 V;let(p,a,rs,rfl,a2,q):=V;let(a0,vs,h1,h2,a1):=id a2;show(_,(aD (SD (i:=1) Y4.nd rfl (Or.inl rfl) (V0 Z (-a7) ZC))
   (aD (cG (BC 1) (xN zQ rfl T.Dr lC (EC (FD (BC 0) rfl) IC)) rfl)
   (bD (PD (BC 1))))),?_)
  unfold aV;rfl';intro J O D a5 ab L a4;let(a3,F):=qM D a5 a4;generalize FC (FC (FC (FC H O (.own J)) J (.ins A.Aa O [])) L (.lst [])) J (.ins A.Aa O (sH L))=H1 at *;show(_,a0,_,F _ _ h1,T.Ae,T.Ah,_,wJ,a,rfl,_,.inl (pD.of (F _ _ h2)),λl U=>?_);let(W,ad,Y,_):=id a3;let N:=nE (o:=.lst vs) (iE (H:=H1)) U;show(_,W,_,N _ _ Y,T.Ae,T.Ah,by change 1 < 1000;decide,?_);let a6:l≠J:=λe=>by rw[e,Y] at U;cases U
  let ep:LC "runs" (.ref l) (sH L)=sH l:=rfl;show q _ l _ ?_ D ?_
  .show GH (F.trans N) D
  .rw[ep];show(W,vs,jD,by rw[VC a6,jD],MC.same a1 (GH (F.trans N) D))
abbrev Kvs:=!(Key×V)
def JD (kvs:Kvs):!Key:=kvs.map (·.1)
def SH (ks:!Key) (k:Nat):Prop:=(inl (k:Int):Key)∉ks/\∀j:Nat,j < k->(inl (j:Int):Key)∈ks
theorem SH.one {ks:!Key} {a b:Nat} (h:SH ks a) (g:SH ks b):a=b:=by
 let q||q||q:=Nat.lt_trichotomy a b
 .show absurd (g.2 a q) h.1
 .show q
 .show absurd (h.2 b q) g.1
theorem r6:∀(i:Nat) (ks:!Int),(∀j:Nat,j < i->(j:Int)∈ks)->i<=ks.length
 |0,_,_=>vC _
 |i+1,ks,h=>by
  let hm:=h i (Nat.lt_succ_self i);have:=r6 i (ks.erase (i:Int)) λj hj=>(List.mem_erase_of_ne ⋯).mpr (h j ⋯);rw[List.length_erase_of_mem hm] at this;have:=List.length_pos_of_mem hm;omega
def kI:Key->Int
 |.inl i=>i
 |.inr _=>0
theorem rM (i:Nat) (ks:!Key) (h:∀j:Nat,j < i->(inl (j:Int):Key)∈ks):i<=ks.length:=by
 have:=r6 i (ks.map kI) λj q=>cA.mpr (_,h j q,rfl);rwa[iA] at this
theorem hV {kvs:Kvs} {k:Key} (h:k∈JD kvs):(SC kvs k).isSome=true:=by
 cases e:SC kvs k with
 |none=>show absurd h (Q0 e)
 |some v=>rfl
theorem iV {kvs:Kvs} {k:Key} (h:k∉JD kvs):(SC kvs k).isSome=false:=by
 cases e:SC kvs k with
 |none=>rfl
 |some v=>show absurd (pS e) h
theorem jV {kvs:Kvs} {k:Key} (h:k∈JD kvs):∃v,SC kvs k>v:=by
 cases e:SC kvs k with
 |none=>show absurd h (Q0 e)
 |some v=>show⟨v,rfl⟩
theorem t6 {kvs:Kvs} {k:Key} (h:k∉JD kvs):SC kvs k=none:=by
 cases e:SC kvs k with
 |none=>rfl
 |some v=>show absurd (pS e) h
theorem dg {kvs:Kvs} {k:Key} {v:V} (h:SC kvs k>v):(k,v)∈kvs:=by
 unfold SC at h;cases e:kvs.find? λD=>decide (D.1=k) with
 |none=>rw[e] at h;cases h
 |some p=>
  rw[e] at h;cases h;let h1:=List.find?_some e;let h2:=List.mem_of_find?_eq_some e;let q:p.1=k:=by simpa using h1
  rw[<-q];show h2
theorem sM {kvs:Kvs} {k:Key} {v:V} (h:k∉JD kvs):zD kvs k v=kvs++[(k,v)]:=CQ v (t6 h)
def HH (ks:!Key):Prop:=∀k∈ks,∃i:Int,k=inl i
theorem HH.ns:∀{ks:!Key},HH ks->ks=(ks.map kI).map inl
 |[],_=>rfl
 |k::ks,h=>by
  let(i,rfl):=h k aA;rw[BA,BA,<-HH.ns (ks:=ks) λx hx=>h x (qA _ hx)]
  rfl
theorem HH.drop {ks:!Key} {k:Key} (h:HH ks):HH (ks.filter λx=>decide (x≠k)):=λx q=>h x (HA.mp q).1
def Kd (d:Addr) (H H':Hp):Prop:=∀c o,H c>o->c≠d->H' c>o
theorem Kd.trans {q:Addr} {H D F:Hp} (a:Kd q H D) (b:Kd q D F):Kd q H F:=λc o h J=>b c o (a c o h J) J
theorem Kd.of {d:Addr} {H H':Hp} (s:JC H H'):Kd d H H':=λc o h ο=>s c o h
theorem XE {q:Addr} {H:Hp} {o:HO}:Kd q H (FC H q o):=λc u h D=>by rw[VC D];show h
def sp_least_free:Sp:=λvs H Q ο=>∃(a:Addr) (kvs:Kvs),vs=[.ref a]/\H a>(.dK kvs)/\∀k:Nat,SH (JD kvs) k->Q (.int k) H
theorem lV (T:CD K mg A):pE P w K mg base "least_free" 1 ["numbers"] [] sp_least_free:=by
 show T.Hu.have xT (λvs H Q E D=>?_) ?_
 .let(a,kvs,rfl,_):=D;rfl
 .intro f V U a0 s H vs Q E O D;let(a,kvs,rfl,N,q):=D;show(_,(aD (SD (i:=1) xT.nd rfl (Or.inl rfl) NC)
   (aD (Y2 nB (tN (XZ (bE O) (BC 1) (BC 0))) (bD (SD (i:=1) xT.nd rfl (Or.inl rfl) (KD LF (BC 1) NC))))
   (bD (PD (BC 1))))),?_)
  unfold GL;rfl';show Z2 (λm L H'=>∃i:Nat,L=[↑a,some (.int i)]/\H'=H/\m+i=kvs.length+1/\∀j:Nat,j < i->(inl (j:Int):Key)∈JD kvs) (kvs.length+1) (0,rfl,rfl,rfl,λj h=>absurd h (Nat.not_lt_zero _)) (λm L H'=>?_);rintro⟨i,rfl,rfl,Z,F⟩;rfl';show(_,.inl (kvs,inl (i:Int),.inl N,rfl,rfl),?_);by_cases c:(inl (i:Int):Key)∈JD kvs
  .rw[hV c];let J:∀j:Nat,j < i+1->(inl (j:Int):Key)∈JD kvs:=λj h=>by
    let q||rfl:=Nat.lt_succ_iff_lt_or_eq.mp h
    .show F j q
    .show c
   let W:=rM (i+1) (JD kvs) J;let Y:(JD kvs).length=kvs.length:=by unfold JD;rw[iA]
   show fE (jK ?_);rfl';show(m - 1,⋯,i+1,rfl,⋯,J)
  .rw[iV c];show oE ?_;show q i ⟨c,F⟩
def tM (sh td bd:Addr):!(Str×V):=LC "banks" (.ref bd) (LC "tasks" (.ref td) (LC "shape" (.ref sh) []))
theorem IH {sh q bd:Addr}:(tM sh q bd).lookup ("tasks":Str)=↑q:=by rfl
theorem lP {sh q bd:Addr}:(tM sh q bd).lookup ("banks":Str)=↑bd:=by rfl
theorem KF {sh q bd:Addr} {m:Str} (h:¬m∈(["shape","tasks","banks"]:!Str)):(tM sh q bd).lookup m=none:=by
 simp only[uA,bB,zC,not_or] at h;unfold tM;simp only[wN,h.1,h.2.1,h.2.2,HB]
 rfl
set_option genInjectivity false in
structure Hz where
 p:Addr
 sh:Addr
 td:Addr
 bd:Addr
def u6 (C:Addr):Sp:=λvs H Q ο=>∃(p dx sh:Addr),vs=[.ref p,.ref sh]/\H p>(.ins C dx [])/\∀td bd H',H td=none->H bd=none->td≠bd->Kd p H H'->H' p>(.ins C dx (tM sh td bd))->H' td>(.dK [])->H' bd>(.dK [])->Q .non H'
theorem eg (T:CD K mg A):HF P w K mg base "House" A.Ad 1 ["self","shape"] [] (u6 A.Ad):=by
 show T.Hv.have we (λvs H Q E D=>?_) ?_
 .let(p,U,sh,rfl,_):=D;rfl
 .intro f a1 a0 a3 s H vs Q E a2 D;let(p,U,sh,rfl,Z,q):=D;show(_,(aD (cG (BC 0) (BC 1) rfl)
   (aD (cG (BC 0) YJ rfl)
   (bD (cG (BC 0) YJ rfl)))),?_)
  rfl';simp only[Z];rfl';show(T.Af,T.Bi,λO J=>?_);let N:O≠p:=λD=>by rw[D,jD] at J;cases J
  let Y:H O=none:=by rw[VC N] at J;show J
  show(_,U,_,by rw[VC N.symm,jD],T.Af,T.Aj,by change 1 < 1000;decide,λbd F=>?_);let L:bd≠p:=λD=>by rw[D,jD] at F;cases F
  rw[VC L] at F;let W:bd≠O:=λD=>by rw[D,jD] at F;cases F
  rw[VC W,VC L] at F;show(_,U,_,by rw[VC L.symm,jD],T.Af,T.A1,by change 2 < 1000;decide,?_);show q O bd _ Y F W.symm (λc o h V=>?_) jD (by rw[VC N,VC W.symm,VC N,jD]) (by rw[VC L,jD]);rw[VC V,VC (OD h F),VC V,VC (OD h Y),VC V];show h
theorem mV {sh q bd:Addr}:(tM sh q bd).lookup ("shape":Str)=↑sh:=by rfl
set_option genInjectivity false in
structure Tk where
 n:Int
 p:Addr
 rs:!Rn
def HD (tks:!Tk):Kvs:=tks.map λt=>((inl t.n:Key),V.ref t.p)
def QF (S:Addr) (H:Hp) (t:Tk):Prop:=∃a,jE S H t.p a t.rs/\YC t.rs/\t.rs.length<=10000
structure YD (A:rD) (H:Hp) (z:Hz) (l f g:Int) (tks:!Tk) (bk:Kvs):Prop where
 me:∃dx,H z.p>(.ins A.Ad dx (tM z.sh z.td z.bd))
 sh:TD A.Ag H z.sh l f g
 t:H z.td>(.dK (HD tks))
 b:H z.bd>(.dK bk)
 st:∀t∈tks,QF A.Aa H t
 nd:(tks.map Tk.p).Nodup
 nk:(tks.map Tk.n).Nodup
 vb:∀kv∈bk,∃i:Int,kv.2=.int i
 ne:z.td≠z.bd
 np:∀t∈tks,t.p≠z.p/\t.p≠z.sh
theorem QF.same {S:Addr} {H H':Hp} {t:Tk} (h:QF S H t) (s:JC H H'):QF S H' t:=let ⟨a,h1,h2⟩:=h;(a,h1.same s,h2)
theorem YD.same {A:rD} {H H':Hp} {D:Hz} {l f g:Int} {q:!Tk} {bk:Kvs} (h:YD A H D l f g q bk) (s:JC H H'):YD A H' D l f g q bk:=
 (let ⟨dx,e⟩:=h.me;⟨dx,s _ _ e⟩,h.sh.same s,s _ _ h.t,s _ _ h.b,λt F=>(h.st t F).same s,h.nd,h.nk,h.vb,h.ne,h.np)
theorem ND.kd {H H':Hp} {d:Addr} {v:V} {o:HO} (hd:H d>o) (ho:∀xs,o≠.tup xs) (k:Kd d H H'):∀{t:Option (Int×Int)},ND H v t->ND H' v t
 |none,h=>h
 |some (b,i),⟨a,e,h⟩=>(a,e,k _ _ h (cD h hd (λz=>ho _ z.symm)))
theorem MC.kd {H H':Hp} {q:Addr} {o:HO} (hd:H q>o) (ho:∀xs,o≠.tup xs) (k:Kd q H H') {vs:!V} {rs:!Rn} (h:MC H vs rs):MC H' vs rs:=
 Paired.mapP h λ_ _ ⟨a,D,e,h1,h2⟩=>(a,D,e,k _ _ h1 (cD h1 hd (λF=>ho _ F.symm)),h2.kd hd ho k)
theorem QF.kd {S d:Addr} {H H':Hp} {t:Tk} {kvs:Kvs} (h:QF S H t) (hd:H d>(.dK kvs)) (k:Kd d H H'):QF S H' t:=
 let ⟨a,⟨dx,vs,h1,h2,h3⟩,h4⟩:=h
 (a,(dx,vs,k _ _ h1 (cD h1 hd nofun),k _ _ h2 (cD h2 hd nofun),h3.kd hd (λο z=>nomatch z) k),h4)
theorem QF.bu {S p:Addr} {H H':Hp} {t:Tk} {F:Addr} {fs:!(Str×V)} (h:QF S H t) (D:H p>(.ins S F fs)) (J:t.p≠p) (k:Bu p H H'):QF S H' t:=
 let ⟨a,⟨dx1,vs,h1,h2,h3⟩,h4⟩:=h
 (a,(dx1,vs,k _ _ h1 J,k _ _ h2 (cD h2 D nofun),h3.kd D (λο q=>nomatch q) k),h4)
def HE (n:Int) (rs:!Rn) (tks:!Tk):!Tk:=tks.map λt=>if t.n=n then {t with rs:=rs} else t
theorem uM {n:Int} {rs:!Rn} {q:!Tk}:HD (HE n rs q)=HD q:=by
 unfold HD HE;rw[CA];show IA λt ο=>?_;change ((inl (if t.n=n then {t with rs:=rs} else t).n:Key),V.ref (if t.n=n then {t with rs:=rs} else t).p)=_;by_cases h:t.n=n
 .rw[jA h]
 .rw[fA h]
theorem w6 {n:Int} {rs:!Rn} {q:!Tk}:(HE n rs q).map Tk.p=q.map Tk.p:=by
 unfold HE;rw[CA];show IA λt ο=>?_;change (if t.n=n then {t with rs:=rs} else t).p=t.p;by_cases h:t.n=n
 .rw[jA h]
 .rw[fA h]
theorem y6 {n:Int} {rs:!Rn} {q:!Tk}:(HE n rs q).map Tk.n=q.map Tk.n:=by
 unfold HE;rw[CA];show IA λt ο=>?_;change (if t.n=n then {t with rs:=rs} else t).n=t.n;by_cases h:t.n=n
 .rw[jA h]
 .rw[fA h]
theorem xJ {α β:Type} {f:α->β}:∀{xs:!α} {a b:α},(xs.map f).Nodup->a∈xs->b∈xs->f a=f b->a=b
 |[],_,_,_,h,_,_=>by simp at h
 |x::xs,a,b,nd,ha,hb,e=>by
  rw[BA,KA] at nd;let e1||h1:=uA.mp ha<;>let e2||h2:=uA.mp hb
  .rw[e1,e2]
  .show absurd (cA.mpr (b,h2,by rw[<-e,e1])) nd.1
  .show absurd (cA.mpr (a,h1,by rw[e,e2])) nd.1
  .show xJ nd.2 h1 h2 e
theorem YD.set {A:rD} {H H':Hp} {q:Hz} {l f g:Int} {L:!Tk} {bk:Kvs} {t:Tk} {V:Addr} {J:!Rn} (h:YD A H q l f g L bk) (D:t∈L) (a1:jE A.Aa H' t.p V J) (ho:YC J) (a2:J.length<=10000) (k:Bu t.p H H'):YD A H' q l f g (HE t.n J L) bk:=by
 let(a,(a3,vs,N,_,_),_):=h.st t D;let(Y,a0):=h.me;let(Z,es):=id h.sh;show(⟨Y,k _ _ a0 (h.np t D).1.symm⟩,⟨Z,k _ _ es (h.np t D).2.symm⟩,by rw[uM];show k _ _ h.t (cD h.t N nofun),k _ _ h.b (cD h.b N nofun),λu U=>?_,by rw[w6];show h.nd,by rw[y6];show h.nk,h.vb,h.ne,λu U=>?_)
 .let(v,F,rfl):=cA.mp U;by_cases O:v.n=t.n
  .obtain rfl:v=t:=xJ h.nk F D O;rw[jA rfl];show(V,a1,ho,a2)
  .rw[fA O];show (h.st v F).bu N (λq=>O (by rw[xJ h.nd F D q])) k
 .let W:u.p∈(HE t.n J L).map Tk.p:=cA.mpr (u,U,rfl);rw[w6] at W;let(v,F,e):=cA.mp W;rw[<-e];show h.np v F
theorem IN {q:!Tk} {n:Int} (h:(inl n:Key)∈JD (HD q)) (N:(q.map Tk.n).Nodup):∃t∈q,t.n=n/\SC (HD q) (inl n)=↑t.p:=by
 let(v,D):=jV h;let(t,L,e):=cA.mp (dg D);let F:(inl t.n:Key)=inl n:=congrArg Prod.fst e;let J:V.ref t.p=v:=congrArg Prod.snd e;show(t,L,kB F,by rw[J];show D)
def vM (A:rD):Sp:=λvs H Q E=>∃(z:Hz) (l f g:Int) (tks:!Tk) (bk:Kvs) (n:Int),vs=[.ref z.p,.int n]/\YD A H z l f g tks bk/\((inl n∈JD (HD tks)/\Q .non H)\/(inl n∉JD (HD tks)/\E (.ref A.As) none H))
theorem JH (T:CD K mg A):QC P w K mg base A.Ad "check_task" 1 ["self","task"] [] (vM A):=by
 show T.Dw.have Re (λvs H Q E D=>?_) ?_
 .let(D,l,f,g,L,bk,n,rfl,_):=D;rfl
 .intro f O N W s H vs Q E J D;let(D,l,V,g,L,bk,n,rfl,F,q):=D;let(U,h1):=F.me;show(_,(bD (ME (tN (FQ (bE J) (BC 1) (FD (BC 0) rfl))) (bD (WG VG rfl T.K9 (EC xF IC))) OE)),?_);unfold jF;rfl';simp only[h1];rfl';show(T.Af,T.Aj,_,IH,D.td,rfl,_,.inl (_,inl n,.inl F.t,rfl,rfl),?_);let(h,q)||(h,q):=q
  .rw[hV h];show oE q
  .rw[iV h];show fE q
def nV (A:rD):Sp:=λvs H Q E=>∃(z:Hz) (l f g:Int) (tks:!Tk) (bk:Kvs) (n:Int),vs=[.ref z.p,.int n]/\YD A H z l f g tks bk/\((inl n∈JD bk/\Q .non H)\/(inl n∉JD bk/\E (.ref A.A4) none H))
theorem mP (T:CD K mg A):QC P w K mg base A.Ad "check_bank" 1 ["self","bank"] [] (nV A):=by
 show T.Dx.have Se (λvs H Q E D=>?_) ?_
 .let(D,l,f,g,L,bk,n,rfl,_):=D;rfl
 .intro f O N W s H vs Q E J D;let(D,l,V,g,L,bk,n,rfl,F,q):=D;let(U,h1):=F.me;show(_,(bD (ME (tN (FQ (bE J) (BC 1) (FD (BC 0) rfl))) (bD (WG VG rfl T.La (EC xF IC))) OE)),?_);unfold jF;rfl';simp only[h1];rfl';show(T.Af,T.A1,_,lP,D.bd,rfl,_,.inl (bk,inl n,.inl F.b,rfl,rfl),?_);let(h,q)||(h,q):=q
  .rw[hV h];show oE q
  .rw[iV h];show fE q
def oV (A:rD):Sp:=λvs H Q E=>∃(z:Hz) (l f g:Int) (tks:!Tk) (bk:Kvs) (n x m:Int),vs=[.ref z.p,.int n,.int x,.int m]/\YD A H z l f g tks bk/\
 ((inl n∉JD (HD tks)/\E (.ref A.As) none H)\/(inl n∈JD (HD tks)/\UD x m (pw (l * f))=false/\E (.ref A.Aq) none H)\/(inl n∈JD (HD tks)/\UD x m (pw (l * f))=true/\Q .non H))
theorem nP (T:CD K mg A):QC P w K mg base A.Ad "check_stretch" 5 ["self","task","first","many"] [] (oV A):=by
 let V:=@JH P w K mg base A T;let W:=@iM P w K mg base A T;show T.Cm.have Te (λvs H Q E D=>?_) ?_
 .let(D,l,f,g,U,bk,n,x,m,rfl,_):=D;rfl
 .intro f Z Y a1 s H vs Q E O D;let(D,l,J,g,U,bk,n,x,m,rfl,F,q):=D;let(a0,h1):=F.me;let(N,h2):=id F.sh;show(_,(aD (lE (GD (BC 0) T.Af V (-O) ZC (EC (BC 1) IC)))
   (bD (ME (JG (rG (GD (FD (BC 0) rfl) T.Ax W (-O) ZC (EC (BC 2) (EC (BC 3) IC))))) (bD (WG VG rfl T.Ep (EC xF IC))) OE))),?_)
  unfold vM o5;rfl';simp only[h1];rfl';show(KF ∅,D,rfl,l,J,g,U,bk,F,?_);let(h,q)||(h,L,q)||(h,L,q):=q
  .show .inr ⟨h,q⟩
  .show .inl (h,T.Af,T.Bi,_,mV,D.sh,rfl,N,_,h2,fJ ∅,D.sh,rfl,l,J,g,F.sh,?_);rw[L];show fE q
  .show .inl (h,T.Af,T.Bi,_,mV,D.sh,rfl,N,_,h2,fJ ∅,D.sh,rfl,l,J,g,F.sh,?_);rw[L];show oE q
def N6 (A:rD):Sp:=λvs H Q E=>∃(z:Hz) (l f g:Int) (tks:!Tk) (bk:Kvs) (b st m:Int),vs=[.ref z.p,.int b,.int st,.int m]/\YD A H z l f g tks bk/\
 ((inl b∉JD bk/\E (.ref A.A4) none H)\/∃i:Int,SC bk (inl b)>(.int i)/\((¬(0<=st/\st<=i - m)/\E (.ref A.Ay) none H)\/((0<=st/\st<=i - m)/\Q .non H)))
theorem oP (T:CD K mg A):QC P w K mg base A.Ad "check_part_of_bank" 3 ["self","bank","start","many"] [] (N6 A):=by
 let O:=@mP P w K mg base A T;let N:=@fM P w K mg base A T;show T.Bx.have Ue (λvs H Q E D=>?_) ?_
 .let(D,l,f,g,L,bk,b,st,m,rfl,_):=D;rfl
 .intro f Y W a0 s H vs Q E J D;let(D,l,U,g,L,bk,b,st,m,rfl,F,q):=D;let(Z,h1):=F.me;show(_,(aD (lE (GD (BC 0) T.Af O (-J) ZC (EC (BC 1) IC)))
   (bD (ME (JG (rG (XD N (-J) ZC (EC (BC 2) (EC NC (EC (KD dI (FF (bE J) (FD (BC 0) rfl) (BC 1) (λο ο=>rfl)) (BC 3)) IC)))))) (bD (WG VG rfl T.Er (EC xF IC))) OE))),?_)
  unfold nV sp_is_within eE;rfl';simp only[h1];rfl';show(KF ∅,D,rfl,l,U,g,L,bk,F,?_);let(h,q)||(i,hi,q):=q
  .show .inr ⟨h,q⟩
  .show .inl (pS hi,T.Af,T.A1,_,lP,D.bd,rfl,_,.inl (bk,inl b,.inl F.b,rfl,hi.symm),i,rfl,?_);rw[wI];let(h,q)||((h2,V),q):=q
   .let e:(decide (0<=st)&&decide (st<=i - m))=false:=by
     rw[uC];intro D;simp only[MA,ZA] at D;show h D
    rw[e];show fE q
   .rw[pA h2,pA V];show oE q
theorem YD.more {A:rD} {H H':Hp} {D:Hz} {l f g:Int} {L:!Tk} {bk:Kvs} {k:Int} {p:Addr} (h:YD A H D l f g L bk) (s:JC H H') (V:H p=none) (a0:QF A.Aa H' (k,p,[])) (hk:inl k∉JD (HD L)):
  YD A (FC H' D.td (.dK (HD (L++[(k,p,[])])))) D l f g (L++[(k,p,[])]) bk:=by
 let J:=h.same s;let(W,e):=J.me;let(Z,es):=id J.sh;let a1:∀t∈L,t.p≠p:=λt F D=>by
  let(a,(W,vs,N,_),_):=h.st t F;rw[D,V] at N;cases N
 show(⟨W,?_⟩,⟨Z,?_⟩,jD,?_,λt F=>?_,?_,?_,h.vb,h.ne,λt F=>?_)
 .rw[VC (cD e J.t nofun)];show e
 .rw[VC (cD es J.t nofun)];show es
 .rw[VC h.ne.symm];show J.b
 .let q||q:=kA.mp F
  .show (J.st t q).kd J.t XE
  .rw[bA.mp q];show a0.kd J.t XE
 .rw[nA,BA,IB,LA];show(h.nd,by simp,λa O b U=>?_);let(t,F,rfl):=cA.mp O;rw[bA.mp U];show a1 t F
 .rw[nA,BA,IB,LA];show(h.nk,by simp,λa O b U D=>?_);let(t,F,rfl):=cA.mp O;rw[bA.mp U] at D;show hk ?_;change _∈(HD L).map (·.1);unfold HD;rw[CA];show cA.mpr (t,F,by change (inl t.n:Key)=_;rw[D])
 .let q||q:=kA.mp F
  .show h.np t q
  .rw[bA.mp q];let(a2,Y):=h.me;let(a3,N):=id h.sh;show⟨(λD=>by rw[<-D,V] at Y;cases Y),(λD=>by rw[<-D,V] at N;cases N)⟩
theorem YD.bank {A:rD} {H:Hp} {q:Hz} {l f g:Int} {F:!Tk} {bk D:Kvs} (h:YD A H q l f g F bk) (O:∀U∈D,∃i:Int,U.2=.int i):YD A (FC H q.bd (.dK D)) q l f g F D:=by
 let(J,e):=h.me;let(L,es):=id h.sh;show(⟨J,by rw[VC (cD e h.b nofun)];show e⟩,⟨L,by rw[VC (cD es h.b nofun)];show es⟩,by rw[VC h.ne];show h.t,jD,λt N=>(h.st t N).kd h.b XE,h.nd,h.nk,O,h.ne,h.np)
def FK (A:rD):Sp:=λvs H Q ο=>∃(z:Hz) (l f g:Int) (tks:!Tk) (bk:Kvs),vs=[.ref z.p]/\YD A H z l f g tks bk/\tks.length < 1000/\
 ∀(k:Nat) (p:Addr) (H':Hp),SH (JD (HD tks)) k->YD A H' z l f g (tks++[(k,p,[])]) bk->H p=none->Kd z.td H H'->Q (.int k) H'
theorem pV (T:CD K mg A):QC P w K mg base A.Ad "new_task" 3 ["self"] [] (FK A):=by
 let Y:=@lV P w K mg base A T;let Z:=@m6 P w K mg base A T;show T.E0.have w4 (λvs H Q E F=>?_) ?_
 .let(F,l,f,g,N,bk,rfl,_):=F;rfl
 .intro f a6 a5 ac s H vs Q E L F;let(F,l,a7,g,N,bk,rfl,O,a8,q):=F;let(a0,h1):=O.me;let a9:(HD N).length=N.length:=by unfold HD;rw[iA]
  show(_,(aD (SD (i:=1) w4.nd rfl (Or.inl rfl) (XD Y (-L) ZC (EC (FD (BC 0) rfl) IC)))
   (aD (gH (bE L) (FD (BC 0) rfl) (BC 1) (V0 Z (-L) ZC) rfl)
   (bD (PD (BC 1))))),?_)
  unfold sp_least_free aV kE;rfl';simp only[h1];rfl';show(T.Af,T.Aj,_,IH,F.td,rfl,_,O.t,λk hk x ex U a2 ab D J=>?_);let W:D≠x:=λF=>by rw[F,jD] at J;cases J
  rw[VC W] at J;let a4:D≠ex:=λF=>by rw[F,jD] at J;cases J
  rw[VC a4] at J;let V:JC H (FC (FC (FC (FC H ex (.own x)) x (.ins A.Aa ex [])) D (.lst [])) x (.ins A.Aa ex (sH D))):=λc o h=>by
   rw[VC (OD h U),VC (OD h J),VC (OD h U),VC (OD h a2)];show h
  let a3:FC (FC (FC (FC H ex (.own x)) x (.ins A.Aa ex [])) D (.lst [])) x (.ins A.Aa ex (sH D)) x>(.ins A.Aa ex (sH D)):=jD;let a1:FC (FC (FC (FC H ex (.own x)) x (.ins A.Aa ex [])) D (.lst [])) x (.ins A.Aa ex (sH D)) D>(.lst []):=by rw[VC W,jD]
  generalize FC (FC (FC (FC H ex (.own x)) x (.ins A.Aa ex [])) D (.lst [])) x (.ins A.Aa ex (sH D))=H3 at *;let hz:=PySem.sizeLine_eq;show(_,a0,_,V _ _ h1,T.Af,T.Aj,_,IH,F.td,rfl,_,.inl (_,inl (k:Int),V _ _ O.t,rfl,⋯,rfl),?_);let e:zD (HD N) (inl (k:Int)) (.ref x)=HD (N++[(k,x,[])]):=by
   rw[sM hk.1];unfold HD;rw[nA];rfl
  rw[e];show q k x _ hk (O.more V U (D,(ex,[],a3,a1,.nil),⟨.nil,(λr L=>by simp at L)⟩,by change (0:Nat)<=10000;decide) hk.1) U ((Kd.of V).trans XE)
def pP (A:rD):Sp:=λvs H Q E=>∃(z:Hz) (l f g:Int) (tks:!Tk) (bk:Kvs) (n:Int),vs=[.ref z.p,.int n]/\YD A H z l f g tks bk/\bk.length < 1000/\
 (((1<=n/\n<=64)/\∀(k:Nat) (H':Hp),SH (JD bk) k->YD A H' z l f g tks (bk++[(inl (k:Int),.int n)])->Kd z.bd H H'->Q (.int k) H')\/(¬(1<=n/\n<=64)/\E (.ref A.Ay) none H))
theorem qV (T:CD K mg A):QC P w K mg base A.Ad "new_bank" 4 ["self","many"] [] (pP A):=by
 let N:=@lV P w K mg base A T;let L:=@fM P w K mg base A T;show T.E1.have y4 (λvs H Q E D=>?_) ?_
 .let(D,l,f,g,W,bk,n,rfl,_):=D;rfl
 .intro f Z Y a3 s H vs Q E J D;let(D,l,a1,g,W,bk,n,rfl,F,a2,q):=D;let(a0,h1):=F.me;show(_,(aD (ME (JG (rG (XD L (-J) ZC (EC (BC 1) (EC NC (EC (AO rfl T.Ga) IC)))))) (bD (WG VG rfl T.Er (EC xF IC))) OE)
   (aD (SD (i:=2) y4.nd rfl (Or.inl rfl) (XD N (-J) ZC (EC (FD (BC 0) rfl) IC)))
   (aD (gH (bE J) (FD (BC 0) rfl) (BC 2) (BC 1) rfl)
   (bD (PD (BC 2)))))),?_)
  unfold sp_least_free sp_is_within kE;rfl';simp only[h1];rfl';let hz:=PySem.sizeLine_eq;rw[wI];let((h2,O),q)||(h,q):=q
  .rw[pA h2,pA O];show oE (T.Af,T.A1,_,lP,D.bd,rfl,bk,F.b,λk hk=>(T.Af,T.A1,_,lP,D.bd,rfl,_,.inl (bk,inl (k:Int),F.b,rfl,⋯,rfl),?_));rw[sM hk.1];show q k _ hk (F.bank λV U=>?_) XE;let q||q:=kA.mp U
   .show F.vb V q
   .rw[bA.mp q];show⟨n,rfl⟩
  .let e:(decide (1<=n)&&decide (n<=64))=false:=by
    rw[uC];intro D;simp only[MA,ZA] at D;show h D
   rw[e];show fE q
def GG (rs:!Rn) (x m r:Int) (t:Option (Int×Int)):!Rn:=AE rs x m [(x,m,r,t)]
def bV:Option Int->V
 |none=>.non
 |some b=>.int b
def BE (b:Option Int) (st:Int):Option (Int×Int):=b.map λb=>(b,st)
def rV (A : rD) : Sp := λvs H Q E => ∃ (z : Hz) (l f g : Int) (tks : !Tk) (bk : Kvs) (n x m r st : Int) (b : Option Int), vs = [.ref z.p, .int n, .int x, .int m, .int r, bV b, .int st] /\ YD A H z l f g tks bk /\
  ((inl n ∉ JD (HD tks) /\ E (.ref A.As) none H) \/ (inl n ∈ JD (HD tks) /\ UD x m (pw (l * f)) = false /\ E (.ref A.Aq) none H) \/
  (inl n ∈ JD (HD tks) /\ UD x m (pw (l * f)) = true /\ ((¬ (0 <= r /\ r <= 3) /\ E (.ref A.Au) none H) \/ ((0 <= r /\ r <= 3) /\
    ((∃ b', b = some b' /\ ((inl b' ∉ JD bk /\ E (.ref A.A4) none H) \/ ∃ i : Int, SC bk (inl b') = some (.int i) /\ ¬ (0 <= st /\ st <= i - m) /\ E (.ref A.Ay) none H)) \/
    ((∀ b', b = some b' -> ∃ i : Int, SC bk (inl b') = some (.int i) /\ 0 <= st /\ st <= i - m) /\ ∃ t ∈ tks, t.n = n /\
      ((ZE t.rs x m ≠ [] /\ ∀ H', JC H H' -> E (.ref A.Bg) none H') \/ (ZE t.rs x m = [] /\ YC (GG t.rs x m r (BE b st)) /\ (GG t.rs x m r (BE b st)).length <= 10000 /\ ∀ H', YD A H' z l f g (HE n (GG t.rs x m r (BE b st)) tks) bk -> Bu t.p H H' -> Q .non H'))))))))
theorem wM (T:CD K mg A):OF P w K mg base "House.lay" EI ["self","task","first","many","rights","bank","start","tie"] 8 (rV A):=by
 let a7:=@nP P w K mg base A T;let a9:=@jP P w K mg base A T;let a8:=@oP P w K mg base A T;let ab:=@bg P w K mg base A T;intro f b5 b3 bi s H vs Q E O D;let(D,l,V,g,a0,bk,n,x,m,r,st,b,rfl,F,q):=D;let(ac,h1):=F.me;show(_,(aD (lE (GD (BC 0) T.Af a7 (-O) ZC (EC (BC 1) (EC (BC 2) (EC (BC 3) IC)))))
   (aD (lE (XD a9 (-O) ZC (EC (BC 4) IC)))
   (aD (SD (i:=7) CT.nd rfl (Or.inl rfl) CG)
   (EG (ME (yF AZ (BC 5) CG (UC _)) (aD (lE (GD (BC 0) T.Af a8 (-O) ZC (EC (BC 5) (EC (BC 6) (EC (BC 3) IC)))))
   (bD (SD (i:=7) CT.nd rfl (Or.inl rfl) (dG (EC (BC 5) (EC (BC 6) IC)))))) OE)
   (bD (lE (GD (FF (bE O) (FD (BC 0) rfl) (BC 1) (λο ο=>rfl)) T.Ae ab (-O) ZC (EC (BC 2) (EC (BC 3) (EC (BC 4) (EC (BC 7) IC))))))))))),?_)
 unfold oV cV N6 fR eE;rfl';simp only[h1];rfl';show(KF ∅,D,rfl,l,V,g,a0,bk,F,?_);let(h,q)||(h,Y,q)||(h,Y,q):=q
 .show .inl ⟨h,q⟩
 .show .inr (.inl (h,Y,q))
 show .inr (.inr (h,Y,?_));let(L,q)||(L,q):=q
 .rw[fA (by rw[wI];simpa using L)];show q
 rw[jA (by rw[wI,pA L.1,pA L.2];rfl)];let(a3,rfl,q)||(ar,t,Z,a6,q):=q
 .show(λο ο=>False,?_,λο ο D=>D.elim);unfold bV;rfl';simp only[h1];rfl';rw[DA nofun];show fE (KF ∅,D,rfl,l,V,g,a0,bk,F,?_);let(J,q)||(i,hi,J,q):=q
  .show .inl ⟨J,q⟩
  .show .inr (i,hi,.inl ⟨J,q⟩)
 show(λb2 H'=>∃a1,b2=[↑D.p,some (.int n),some (.int x),some (.int m),some (.int r),some (bV b),some (.int st),some a1]/\JC H H'/\ND H' a1 (BE b st),?_,λbm H'=>?_)
 .cases b with
  |none=>
   unfold bV;rfl';show oE ⟨iE,rfl⟩
  |some a3=>
   unfold bV;rfl';simp only[h1];rfl';rw[DA nofun];let(i,hi,J,ao):=ar a3 rfl;show fE (KF ∅,D,rfl,l,V,g,a0,bk,F,.inr (i,hi,.inr (J,ao,λp N=>(nE iE N,p,rfl,jD))))
 rintro⟨a1,rfl,U,aq⟩;let W:=F.same U;rfl';let(t',az,aw,b0):=IN h F.nk;obtain rfl:t'=t:=xJ F.nk az Z (aw.trans a6.symm);let(a,a4,ho,bh):=W.st t' Z;let(ad,bl,ah,bb,be):=id a4;show(_,ac,_,U _ _ h1,T.Af,T.Aj,_,IH,D.td,rfl,_,.inl (_,inl n,.inl W.t,rfl,b0.symm),t'.p,rfl,ad,_,ah,SF ∅,?_);show(t'.p,rfl,a,t'.rs,a4,ho,⋯,BE b st,aq,?_);rw[jA L];let(N,q)||(N,ay,av,q):=q
 .rw[fA N];show λa2 b1=>q _ (U.trans b1)
 .rw[jA N];show λb4 a2 ap a5=>q a2 (by rw[<-a6];show W.set Z ap ay av a5) (λc o au ax=>a5 c o (U c o au) ax)
theorem xM {A:rD}:∀vs H Q E,rV A vs H Q E->vs.length=7:=λvs H Q E q=>by
 let(q,l,f,g,D,bk,n,x,m,r,st,b,rfl,_):=q;rfl
theorem yM (T:CD K mg A):QC P w K mg base A.Ad "lay" 9 ["self","task","first","many","rights","bank","start"] [] (rV A):=T.Jr.have CT xM (wM T)
def fg (A:rD):Sp:=λvs H Q E=>∃(z:Hz) (l f g:Int) (tks:!Tk) (bk:Kvs) (n x m:Int),vs=[.ref z.p,.int n,.int x,.int m]/\YD A H z l f g tks bk/\
 ((inl n∉JD (HD tks)/\E (.ref A.As) none H)\/(inl n∈JD (HD tks)/\UD x m (pw (l * f))=false/\E (.ref A.Aq) none H)\/
 (inl n∈JD (HD tks)/\UD x m (pw (l * f))=true/\∃t∈tks,t.n=n/\
  ((((ZE t.rs x m).map (·.m)).sum≠m/\∀H',JC H H'->E (.ref A.Av) none H')\/(((ZE t.rs x m).map (·.m)).sum=m/\YC (AE t.rs x m [])/\(AE t.rs x m []).length<=10000/\∀H',YD A H' z l f g (HE n (AE t.rs x m []) tks) bk->Bu t.p H H'->Q .non H'))))
theorem zM (T:CD K mg A):QC P w K mg base A.Ad "lift" 9 ["self","task","first","many"] [] (fg A):=by
 let Z:=@nP P w K mg base A T;let a0:=@kP P w K mg base A T;show T.Hw.have ye (λvs H Q E F=>?_) ?_
 .let(F,l,f,g,Y,bk,n,x,m,rfl,_):=F;rfl
 .intro f ah ac au s H vs Q E N F;let(F,l,a4,g,Y,bk,n,x,m,rfl,D,q):=F;let(ao,h1):=D.me;show(_,(aD (lE (GD (BC 0) T.Af Z (-N) ZC (EC (BC 1) (EC (BC 2) (EC (BC 3) IC)))))
   (bD (lE (GD (FF (bE N) (FD (BC 0) rfl) (BC 1) (λο ο=>rfl)) T.Ae a0 (-N) ZC (EC (BC 2) (EC (BC 3) IC)))))),?_)
  unfold oV o6 eE;rfl';simp only[h1];rfl';show(KF ∅,F,rfl,l,a4,g,Y,bk,D,?_);let(h,q)||(h,J,q)||(h,J,t,O,W,q):=q
  .show .inl ⟨h,q⟩
  .show .inr (.inl (h,J,q))
  let(t',a9,a7,ab):=IN h D.nk;obtain rfl:t'=t:=xJ D.nk a9 O (a7.trans W.symm);let(a,U,ho,ar):=D.st t' O;let(a2,av,a3,ap,aq):=id U;show .inr (.inr (h,J,T.Af,T.Aj,_,IH,F.td,rfl,_,.inl (_,inl n,.inl D.t,rfl,ab.symm),t'.p,rfl,a2,_,a3,SF ∅,t'.p,rfl,a,t'.rs,U,ho,⋯,?_));let(L,q)||(L,a8,a6,q):=q
  .rw[fA L];show q
  .rw[jA L];show λad a1 a5 V=>q a1 (by rw[<-W];show D.set O a5 a8 a6 V) V
theorem LI {q:!Tk} {t:Tk} (D:t∈q):(inl t.n:Key)∈JD (HD q):=by
 unfold JD HD;rw[CA];show cA.mpr (t,D,rfl)
def O6 (A:rD):Sp:=λvs H Q E=>∃(z:Hz) (l f g:Int) (tks:!Tk) (bk:Kvs) (n x:Int),vs=[.ref z.p,.int n,.int x]/\YD A H z l f g tks bk/\
 ((inl n∉JD (HD tks)/\E (.ref A.As) none H)\/∃t∈tks,t.n=n/\∀v H',JC H H'->ND H' v ((pm t.rs x).bind (·.2))->Q v H')
theorem qP (T:CD K mg A):QC P w K mg base A.Ad "tie_at" 7 ["self","task","page"] [] (O6 A):=by
 let U:=@JH P w K mg base A T;let V:=@iP P w K mg base A T;show T.Gd.have Pe (λvs H Q E D=>?_) ?_
 .let(D,l,f,g,O,bk,n,x,rfl,_):=D;rfl
 .intro f a5 a4 ab s H vs Q E L D;let(D,l,Z,g,O,bk,n,x,rfl,F,q):=D;let(a6,h1):=F.me;show(_,(aD (lE (GD (BC 0) T.Af U (-L) ZC (EC (BC 1) IC)))
   (bD (PD (GD (FF (bE L) (FD (BC 0) rfl) (BC 1) (λο ο=>rfl)) T.Ae V (-L) ZC (EC (BC 2) IC))))),?_)
  unfold vM l6 eE;rfl';simp only[h1];rfl';show(KF ∅,D,rfl,l,Z,g,O,bk,F,?_);let(h,q)||(t,J,a0,q):=q
  .show .inr ⟨h,q⟩
  subst a0;let(t',a2,a1,a3):=IN (LI J) F.nk;obtain rfl:t'=t:=xJ F.nk a2 J a1;let(a,N,ho,a9):=F.st t' J;let(W,ac,Y,a7,a8):=id N;show .inl (LI J,T.Af,T.Aj,_,IH,D.td,rfl,_,.inl (_,inl t'.n,.inl F.t,rfl,a3.symm),t'.p,rfl,W,_,Y,SF ∅,t'.p,rfl,a,t'.rs,N,ho,⋯,q)
def GK (A:rD):Sp:=λvs H Q E=>∃(z:Hz) (l f g:Int) (tks:!Tk) (bk:Kvs) (n:Int),vs=[.ref z.p,.int n]/\YD A H z l f g tks bk/\
 ((inl n∉JD (HD tks)/\E (.ref A.As) none H)\/∃t∈tks,t.n=n/\∀b us,H b=none->MC (FC H b (.lst us)) us t.rs->Q (.ref b) (FC H b (.lst us)))
theorem sV (T:CD K mg A):QC P w K mg base A.Ad "stretches_of" 2 ["self","task"] [] (GK A):=by
 let U:=@JH P w K mg base A T;let V:=@Xf P w K mg base A T;show T.Cw.have Qe (λvs H Q E D=>?_) ?_
 .let(D,l,f,g,O,bk,n,rfl,_):=D;rfl
 .intro f a5 a4 ab s H vs Q E L D;let(D,l,Z,g,O,bk,n,rfl,F,q):=D;let(a6,h1):=F.me;show(_,(aD (lE (GD (BC 0) T.Af U (-L) ZC (EC (BC 1) IC)))
   (bD (PD (cJ (FF (bE L) (FD (BC 0) rfl) (BC 1) (λο ο=>rfl)) T.Ae V (-L) ZC)))),?_)
  unfold vM eE j6;rfl';simp only[h1];rfl';show(KF ∅,D,rfl,l,Z,g,O,bk,F,?_);let(h,q)||(t,J,a0,q):=q
  .show .inr ⟨h,q⟩
  subst a0;let(t',a2,a1,a3):=IN (LI J) F.nk;obtain rfl:t'=t:=xJ F.nk a2 J a1;let(a,N,ho,a9):=F.st t' J;let(W,ac,Y,a7,a8):=id N;show .inl (LI J,T.Af,T.Aj,_,IH,D.td,rfl,_,.inl (_,inl t'.n,.inl F.t,rfl,a3.symm),t'.p,rfl,W,_,Y,SF ∅,t'.p,rfl,a,t'.rs,N,q)
def tV (A : rD) : Sp := λvs H Q E => ∃ (z : Hz) (l f g : Int) (tks : !Tk) (bk : Kvs) (n a wn : Int), vs = [.ref z.p, .int n, .int a, .int wn] /\ YD A H z l f g tks bk /\ gd l f g /\
  ((inl n ∉ JD (HD tks) /\ E (.ref A.As) none H) \/ ∃ t ∈ tks, t.n = n /\ ((¬ (0 <= a /\ a < pw (l * f) * pw g) /\ E (.ref A.Aq) none H) \/ ((0 <= a /\ a < pw (l * f) * pw g) /\ ((pm t.rs (a / pw g) = none /\ ∀ H', JC H H' -> E (.ref A.Av) none H') \/
    ∃ r ti, pm t.rs (a / pw g) = some (r, ti) /\ ((Builtin.bitAnd r wn ≠ wn /\ ∀ H', JC H H' -> E (.ref A.Bc) none H') \/ (Builtin.bitAnd r wn = wn /\ ∀ p H', JC H H' -> H' p = some (.tup [.int (a / pw g), .int (a % pw g)]) -> Q (.ref p) H'))))))
theorem P6 (T:CD K mg A):QC P w K mg base A.Ad "asked" 7 ["self","task","address","want"] [] (tV A):=by
 let a1:=@JH P w K mg base A T;let a3:=@JU P w K mg base A T;let a2:=@gP P w K mg base A T;show T.Hc.have IT (λvs H Q E D=>?_) ?_
 .let(D,l,f,g,a0,bk,n,a,ap,rfl,_):=D;rfl
 .intro f au aq ay s H vs Q E L D;let(D,l,U,g,a0,bk,n,a,ap,rfl,F,a8,q):=D;let(a4,h1):=F.me;let(a6,h2):=id F.sh;show(_,(aD (lE (GD (BC 0) T.Af a1 (-L) ZC (EC (BC 1) IC)))
   (aD (SD (i:=4) IT.nd rfl (Or.inl rfl) (GD (FD (BC 0) rfl) T.Ax a3 (-L) ZC (EC (BC 2) IC)))
   (aD (SD (i:=5) IT.nd rfl (Or.inl rfl) (GD (FF (bE L) (FD (BC 0) rfl) (BC 1) (λο ο=>rfl)) T.Ae a2 (-L) ZC (EC (WD vE (BC 4) NC (λο ο=>rfl)) IC)))
   (aD (ME (yF gI (BC 5) CG (UC _)) (bD (WG VG rfl T.Es (EC xF IC))) OE)
   (aD (ME (yF iO (KD sL (BC 5) (BC 3)) (BC 3) (UC _)) (bD (WG VG rfl T.Kt (EC xF IC))) OE)
   (bD (PD (BC 4)))))))),?_)
  unfold vM yK k6 eE;rfl';simp only[h1];rfl';show(KF ∅,D,rfl,l,U,g,a0,bk,F,?_);let(h,q)||(t,N,a9,q):=q
  .show .inr ⟨h,q⟩
  subst a9;let(t',ad,ab,ah):=IN (LI N) F.nk;obtain rfl:t'=t:=xJ F.nk ad N ab;show .inl (LI N,T.Af,T.Bi,_,mV,D.sh,rfl,a6,_,h2,fJ ∅,D.sh,rfl,l,U,g,F.sh,a8,?_);let(c,q)||(c,q):=q
  .rw[fA c];show q
  rw[jA c];intro p ac;let J:=nE (o:=.tup [V.int (a / pw g),V.int (a % pw g)]) (iE (H:=H)) ac;let Z:FC H p (.tup [V.int (a / pw g),V.int (a % pw g)]) p>(.tup [V.int (a / pw g),V.int (a % pw g)]):=jD;let Y:=F.same J;generalize FC H p (.tup [V.int (a / pw g),V.int (a % pw g)])=H1 at *;let(b,W,ho,ax):=Y.st t' N;let(a5,az,a7,av,aw):=id W;show(_,a4,_,J _ _ h1,T.Af,T.Aj,_,IH,D.td,rfl,_,.inl (_,inl t'.n,.inl Y.t,rfl,ah.symm),t'.p,rfl,a5,_,a7,SF ∅,_,uD.of Z,.int (a / pw g),rfl,t'.p,rfl,b,t'.rs,a / pw g,rfl,W,ho,⋯,λar O=>?_);let(e,q)||(r,ao,e,q):=q
  .rw[e,jA (show oR none=V.non from rfl)];show q _ (J.trans O)
  .rw[e,fA (show ¬oR (some (r,ao))=V.non from λD=>nomatch D)];change ∃i,V.int r=V.int i/\_;show(r,rfl,?_);let(e,q)||(e,q):=q
   .rw[jA (by simpa using e)];show q _ (J.trans O)
   .rw[fA (by simpa using e)];show q _ _ (J.trans O) (O _ _ Z)
def eG (n:Int) (tks:!Tk):!Tk:=tks.filter λt=>decide (t.n≠n)
theorem AM {n:Int} {D:!Tk}:DD (HD D) (inl n)=HD (eG n D):=by
 unfold DD HD eG;rw[qC];congr 1;show YB λt ο=>?_;change decide ((inl t.n:Key)≠inl n)=decide (t.n≠n);rw[rB];simp only[ZA];show⟨λq e=>q (by rw[e]),λq e=>q (kB e)⟩
theorem YD.less {A:rD} {H:Hp} {q:Hz} {l f g:Int} {F:!Tk} {bk:Kvs} {n:Int} (h:YD A H q l f g F bk):YD A (FC H q.td (.dK (HD (eG n F)))) q l f g (eG n F) bk:=by
 let(J,e):=h.me;let(L,es):=id h.sh;let sub:∀t∈eG n F,t∈F:=λt D=>(HA.mp D).1;show(⟨J,by rw[VC (cD e h.t nofun)];show e⟩,⟨L,by rw[VC (cD es h.t nofun)];show es⟩,jD,by rw[VC h.ne.symm];show h.b,λt D=>(h.st t (sub t D)).kd h.t XE,h.nd.sublist (List.Sublist.map _ iC),h.nk.sublist (List.Sublist.map _ iC),h.vb,h.ne,λt D=>h.np t (sub t D))
theorem YD.kd {A:rD} {H H':Hp} {q:Hz} {l f g:Int} {F:!Tk} {bk kvs:Kvs} {D:Addr} (h:YD A H q l f g F bk) (hd:H D>(.dK kvs)) (O:D≠q.td) (U:D≠q.bd) (k:Kd D H H'):YD A H' q l f g F bk:=by
 let(J,e):=h.me;let(L,es):=id h.sh;show(⟨J,k _ _ e (cD e hd nofun)⟩,⟨L,k _ _ es (cD es hd nofun)⟩,k _ _ h.t O.symm,k _ _ h.b U.symm,λt N=>(h.st t N).kd hd k,h.nd,h.nk,h.vb,h.ne,h.np)
def Q6 (A:rD):Sp:=λvs H Q E=>∃(z:Hz) (l f g:Int) (tks:!Tk) (bk:Kvs) (n:Int),vs=[.ref z.p,.int n]/\YD A H z l f g tks bk/\
 ((inl n∈JD (HD tks)/\∀H',YD A H' z l f g (eG n tks) bk->Kd z.td H H'->Q .non H')\/(inl n∉JD (HD tks)/\E (.ref A.As) none H))
theorem rP (T:CD K mg A):QC P w K mg base A.Ad "end_task" 2 ["self","task"] [] (Q6 A):=by
 let L:=@JH P w K mg base A T;show T.E2.have ze (λvs H Q E D=>?_) ?_
 .let(D,l,f,g,J,bk,n,rfl,_):=D;rfl
 .intro f W V Z s H vs Q E O D;let(D,l,N,g,J,bk,n,rfl,F,q):=D;let(Y,h1):=F.me;show(_,(aD (lE (GD (BC 0) T.Af L (-O) ZC (EC (BC 1) IC)))
   (bD (lE (IL (FD (BC 0) rfl) (BC 1) (rfl,rfl,rfl,rfl))))),?_)
  unfold vM AF;rfl';simp only[h1];rfl';show(KF ∅,D,rfl,l,N,g,J,bk,F,?_);let(h,q)||(h,q):=q
  .let(v,U):=jV h;show .inl (h,T.Af,T.Aj,_,IH,D.td,rfl,.inl ⟨_,.inl F.t⟩,_,F.t,inl n,rfl,v,U,?_);rw[AM];show q _ F.less XE
  .show .inr ⟨h,q⟩
theorem YD.moreR {A:rD} {H H':Hp} {D:Hz} {l f g:Int} {L:!Tk} {bk:Kvs} {k:Int} {p:Addr} {rs:!Rn} (h:YD A H D l f g L bk) (s:JC H H') (V:H p=none) (a0:QF A.Aa H' (k,p,rs)) (hk:inl k∉JD (HD L)):
  YD A (FC H' D.td (.dK (HD (L++[(k,p,rs)])))) D l f g (L++[(k,p,rs)]) bk:=by
 let J:=h.same s;let(W,e):=J.me;let(Z,es):=id J.sh;let a1:∀t∈L,t.p≠p:=λt F D=>by
  let(a,(W,vs,N,_),_):=h.st t F;rw[D,V] at N;cases N
 show(⟨W,?_⟩,⟨Z,?_⟩,jD,?_,λt F=>?_,?_,?_,h.vb,h.ne,λt F=>?_)
 .rw[VC (cD e J.t nofun)];show e
 .rw[VC (cD es J.t nofun)];show es
 .rw[VC h.ne.symm];show J.b
 .let q||q:=kA.mp F
  .show (J.st t q).kd J.t XE
  .rw[bA.mp q];show a0.kd J.t XE
 .rw[nA,BA,IB,LA];show(h.nd,by simp,λa O b U=>?_);let(t,F,rfl):=cA.mp O;rw[bA.mp U];show a1 t F
 .rw[nA,BA,IB,LA];show(h.nk,by simp,λa O b U D=>?_);let(t,F,rfl):=cA.mp O;rw[bA.mp U] at D;show hk ?_;change _∈(HD L).map (·.1);unfold HD;rw[CA];show cA.mpr (t,F,by change (inl t.n:Key)=_;rw[D])
 .let q||q:=kA.mp F
  .show h.np t q
  .rw[bA.mp q];let(a2,Y):=h.me;let(a3,N):=id h.sh;show⟨(λD=>by rw[<-D,V] at Y;cases Y),(λD=>by rw[<-D,V] at N;cases N)⟩
def R6 (A:rD):Sp:=λvs H Q E=>∃(z:Hz) (l f g:Int) (tks:!Tk) (bk:Kvs) (n:Int),vs=[.ref z.p,.int n]/\YD A H z l f g tks bk/\tks.length < 1000/\
 ((inl n∉JD (HD tks)/\E (.ref A.As) none H)\/∃t∈tks,t.n=n/\∀(k:Nat) (p:Addr) (H':Hp),SH (JD (HD tks)) k->YD A H' z l f g (tks++[(k,p,t.rs)]) bk->H p=none->Kd z.td H H'->Q (.int k) H')
theorem BM (T:CD K mg A):QC P w K mg base A.Ad "fork" 4 ["self","task"] [] (R6 A):=by
 let Y:=@JH P w K mg base A T;let Z:=@lV P w K mg base A T;let a0:=@cg P w K mg base A T;show T.Hx.have X4 (λvs H Q E F=>?_) ?_
 .let(F,l,f,g,J,bk,n,rfl,_):=F;rfl
 .intro f ao ad av s H vs Q E L F;let(F,l,a5,g,J,bk,n,rfl,D,ar,q):=F;let(a2,h1):=D.me;let au:(HD J).length=J.length:=by unfold HD;rw[iA]
  show(_,(aD (lE (GD (BC 0) T.Af Y (-L) ZC (EC (BC 1) IC)))
   (aD (SD (i:=2) X4.nd rfl (Or.inl rfl) (XD Z (-L) ZC (EC (FD (BC 0) rfl) IC)))
   (aD (gH (bE L) (FD (BC 0) rfl) (BC 2) (cJ (FF (bE L) (FD (BC 0) rfl) (BC 1) (λο ο=>rfl)) T.Ae a0 (-L) ZC) rfl)
   (bD (PD (BC 2)))))),?_)
  unfold sp_least_free p6 vM kE eE;rfl';simp only[h1];rfl';show(KF ∅,F,rfl,l,a5,g,J,bk,D,?_);let(h,q)||(t,N,a8,q):=q
  .show .inr ⟨h,q⟩
  subst a8;let(t',ab,a9,ac):=IN (LI N) D.nk;obtain rfl:t'=t:=xJ D.nk ab N a9;let(a,V,ho,a7):=D.st t' N;let(a3,aw,a4,ap,aq):=id V;show .inl (LI N,T.Af,T.Aj,_,IH,F.td,rfl,_,D.t,λk hk=>(T.Af,T.Aj,_,IH,F.td,rfl,_,.inl (_,inl t'.n,.inl D.t,rfl,ac.symm),t'.p,rfl,a3,_,a4,SF ∅,t'.p,rfl,a,t'.rs,V,λU a1 ah O W a6=>?_));let hz:=PySem.sizeLine_eq;show(_,a2,_,O _ _ h1,T.Af,T.Aj,_,IH,F.td,rfl,_,.inl (_,inl (k:Int),O _ _ D.t,rfl,⋯,rfl),?_);let e:zD (HD J) (inl (k:Int)) (.ref U)=HD (J++[(k,U,t'.rs)]):=by
   rw[sM hk.1];unfold HD;rw[nA];rfl
  rw[e];show q k U _ hk (D.moreR O W (a1,a6,ho,a7) hk.1) W ((Kd.of O).trans XE)
def S6 (A:rD):Sp:=λvs H Q E=>∃(z:Hz) (l f g:Int) (tks:!Tk) (bk:Kvs) (n:Int),vs=[.ref z.p,.int n]/\YD A H z l f g tks bk/\tks.length<=1000/\
 ((inl n∉JD bk/\E (.ref A.A4) none H)\/(inl n∈JD bk/\(∃t∈tks,t.rs.any (xD n)=true)/\∀H',JC H H'->E (.ref A.Az) none H')\/
 (inl n∈JD bk/\(∀t∈tks,t.rs.any (xD n)=false)/\∀H',YD A H' z l f g tks (DD bk (inl n))->Kd z.bd H H'->Q .non H'))
theorem CM (T:CD K mg A):QC P w K mg base A.Ad "drop_bank" 2 ["self","bank"] [] (S6 A):=by
 let aq:=@mP P w K mg base A T;let ar:=@pM P w K mg base A T;show T.Eg.have Oe (λvs H Q E D=>?_) ?_
 .let(D,l,f,g,bp,bk,n,rfl,_):=D;rfl
 .intro f be b5 bo s H vs Q E ap D;let(D,l,az,g,F,bk,n,rfl,J,bn,q):=D;let(aw,h1):=J.me;show(_,(aD (lE (GD (BC 0) T.Af aq (-ap) ZC (EC (BC 1) IC)))
   (aD (ME (rG (YF (W2 rfl) rfl T.Lz ∅ (EC (Sc (BN rfl (y3 (j3 (FD (BC 0) rfl))) (x:="stretches") (fs:=["bank"]) (ix:=[1]) rfl rfl (λο ο ο ο ο ο=>(XF (i:=0) (show (["stretches","bank"]:!Str).Nodup by decide+kernel) rfl (Or.inl rfl))) (λο ο ο ο ο ο=>zN) (λο ο ο ο ο ο=>(GD (BC 0) T.Ae ar (-ap) bK (EC (BC 1) IC))))) IC))) (bD (WG VG rfl T.Mw (EC xF IC))) OE)
   (bD (lE (IL (FD (BC 0) rfl) (BC 1) (rfl,rfl,rfl,rfl)))))),?_)
  unfold nV AF i6 CI;rfl';simp only[h1];rfl';show(KF ∅,D,rfl,l,az,g,F,bk,J,?_);by_cases hk:inl n∈JD bk;rotate_left
  .show .inr ⟨hk,?_⟩;let(_,q)||(h,_)||(h,_):=q
   .show q
   .show absurd h hk
   .show absurd h hk
  show .inl (hk,D.td,(λo u e=>?_),T.Af,T.Aj,_,IH,D.td,rfl,_,J.t,λv a1=>(D.td,rfl,HD F,(nE iE a1) _ _ J.t,λo L O=>?_))
  .let e:H D.td>(.frz o u):=e;rw[J.t] at e;cases e
  let av:=nE (o:=VF v D.td) (iE (H:=H)) a1;let ao:∀b u,H b>u->b≠D.td->FC (FC H v (VF v D.td)) D.td (.frz o (.dK (HD F))) b>u:=λb u h N=>by rw[VC N];show av _ _ h
  let ah:FC (FC H v (VF v D.td)) D.td (.frz o (.dK (HD F))) D.td>(.frz o (.dK (HD F))):=jD;generalize FC (FC H v (VF v D.td)) D.td (.frz o (.dK (HD F)))=H2 at *;let W:L≠D.td:=λD=>by rw[D,ah] at O;cases O
  let ad:H L=none:=by
   cases e:H L with
   |none=>rfl
   |some u=>rw[ao L u e W] at O;cases O
  let b3:(HD F).length=F.length:=by unfold HD;rw[iA]
  show vc (λi ys a2 H'=>∃a8,a2=[a8,some (.int n)]/\Kd D.td H H'/\H' D.td>(.frz o (.dK (HD F)))/\ys=((F.take i).map λt=>t.rs.any (xD n)).map V.bl/\H' L>(.lst ys)) (_,rfl,λb u h N=>?_,?_,rfl,jD) (λi ys a2 H' _ a9=>by let(_,a9):=a9;show a9.2.2.1) (λi k x ys a2 H' hi=>?_) (λys a2 H'=>?_)
  .rw[VC (OD h ad)];show ao b u h N
  .rw[VC (Ne.symm W)];show ah
  .rintro⟨a8,rfl,a0,a4,rfl,U⟩;unfold HD at hi;rw[iB] at hi;let(t,a6,e):=cB.mp hi;cases e;let bl:=(QA.mp a6).1;let a5:=VA a6;let(au,ac,ho,bm):=(J.st t a5).kd J.t a0;let(ax,br,b0,bh,bi):=id ac;let ay:F.take (i+1)=F.take i++[t]:=by rw[mB,a6];rfl
   rfl';show(ax,_,b0,SF ∅,au,t.rs,ac,⋯,λbb a7=>(a7 _ _ U,by rw[iA,iA,aB];omega,λb u h N=>?_,?_,?_))
   .rw[VC (OD h ad)];show a7 _ _ (a0 _ _ h N)
   .rw[VC (Ne.symm W)];show a7 _ _ a4
   .rw[ay,nA,nA];rfl
  .rintro⟨a8,rfl,a0,a4,rfl,U⟩;rw[b3,wB] at U;let Z:JC H (FC H' D.td (.dK (HD F))):=λc u h=>by
    by_cases Y:c=D.td
    .rw[Y,jD,<-J.t,<-h,Y]
    .rw[VC Y];show a0 _ _ h Y
   rw[i3 a4];let b1:FC H' D.td (.dK (HD F)) L>(.lst ((F.map λt=>t.rs.any (xD n)).map V.bl)):=by rw[VC W];show U
   generalize FC H' D.td (.dK (HD F))=H4 at *;show(F.map λt=>t.rs.any (xD n),pD.of b1,?_);let ab:(F.map λt=>t.rs.any (xD n)).any id=true↔∃t∈F,t.rs.any (xD n)=true:=by
    rw[List.any_map,List.any_eq_true]
    rfl
   let(h,_)||(_,h,q)||(_,h,q):=q
   .show absurd hk h
   .rw[ab.mpr h];show fE ?_;show q _ Z
   .let e:(F.map λt=>t.rs.any (xD n)).any id=false:=by
     rw[uC];intro D;let(t,a5,e):=ab.mp D;rw[h t a5] at e;cases e
    rw[e];let a3:=J.same Z;let(v,a1):=jV hk;show oE (_,aw,_,Z _ _ h1,T.Af,T.A1,_,lP,D.bd,rfl,.inl ⟨bk,.inl a3.b⟩,bk,a3.b,inl n,rfl,v,a1,q _ (a3.bank λb4 b2=>J.vb b4 (lb b2)) ((Kd.of Z).trans XE))
def ZF (sh:Addr) (most:Int) (ho sd hd:Addr) (made:Int) (pd bd:Addr):!(Str×V):=LC "banked" (.ref bd) (LC "private" (.ref pd) (LC "made" (.int made) (LC "havers" (.ref hd) (LC "sheets" (.ref sd) (LC "house" (.ref ho) (LC "most" (.int most) (LC "shape" (.ref sh) [])))))))
theorem gg {sh ho sd hd pd bd:Addr} {most made:Int}:(ZF sh most ho sd hd made pd bd).lookup ("shape":Str)=↑sh:=by rfl
theorem ig {sh ho sd hd pd bd:Addr} {most made:Int}:(ZF sh most ho sd hd made pd bd).lookup ("most":Str)>(.int most):=by rfl
theorem MI {sh ho sd hd pd bd:Addr} {most made:Int}:(ZF sh most ho sd hd made pd bd).lookup ("house":Str)=↑ho:=by rfl
theorem HK {sh ho sd hd pd bd:Addr} {most made:Int}:(ZF sh most ho sd hd made pd bd).lookup ("sheets":Str)=↑sd:=by rfl
theorem yJ {sh ho sd hd pd bd:Addr} {most made:Int}:(ZF sh most ho sd hd made pd bd).lookup ("havers":Str)=↑hd:=by rfl
theorem gR {sh ho sd hd pd bd:Addr} {most made:Int}:(ZF sh most ho sd hd made pd bd).lookup ("made":Str)>(.int made):=by rfl
theorem zJ {sh ho sd hd pd bd:Addr} {most made:Int}:(ZF sh most ho sd hd made pd bd).lookup ("private":Str)=↑pd:=by rfl
theorem iR {sh ho sd hd pd bd:Addr} {most made:Int}:(ZF sh most ho sd hd made pd bd).lookup ("banked":Str)=↑bd:=by rfl
theorem jg {sh ho sd hd pd bd:Addr} {most made:Int}:(ZF sh most ho sd hd made pd bd).length < 1000:=by change 8 < 1000;decide
set_option genInjectivity false in
structure Ro where
 p:Addr
 sh:Addr
 ho:Addr
 sd:Addr
 hd:Addr
 pd:Addr
 bd:Addr
 most:Int
set_option genInjectivity false in
structure Sh where
 n:Int
 a:Addr
 xs:!Int
 h:Int
def sF (S:!Sh):Kvs:=S.map λs=>((inl s.n:Key),V.ref s.a)
def EE (S:!Sh):Kvs:=S.map λs=>((inl s.n:Key),V.int s.h)
structure aE (A:rD) (H:Hp) (r:Ro) (made:Int) (S:!Sh):Prop where
 me:∃dx,H r.p>(.ins A.Ab dx (ZF r.sh r.most r.ho r.sd r.hd made r.pd r.bd))
 s:H r.sd>(.dK (sF S))
 h:H r.hd>(.dK (EE S))
 x:∀s∈S,H s.a>(.lst (s.xs.map V.int))
 nd:(S.map Sh.a).Nodup
 nn:(S.map Sh.n).Nodup
 b:∀s∈S,s.n < made
 ne:r.sd≠r.hd
theorem aE.same {H H':Hp} {r:Ro} {made:Int} {S:!Sh} (h:aE A H r made S) (s:JC H H'):aE A H' r made S:=(let ⟨dx,e⟩:=h.me;⟨dx,s _ _ e⟩,s _ _ h.s,s _ _ h.h,λt q=>s _ _ (h.x t q),h.nd,h.nn,h.b,h.ne)
theorem FE {sh ho sd hd pd bd:Addr} {most made:Int} {m:Str} (h:¬m∈(["shape","most","house","sheets","havers","made","private","banked"]:!Str)):(ZF sh most ho sd hd made pd bd).lookup m=none:=by
 simp only[uA,bB,zC,not_or] at h;let(h1,h2,q,D,F,J,L,N):=h;unfold ZF;simp only[wN,h1,h2,q,D,F,J,L,N,HB]
 rfl
def Rk (r:Ro) (H H':Hp):Prop:=∀c o,H c>o->c≠r.p->c≠r.sd->c≠r.hd->H' c>o
theorem kg {A:rD} {H:Hp} {r:Ro} {made:Int} {S:!Sh} (h:aE A H r made S):(inl made:Key)∉JD (sF S)/\(inl made:Key)∉JD (EE S):=by
 let J:∀s∈S,s.n≠made:=λs q e=>by have:=h.b s q;omega
 constructor
 .intro F;let(p,D,e):=cA.mp F;let(s,q,rfl):=cA.mp D;show J s q (kB e)
 .intro F;let(p,D,e):=cA.mp F;let(s,q,rfl):=cA.mp D;show J s q (kB e)
def T6 (A:rD):Sp:=λvs H Q E=>∃(r:Ro) (made:Int) (S:!Sh) (b:Addr) (ys:!Int),vs=[.ref r.p,.ref b]/\aE A H r made S/\S.length<=100000/\H b>(.lst (ys.map V.int))/\
 (((S.length:Int)>=r.most/\E (.ref A.At) none H)\/((S.length:Int) < r.most/\∀l H',aE A H' r (made+1) (S++[(made,l,ys,1)])->H l=none->Rk r H H'->Q (.int made) H'))
theorem IK (T:CD K mg A):QC P w K mg base A.Ab "new_sheet" 1 ["self","boxes"] [] (T6 A):=by
 show T.Ei.have U4 (λvs H Q E D=>?_) ?_
 .let(r,made,S,b,ys,rfl,_):=D;rfl
 .intro f ay ax b0 s H vs Q E a4 D;let(r,made,S,b,ys,rfl,F,J,a1,q):=D;let(N,h1):=F.me;show(_,(aD (ME (yF jO (YF P0 rfl T.Bh PySem.boot_len (EC (FD (BC 0) rfl) IC)) (FD (BC 0) rfl) (UC _)) (bD (WG VG rfl T.Lb (EC xF IC))) OE)
   (aD (SD (i:=2) U4.nd rfl (Or.inl rfl) (FD (BC 0) rfl))
   (aD (cG (BC 0) (KD LF (BC 2) NC) rfl)
   (aD (gH (bE a4) (FD (BC 0) rfl) (BC 2) (xN zQ rfl T.Dr lC (EC (BC 1) IC)) rfl)
   (aD (gH (bE a4) (FD (BC 0) rfl) (BC 2) NC rfl)
   (bD (PD (BC 2)))))))),?_)
  unfold kE;rfl';simp only[h1];rfl';let ao:(sF S).length=S.length:=by unfold sF;rw[iA]
  let az:(EE S).length=S.length:=by unfold EE;rw[iA]
  let hz:=PySem.sizeLine_eq;show(T.Ac,T.Ao,_,HK,r.sd,rfl,_,F.s,T.Ac,T.C2,_,ig,r.most,rfl,?_);rw[ao];let(h,q)||(h,q):=q
  .rw[jA h];show q
  rw[fA ⋯];let ep:LC "made" (.int (made+1)) (ZF r.sh r.most r.ho r.sd r.hd made r.pd r.bd)=ZF r.sh r.most r.ho r.sd r.hd (made+1) r.pd r.bd:=rfl;show(T.Ac,T.By,_,gR,made,rfl,T.Ac,T.By,jg,?_);rw[ep];let W:FC H r.p (.ins A.Ab N (ZF r.sh r.most r.ho r.sd r.hd (made+1) r.pd r.bd)) r.p>(.ins A.Ab N (ZF r.sh r.most r.ho r.sd r.hd (made+1) r.pd r.bd)):=jD;let k1:Kd r.p H (FC H r.p (.ins A.Ab N (ZF r.sh r.most r.ho r.sd r.hd (made+1) r.pd r.bd))):=XE;let a7:∀l,FC H r.p (.ins A.Ab N (ZF r.sh r.most r.ho r.sd r.hd (made+1) r.pd r.bd)) l=none->H l=none:=λl J=>by
   by_cases e:l=r.p
   .rw[e,jD] at J;cases J
   .rw[VC e] at J;show J
  generalize FC H r.p (.ins A.Ab N (ZF r.sh r.most r.ho r.sd r.hd (made+1) r.pd r.bd))=H1 at *;let ab:=k1 _ _ a1 (cD a1 h1 nofun);let O:=k1 _ _ F.s (cD F.s h1 nofun);let U:=k1 _ _ F.h (cD F.h h1 nofun);show(_,.inl (pD.of ab),λl J=>?_);let u:=nE (o:=.lst (ys.map V.int)) (iE (H:=H1)) J;let ac:FC H1 l (.lst (ys.map V.int)) l>(.lst (ys.map V.int)):=jD;generalize FC H1 l (.lst (ys.map V.int))=H2 at *;let(a8,a9):=kg F;show(_,N,_,u _ _ W,T.Ac,T.Ao,_,HK,r.sd,rfl,_,.inl (sF S,inl made,u _ _ O,rfl,⋯,rfl),?_);rw[sM a8];let Y:FC H2 r.sd (.dK (sF S++[(inl made,V.ref l)])) r.p>(.ins A.Ab N (ZF r.sh r.most r.ho r.sd r.hd (made+1) r.pd r.bd)):=by
   rw[VC (cD (u _ _ W) (u _ _ O) nofun)];show u _ _ W
  let a2:FC H2 r.sd (.dK (sF S++[(inl made,V.ref l)])) r.hd>(.dK (EE S)):=by rw[VC F.ne.symm];show u _ _ U
  show(_,N,_,Y,T.Ac,T.An,_,yJ,r.hd,rfl,_,.inl (EE S,inl made,a2,rfl,⋯,rfl),?_);rw[sM a9];let au:l≠r.sd:=λe=>by rw[e,O] at J;cases J
  let av:l≠r.hd:=λe=>by rw[e,U] at J;cases J
  let a6:sF S++[(inl made,V.ref l)]=sF (S++[(made,l,ys,1)]):=by unfold sF;rw[nA];rfl
  let a5:EE S++[(inl made,V.int 1)]=EE (S++[(made,l,ys,1)]):=by unfold EE;rw[nA];rfl
  let ad:r.p≠r.hd:=cD Y a2 nofun;let ah:∀s∈S,H2 s.a>(.lst (s.xs.map V.int)):=λs L=>u _ _ (k1 _ _ (F.x s L) (cD (F.x s L) h1 nofun));let a3:=a7 l J;show q l _ (⟨N,by rw[VC ad];show Y⟩,by rw[VC F.ne,jD,a6],by rw[jD,a5],λs L=>?_,?_,?_,λs L=>?_,F.ne) a3 (λc o h ap aq ar=>by rw[VC ar,VC aq];show u _ _ (k1 _ _ h ap))
  .let h||h:=kA.mp L
   .have:=ah s h;rw[VC (cD this (u _ _ U) nofun),VC (cD this (u _ _ O) nofun)];show this
   .rw[bA.mp h];change FC _ _ _ l=_;rw[VC av,VC au];show ac
  .rw[nA,LA];show(F.nd,by simp,λx Z aw a0=>?_);let(s,L,rfl):=cA.mp Z;rw[bA.mp a0];show OD (F.x s L) a3
  .rw[nA,LA];show(F.nn,by simp,λx Z aw a0=>?_);let(s,L,rfl):=cA.mp Z;rw[bA.mp a0];change s.n≠made;have:=F.b s L;omega
  .let h||h:=kA.mp L
   .have:=F.b s h;omega
   .rw[bA.mp h];change made < made+1;omega
def pF (n:Int) (S:!Sh):!Sh:=S.filter λs=>decide (s.n≠n)
def ID (n:Int) (S:!Sh):!Sh:=S.map λs=>if s.n=n then {s with h:=s.h - 1} else s
def DM (n:Int) (h:Int) (S:!Sh):!Sh:=if h=1 then pF n S else ID n S
theorem tH {α β:Type} {f:α->β}:∀{xs:!α} {a b:α},(xs.map f).Nodup->a∈xs->b∈xs->f a=f b->a=b
 |[],_,_,_,h,_,_=>by simp at h
 |x::xs,a,b,nd,ha,hb,e=>by
  rw[BA,KA] at nd;let e1||h1:=uA.mp ha<;>let e2||h2:=uA.mp hb
  .rw[e1,e2]
  .show absurd (cA.mpr (b,h2,by rw[<-e,e1])) nd.1
  .show absurd (cA.mpr (a,h1,by rw[e,e2])) nd.1
  .show tH nd.2 h1 h2 e
theorem EM {S:!Sh} {s:Sh} (q:(S.map Sh.n).Nodup) (D:s∈S):SC (EE S) (inl s.n)>(.int s.h):=by
 induction S with
 |nil=>simp at D
 |cons u r F=>
  rw[BA,KA] at q;change SC ((inl u.n,V.int u.h)::EE r) (inl s.n)=_;let rfl||h:=uA.mp D
  .show UG rfl
  .rw[fH (λJ=>q.1 (by rw[show u.n=s.n from kB J];show cA.mpr (s,h,rfl)))];show F q.2 h
theorem tP {S:!Sh} {s:Sh} (q:(S.map Sh.n).Nodup) (D:s∈S):SC (sF S) (inl s.n)=↑s.a:=by
 induction S with
 |nil=>simp at D
 |cons u r F=>
  rw[BA,KA] at q;change SC ((inl u.n,V.ref u.a)::sF r) (inl s.n)=_;let rfl||h:=uA.mp D
  .show UG rfl
  .rw[fH (λJ=>q.1 (by rw[show u.n=s.n from kB J];show cA.mpr (s,h,rfl)))];show F q.2 h
theorem lg {S:!Sh} {s:Sh} (D:(S.map Sh.n).Nodup) (q:s∈S):zD (EE S) (inl s.n) (.int (s.h - 1))=EE (ID s.n S):=by
 unfold zD;rw[qJ,EM D q,jA (show (some (V.int s.h)).isSome=true from rfl)];unfold EE ID;rw[CA,CA];show IA λu F=>?_;change (if (inl u.n:Key)=inl s.n then ((inl u.n:Key),V.int (s.h - 1)) else (inl u.n,V.int u.h))=(inl (if u.n=s.n then {u with h:=u.h - 1} else u).n,V.int (if u.n=s.n then {u with h:=u.h - 1} else u).h);by_cases c:u.n=s.n
 .let e:u=s:=tH D F q c;rw[jA (by rw[c]),jA c,e]
 .rw[fA (λJ=>c (kB J)),fA c]
theorem ng {S:!Sh} {n:Int}:pF n (ID n S)=pF n S:=by
 unfold pF ID
 induction S with
 |nil=>rfl
 |cons u r q=>
  by_cases c:u.n=n
  .rw[BA,jA c,KB (by simp[c]),KB (by simp[c]),q]
  .rw[BA,fA c,ZB (by simp[c]),ZB (by simp[c]),q]
theorem og {S:!Sh} {n:Int}:DD (EE S) (inl n)=EE (pF n S):=by
 unfold DD EE pF;rw[qC];congr 1;show YB λt ο=>?_;change decide ((inl t.n:Key)≠inl n)=decide (t.n≠n);rw[rB];simp only[ZA];show⟨λz e=>z (by rw[e]),λz e=>z (kB e)⟩
theorem qg {S:!Sh} {n:Int}:DD (sF S) (inl n)=sF (pF n S):=by
 unfold DD sF pF;rw[qC];congr 1;show YB λt ο=>?_;change decide ((inl t.n:Key)≠inl n)=decide (t.n≠n);rw[rB];simp only[ZA];show⟨λz e=>z (by rw[e]),λz e=>z (kB e)⟩
theorem rg {S:!Sh} {n:Int}:sF (ID n S)=sF S:=by
 unfold sF ID;rw[CA];show IA λu ο=>?_;change ((inl (if u.n=n then {u with h:=u.h - 1} else u).n:Key),V.ref (if u.n=n then {u with h:=u.h - 1} else u).a)=_
 split<;>rfl
def FM (A:rD):Sp:=λvs H Q ο=>∃(r:Ro) (made:Int) (S:!Sh) (d:Addr) (kv:Kvs) (x:Int),vs=[.ref r.p,.ref d,.int x]/\aE A H r made S/\H d>(.dK kv)/\d≠r.sd/\d≠r.hd/\S.length<=100000/\
 ((SC kv (inl x)=none/\Q .non H)\/∃s∈S,SC kv (inl x)>(.int s.n)/\∀H',aE A H' r made (DM s.n s.h S)->H' d>(.dK (DD kv (inl x)))->(∀c o,H c>o->c≠d->c≠r.sd->c≠r.hd->H' c>o)->Q .non H')
theorem uV (T:CD K mg A):QC P w K mg base A.Ab "let_page_go" 1 ["self","pages","page"] [] (FM A):=by
 show T.Da.have V4 (λvs H Q E F=>?_) ?_
 .let(r,made,S,O,L,x,rfl,_):=F;rfl
 .intro f b2 b1 b4 s H vs Q E a1 F;let(r,made,S,O,L,x,rfl,D,hd,aq,a7,b3,q):=F;let(N,h1):=D.me;show(_,(aD (ME (tN (FQ (bE a1) (BC 2) (BC 1))) (bD k9) OE)
   (aD (SD (i:=3) V4.nd rfl (Or.inl rfl) (IL (BC 1) (BC 2) (rfl,rfl,rfl,rfl)))
   (aD (gH (bE a1) (FD (BC 0) rfl) (BC 3) (KD dI (FF (bE a1) (FD (BC 0) rfl) (BC 3) (λο ο=>rfl)) NC) rfl)
   (bD (ME (yF fI (FF (bE a1) (FD (BC 0) rfl) (BC 3) (λο ο=>rfl)) NC (UC _)) (aD (lE (IL (FD (BC 0) rfl) (BC 3) (rfl,rfl,rfl,rfl)))
   (bD (lE (IL (FD (BC 0) rfl) (BC 3) (rfl,rfl,rfl,rfl))))) OE))))),?_)
  unfold jF AF eE kE;rfl';let(a4,q)||(s,a2,a4,q):=q
  .show(_,.inl (L,inl x,.inl hd,rfl,a4.symm),fE q)
  show(_,.inl (L,inl x,.inl hd,rfl,a4.symm),oE (.inl ⟨_,.inl hd⟩,L,hd,inl x,rfl,_,a4,?_));let k1:Kd O H (FC H O (.dK (DD L (inl x)))):=XE;let au:FC H O (.dK (DD L (inl x))) O>(.dK (DD L (inl x))):=jD;generalize FC H O (.dK (DD L (inl x)))=H1 at *;let Z:=k1 _ _ h1 (cD h1 hd nofun);let ay:=k1 _ _ D.s aq.symm;let Y:=k1 _ _ D.h a7.symm;let hz:=PySem.sizeLine_eq;let ax:(EE S).length < PySem.sizeLine:=by unfold EE;rw[iA];omega
  show(_,N,_,Z,T.Ac,T.An,_,yJ,r.hd,rfl,_,.inl (EE S,inl s.n,.inl Y,rfl,(EM D.nn a2).symm),s.h,rfl,_,N,_,Z,T.Ac,T.An,_,yJ,r.hd,rfl,_,.inl (EE S,inl s.n,Y,rfl,ax,rfl),?_);rw[lg D.nn a2];let ad:r.p≠r.hd:=cD Z Y nofun;let k2:Kd r.hd H1 (FC H1 r.hd (.dK (EE (ID s.n S)))):=XE;let U:FC H1 r.hd (.dK (EE (ID s.n S))) r.hd>(.dK (EE (ID s.n S))):=jD;generalize FC H1 r.hd (.dK (EE (ID s.n S)))=H2 at *;let a0:=k2 _ _ Z ad;let ah:=k2 _ _ ay D.ne;let ac:=k2 _ _ au a7;let ap:∀t∈S,H2 t.a>(.lst (t.xs.map V.int)):=λt J=>by
   let a8:=k1 _ _ (D.x t J) (cD (D.x t J) hd nofun);show k2 _ _ a8 (cD a8 Y nofun)
  let ar:((ID s.n S).map Sh.n)=S.map Sh.n:=by
   unfold ID;rw[CA];show IA λu ο=>?_;change (if u.n=s.n then {u with h:=u.h - 1} else u).n=u.n
   split<;>rfl
  let b0:((ID s.n S).map Sh.a)=S.map Sh.a:=by
   unfold ID;rw[CA];show IA λu ο=>?_;change (if u.n=s.n then {u with h:=u.h - 1} else u).a=u.a
   split<;>rfl
  let az:((s.n,s.a,s.xs,s.h - 1):Sh)∈ID s.n S:=cA.mpr (s,a2,jA rfl);let ao:SC (EE (ID s.n S)) (inl s.n)>(.int (s.h - 1)):=EM (s:=(s.n,s.a,s.xs,s.h - 1)) (by rw[ar];show D.nn) az;show(_,N,_,a0,T.Ac,T.An,_,yJ,r.hd,rfl,_,.inl (_,inl s.n,.inl U,rfl,ao.symm),rfl,?_);by_cases c:s.h=1;rotate_left
  .rw[fA (λF=>c (by have:=V.int.inj F;omega))];show q _ ?_ ac (λe o h h1 h2 W=>k2 _ _ (k1 _ _ h h1) W);unfold DM;rw[fA c];show(⟨N,a0⟩,by rw[rg];show ah,U,λt J=>?_,by rw[b0];show D.nd,by rw[ar];show D.nn,λt J=>?_,D.ne)
   .let(u,a6,rfl):=cA.mp J;have:=ap u a6
    split<;>show this
   .let(u,a6,rfl):=cA.mp J;have:=D.b u a6
    split<;>show this
  rw[jA (by rw[c];rfl)];show(_,N,_,a0,T.Ac,T.An,_,yJ,r.hd,rfl,.inl ⟨_,.inl U⟩,_,U,inl s.n,rfl,_,ao,?_);rw[og,ng];let k3:Kd r.hd H2 (FC H2 r.hd (.dK (EE (pF s.n S)))):=XE;let aw:FC H2 r.hd (.dK (EE (pF s.n S))) r.hd>(.dK (EE (pF s.n S))):=jD;generalize FC H2 r.hd (.dK (EE (pF s.n S)))=H3 at *;let a5:=k3 _ _ a0 ad;let a3:=k3 _ _ ah D.ne;let av:=k3 _ _ ac a7;show(_,N,_,a5,T.Ac,T.Ao,_,HK,r.sd,rfl,.inl ⟨_,.inl a3⟩,_,a3,inl s.n,rfl,_,tP D.nn a2,?_);rw[qg];let sub:∀t∈pF s.n S,t∈S:=λt J=>(HA.mp J).1;show q _ ?_ (by rw[VC aq];show av) (λe o h h1 h2 W=>by rw[VC h2];show k3 _ _ (k2 _ _ (k1 _ _ h h1) W) W);unfold DM;rw[jA c];show(⟨N,by rw[VC (cD a5 a3 nofun)];show a5⟩,jD,by rw[VC D.ne.symm];show aw,λt J=>?_,D.nd.sublist (List.Sublist.map _ iC),D.nn.sublist (List.Sublist.map _ iC),λt J=>D.b t (sub t J),D.ne);let a9:=ap t (sub t J);let ab:=k3 _ _ a9 (cD a9 U nofun);rw[VC (cD ab a3 nofun)];show ab
def sg (A:rD):Sp:=λvs H Q ο=>∃(r:Ro) (made:Int) (S:!Sh),vs=[.ref r.p]/\aE A H r made S/\Q (.int S.length) H
theorem GM (T:CD K mg A):QC P w K mg base A.Ab "live_sheets" 1 ["self"] [] (sg A):=by
 show T.C8.have Ze (λvs H Q E D=>?_) ?_
 .let(r,made,S,rfl,_):=D;rfl
 .intro f L J U s H vs Q E O D;let(r,made,S,rfl,F,q):=D;let(N,h1):=F.me;show(_,(bD (PD (YF P0 rfl T.Bh PySem.boot_len (EC (FD (BC 0) rfl) IC)))),?_);rfl';simp only[h1];rfl';show(T.Ac,T.Ao,_,HK,r.sd,rfl,_,F.s,?_);rw[show (sF S).length=S.length by unfold sF;rw[iA]];show q
def U6 (C:Addr):Sp:=λvs H Q ο=>∃(p:Addr) (l f g:Int),vs=[.ref p]/\TD C H p l f g/\Q (.int (pw g)) H
theorem HM (T:CD K mg A):QC P w K mg base A.Ag "sheet_size" 1 ["self"] [] (U6 A.Ag):=by
 show T.D0.have Ud (λvs H Q E D=>?_) ?_
 .let(p,l,f,g,rfl,_):=D;rfl
 .intro f N L W s H vs Q E V D;let(p,l,U,g,rfl,F,q):=D;let(O,J):=id F;show(_,(bD (PD (FD (BC 0) rfl))),?_);rfl';simp only[J];rfl';show(T.Ax,T.A6,_,UQ,q)
def vV (A:rD):Sp:=λvs H Q ο=>∃(r:Ro) (made:Int) (S:!Sh) (l f g:Int),vs=[.ref r.p]/\aE A H r made S/\TD A.Ag H r.sh l f g/\gd l f g/\∀a H',JC H H'->H a=none->H' a>(.lst ((List.replicate (pw g).toNat (0:Int)).map V.int))->Q (.ref a) H'
theorem JK (T:CD K mg A):QC P w K mg base A.Ab "noughts" 2 ["self"] [] (vV A):=by
 let L:=@HM P w K mg base A T;show T.Fx.have af (λvs H Q E D=>?_) ?_
 .let(r,made,S,l,f,g,rfl,_):=D;rfl
 .intro f a4 a3 a5 s H vs Q E a1 D;let(r,made,S,l,U,g,rfl,W,J,Y,q):=D;let(N,h1):=W.me;let(O,h2):=id J;let b:=II Y;show(_,(bD (PD (KD CL (oJ (EC NC IC)) (cJ (FD (BC 0) rfl) T.Ax L (-a1) ZC)))),?_);unfold U6;rfl';intro p Z;let u:=nE (o:=.lst [V.int 0]) (iE (H:=H)) Z;let a0:FC H p (.lst [V.int 0]) p>(.lst [V.int 0]):=jD;let hz:=PySem.sizeLine_eq;generalize FC H p (.lst [V.int 0])=H1 at *;show(_,N,_,u _ _ h1,T.Ac,T.Co,_,gg,r.sh,rfl,O,_,u _ _ h2,fJ ∅,r.sh,rfl,l,U,g,J.same u,p,pw g,[V.int 0],rfl,rfl,a0,⋯,⋯,by change 1 * (pw g).toNat<=PySem.sizeLine;omega,λa F=>?_);let e:(List.replicate (pw g).toNat [V.int 0]).flatten=(List.replicate (pw g).toNat (0:Int)).map V.int:=by
   generalize (pw g).toNat=k
   induction k with
   |zero=>rfl
   |succ k a2=>rw[QB,aC,a2,QB];rfl
  rw[e];show q a _ (u.trans (nE iE F)) (FG u F) jD
theorem aE.kd {H H':Hp} {r:Ro} {made:Int} {S:!Sh} {q:Addr} {kvs:Kvs} (h:aE A H r made S) (hd:H q>(.dK kvs)) (J:q≠r.sd) (L:q≠r.hd) (k:Kd q H H'):aE A H' r made S:=
 (let ⟨dx,e⟩:=h.me;⟨dx,k _ _ e (cD e hd nofun)⟩,k _ _ h.s J.symm,k _ _ h.h L.symm,λt F=>k _ _ (h.x t F) (cD (h.x t F) hd nofun),h.nd,h.nn,h.b,h.ne)
def V6 (A:rD):Sp:=λvs H Q E=>∃(r:Ro) (made:Int) (S:!Sh) (l f g:Int) (d:Addr) (kv:Kvs) (x:Int),vs=[.ref r.p,.ref d,.int x]/\aE A H r made S/\S.length<=100000/\TD A.Ag H r.sh l f g/\gd l f g/\r.sh≠r.p/\H d>(.dK kv)/\kv.length<=100000/\d≠r.sd/\d≠r.hd/\
 ((∃n:Int,SC kv (inl x)>(.int n)/\Q (.int n) H)\/(SC kv (inl x)=none/\(S.length:Int)>=r.most/\∀H',JC H H'->E (.ref A.At) none H')\/
 (SC kv (inl x)=none/\(S.length:Int) < r.most/\∀a H',aE A H' r (made+1) (S++[(made,a,List.replicate (pw g).toNat 0,1)])->H a=none->H' d>(.dK (kv++[(inl x,.int made)]))->(∀c o,H c>o->c≠d->c≠r.p->c≠r.sd->c≠r.hd->H' c>o)->Q (.int made) H'))
theorem uP (T:CD K mg A):QC P w K mg base A.Ab "sheet_there" 3 ["self","pages","page"] [] (V6 A):=by
 let a7:=@JK P w K mg base A T;let a6:=@IK P w K mg base A T;show T.C9.have bf (λvs H Q E O=>?_) ?_
 .let(r,made,S,l,f,g,ab,J,x,rfl,_):=O;rfl
 .intro f av ar ay s H vs Q E N O;let(r,made,S,l,Y,g,ab,J,x,rfl,L,a2,a3,a0,ax,hd,aw,a4,a5,q):=O;let(U,h1):=L.me;show(_,(aD (ME (tN (FQ (bE N) (BC 2) (BC 1))) (bD (gH (bE N) (BC 1) (BC 2) (GD (BC 0) T.Ac a6 (-N) ZC (EC (cJ (BC 0) T.Ac a7 (-N) ZC) IC)) rfl)) OE)
   (bD (PD (FF (bE N) (BC 1) (BC 2) (λο ο=>rfl))))),?_)
  unfold vV T6 jF eE kE;rfl';let hz:=PySem.sizeLine_eq;let(n,D,q)||(D,W,q)||(D,W,q):=q
  .show(_,.inl (J,inl x,.inl hd,rfl,D.symm),oE (_,.inl (J,inl x,.inl hd,rfl,D.symm),q))
  .show(_,.inl (J,inl x,.inl hd,rfl,D.symm),fE (U,_,h1,FE ∅,U,_,h1,FE ∅,r,rfl,made,S,L,l,Y,g,a3,a0,λa a8 F ao V=>(r,rfl,made,S,L.same F,a2,_,V,.inl ⟨W,q _ F⟩)))
  .show(_,.inl (J,inl x,.inl hd,rfl,D.symm),fE (U,_,h1,FE ∅,U,_,h1,FE ∅,r,rfl,made,S,L,l,Y,g,a3,a0,λa a8 F ao V=>(r,rfl,made,S,L.same F,a2,_,V,.inr ⟨W,λa9 au ah ap a1=>?_⟩)));let aq:=F _ _ hd;let Z:=a1 _ _ aq (cD hd h1 nofun) a4 a5;show(_,.inl (J,inl x,Z,rfl,⋯,rfl),?_);rw[CQ _ D];show(.int made,.inl (_,inl x,.inl jD,rfl,by rw[BQ _ _ _ _ D,jA rfl]),q a9 _ (ah.kd Z a4 a5 XE) (FG F ap) jD (λc o h h1 h2 ac ad=>by rw[VC h1];show a1 _ _ (F _ _ h) h2 ac ad))
abbrev Pg:=Int×Int×Option (Int×Int)
def fG (H:Hp) (v:V) (p:Pg):Prop:=∃a tv,v=.ref a/\H a>(.tup [.int p.1,.int p.2.1,tv])/\ND H tv p.2.2
theorem fG.same {H H':Hp} {v:V} {p:Pg} (h:fG H v p) (s:JC H H'):fG H' v p:=let ⟨a,tv,e,h1,h2⟩:=h;(a,tv,e,s _ _ h1,h2.same s)
theorem fG.kd {H H':Hp} {v:V} {p:Pg} {d:Addr} {vs:!V} (h:fG H v p) (hd:H d>(.lst vs)) (k:Kd d H H'):fG H' v p:=
 let ⟨a,tv,e,h1,h2⟩:=h;(a,tv,e,k _ _ h1 (cD h1 hd nofun),ND.kd hd (λο z=>nomatch z) k h2)
def jR (r:Rn):!Pg:=(List.range r.m.toNat).map λ(i:Nat)=>(r.f+(i:Int),(r.r,tf r (r.f+(i:Int))))
def nG (rs:!Rn):!Pg:=(rs.map jR).flatten
theorem NI {D:Type} {R S:V->D->Prop} {us:!V} {q:!D} (h:Paired R us q) (f:∀v p,R v p->S v p):Paired S us q:=by
 induction h with
 |nil=>show .nil
 |cons a _ F=>show .cons (f _ _ a) F
theorem vP {α β:Type} {F:α->β->Prop}:∀{xs:!α} {ys:!β} {zs:!α} {ws:!β},Paired F xs ys->Paired F zs ws->Paired F (xs++zs) (ys++ws)
 |_,_,_,_,.nil,h=>h
 |_,_,_,_,.cons r t,h=>.cons r (vP t h)
def wP (A:rD):Sp:=λvs H Q ο=>∃(z:Hz) (l f g:Int) (tks:!Tk) (bk:Kvs) (n:Int) (t:Tk),vs=[.ref z.p,.int n]/\YD A H z l f g tks bk/\t∈tks/\t.n=n/\(∀r∈t.rs,0<=r.f/\0<=r.m/\RC r<=100000000)/\(nG t.rs).length<=100000/\∀b us H',JC H H'->H b=none->H' b>(.lst us)->Paired (fG H') us (nG t.rs)->Q (.ref b) H'
theorem wV (T:CD K mg A):QC P w K mg base A.Ad "pages_of" 3 ["self","task"] [] (wP A):=by
 let b4:=@sV P w K mg base A T;let b2:=@fP P w K mg base A T;let b3:=@TU P w K mg base A T;show T.E3.have OT (λvs H Q E D=>?_) ?_
 .let(D,l,f,g,cu,bk,n,t,rfl,_):=D;rfl
 .intro f c4 c3 cr s H vs Q E ac D;let(D,l,bi,g,c2,bk,n,t,rfl,aw,bw,Z,bp,bo,q):=D;let(b5,h1):=aw.me;show(_,(aD (SD (i:=2) OT.nd rfl (Or.inl rfl) (oJ IC))
   (aD (dJ nB rfl (YI (GD (BC 0) T.Af b4 (-ac) ZC (EC (BC 1) IC))) (XF (i:=3) OT.nd rfl (Or.inr rfl)) (bD (lE (zL PySem.F.plainAttrs_list PySem.F.slot_list_extend PySem.F.type_list_extend ya (BC 2) (EC (BN rfl (sZ rfl T.B3 (EC (WD vE (BC 3) NC (λο ο=>rfl)) (EC (XD b2 (-ac) ZC (EC (BC 3) IC)) IC))) (x:="page") (fs:=["run"]) (ix:=[3]) rfl rfl (λο ο ο ο ο ο=>(XF (i:=0) (show (["page","run"]:!Str).Nodup by decide+kernel) rfl (Or.inl rfl))) (λο ο ο ο ο ο=>zN) (λο ο ο ο ο ο=>(dG (EC (BC 0) (EC (WD (lK (K:=K) rfl) (BC 1) NC (λο ο=>rfl)) (EC (XD b3 (-ac) bK (EC (BC 1) (EC (BC 0) IC))) IC)))))) IC)))))
   (bD (PD (BC 2))))),?_)
  unfold GK HN dR;rfl';intro p a9;let ao:=nE (o:=.lst []) (iE (H:=H)) a9;let az:FC H p (.lst []) p>(.lst []):=jD;generalize FC H p (.lst [])=H1 at *;show(b5,_,ao _ _ h1,KF ∅,D,rfl,l,bi,g,c2,bk,aw.same ao,.inr (t,bw,Z,λb us a8 a7=>?_));let b1:=nE (o:=.lst us) (iE (H:=H1)) a8;let ax:FC H1 b (.lst us) b>(.lst us):=jD;generalize FC H1 b (.lst us)=H2 at *;let c1:us.length=t.rs.length:=Paired.length a7;let b0:=b1 _ _ az;let bn:b≠p:=λe=>by rw[e,az] at a8;cases a8
  show⟨⟨_,pD.of ax⟩,LQ (K:=K) (xs:=us) (λi F H'=>∃vs ar,F=[↑D.p,some (.int n),↑p,ar]/\Kd p H2 H'/\H' p>(.lst vs)/\Paired (fG H') vs (nG (t.rs.take i))) (_,_,rfl,λο ο h ο=>h,b0,.nil) (λi F H' _ au=>by let(_,_,au):=au;show pD.of (au.2.1 _ _ ax bn)) (λi x F H' hi=>?_) (λF H'=>?_)⟩
  .rintro⟨vs,ar,rfl,k,U,N⟩;let(r,a0,co):=JI a7 hi;let bz:t.rs.take (i+1)=t.rs.take i++[r]:=by rw[mB,a0];rfl
   let(ch,ck,bm):=bp r (VA a0);let ad:tD H' x r:=by
    have:=MC.kd b0 (λο D=>nomatch D) k a7;let(cs,av,be):=JI this hi;rw[a0] at av;cases av;show be
   let(c,c9,rfl,ay,cl):=id ad;let cp:(nG (t.rs.take i)).length+r.m.toNat<=100000:=by
    let e:nG t.rs=nG (t.rs.take i)++(jR r++nG (t.rs.drop (i+1))):=by
     let bb:t.rs=t.rs.take i++r::t.rs.drop (i+1):=by
      have:=(QA.mp a0)
      let(h,e):=this;rw[<-e,List.getElem_cons_drop,List.take_append_drop]
     unfold nG
     conv=>lhs;rw[bb,nA,List.flatten_append,BA,aC]
    rw[e,xA,xA] at bo;have:(jR r).length=r.m.toNat:=by unfold jR;rw[iA,PB]
    omega
   let hz:=PySem.sizeLine_eq;let cq:=Paired.length N;rfl';let bl:=bm;unfold RC at bl;show(.inl (rfl,_,pD.of U),_,uD.of ay,.int r.f,rfl,r,ad,r.f,rfl,⋯,⋯,by unfold RC;omega,⋯,λa3 Y=>?_);let bh:(RC r - r.f).toNat=r.m.toNat:=by unfold RC;omega
   rw[bh];let cd:a3≠p:=λe=>by rw[e,U] at Y;cases Y
   show Q2 (λj W F L=>∃aq,F=[aq,↑c]/\JC H' L/\L a3>(.lst W)/\Paired (fG L) W ((List.range j).map λ(i:Nat)=>(r.f+(i:Int),(r.r,tf r (r.f+(i:Int)))))) (_,rfl,nE iE Y,jD,.nil) (λj W F L cn=>?_) (λW F L=>?_)
   .rintro⟨aq,rfl,J,a5,O⟩;let ah:=Paired.length O;rw[iA,PB] at ah;rfl';show(_,uD.of (J _ _ ay),.int r.r,rfl,r,ad.same J,λu a4 ap c0 a1 br=>?_);let a2:=nE (o:=.tup [V.int (r.f+(j:Int)),V.int r.r,u]) (iE (H:=a4)) br;let bt:FC a4 a1 (.tup [V.int (r.f+(j:Int)),V.int r.r,u]) a1>(.tup [V.int (r.f+(j:Int)),V.int r.r,u]):=jD;generalize FC a4 a1 (.tup [V.int (r.f+(j:Int)),V.int r.r,u])=H5 at *;let a6:=a2 _ _ (ap _ _ a5);show(a6,⋯,GH ((J.trans ap).trans a2) Y,?_);rw[List.range_succ,nA];show vP (NI O λv p h=>((h.same ap).same a2).kd a6 XE) (.cons (fG.kd (a1,u,rfl,bt,c0.same a2) a6 XE) .nil)
   .rintro⟨aq,rfl,J,a5,O⟩;let ah:=Paired.length O;rw[iA,PB] at ah;let ab:=J _ _ U;show(p,a3,vs,W,rfl,rfl,ab,a5,⋯,λe o h Z=>by rw[VC Z];show J _ _ (k _ _ h Z),_,jD,?_);rw[bz];unfold nG;rw[nA,List.flatten_append];show vP (NI N λv p h=>(h.same J).kd ab XE) (by rw[BA,IB,aC,List.flatten_nil,uB];show NI O λv p h=>h.kd ab XE)
  .rintro⟨vs,ar,rfl,k,U,N⟩;rfl';rw[c1,wB] at N;show q p vs H' (λe o h=>k _ _ (b1 _ _ (ao _ _ h)) (λD=>by rw[D,a9] at h;cases h)) a9 U N
set_option genInjectivity false in
structure Pv where
 n:Int
 d:Addr
 m:!(Int×Int)
def YG (pv:!Pv):Kvs:=pv.map λe=>((inl e.n:Key),V.ref e.d)
def mD (m:!(Int×Int)):Kvs:=m.map λx=>((inl x.1:Key),V.int x.2)
def oG (r:Ro) (z:Hz) (pv:!Pv):!Addr:=r.sd::r.hd::r.pd::z.td::z.bd::pv.map Pv.d
structure RB (A:rD) (H:Hp) (r:Ro) (z:Hz) (l f g:Int) (tks:!Tk) (pv:!Pv):Prop where
 s:aE A H r 0 []
 h:YD A H z l f g tks []
 gd:gd l f g
 ho:r.ho=z.p
 sh:r.sh=z.sh
 pd:H r.pd>(.dK (YG pv))
 pe:∀e∈pv,e.m=[]/\H e.d>(.dK [])
 nm:pv.map Pv.n=tks.map Tk.n
 nd:(oG r z pv).Nodup
def pG (z:Hz) (c:Addr) (o:HO):Prop:=(∃kvs,o=.dK kvs/\c≠z.td/\c≠z.bd)\/∃C dx fs,o=.ins C dx fs/\fs.lookup ("made":Str)≠none
def Hk (z:Hz) (B H:Hp):Prop:=∀c o,B c>o->H c>o\/pG z c o
theorem Hk.refl {z:Hz} {B:Hp}:Hk z B B:=λο ο h=>.inl h
theorem IM {J:Hz} {B H:Hp} (k:Hk J B H) {v:V} {r:Rn} (h:tD B v r):tD H v r:=by
 let(a,F,e,h1,h2):=h;let D:∀a xs,B a>(.tup xs)->H a>(.tup xs):=λa xs h=>by
  let e||(_,e,_)||(_,_,_,e,_):=k _ _ h
  .show e
  .cases e
  .cases e
 show(a,F,e,D _ _ h1,?_);cases q:r.t with
 |none=>rw[q] at h2;show h2
 |some t=>rw[q] at h2;let(a,e,h):=h2;show(a,e,D _ _ h)
theorem YD.hk {A:rD} {B H:Hp} {F:Hz} {l f g:Int} {J:!Tk} {bk:Kvs} (h:YD A B F l f g J bk) (k:Hk F B H):YD A H F l f g J bk:=by
 let(q,e):=h.me;let(N,es):=id h.sh;let D:∀{c C q fs},B c>(.ins C q fs)->fs.lookup ("made":Str)=none->H c>(.ins C q fs):=λh n=>by
  let e||(_,e,_)||(_,_,_,e,m):=k _ _ h
  .show e
  .cases e
  .cases e;show absurd n m
 show(⟨q,D e (KF ∅)⟩,⟨N,D es (fJ ∅)⟩,?_,?_,λt Z=>?_,h.nd,h.nk,h.vb,h.ne,h.np)
 .let e||(_,e,n,_)||(_,_,_,e,_):=k _ _ h.t
  .show e
  .show absurd rfl n
  .cases e
 .let e||(_,e,_,n)||(_,_,_,e,_):=k _ _ h.b
  .show e
  .show absurd rfl n
  .cases e
 .let(a,(L,vs,O,U,V),W):=h.st t Z;show(a,(L,vs,D O (SF ∅),?_,NI V λv p Y=>IM k Y),W);let e||(_,e,_)||(_,_,_,e,_):=k _ _ U
  .show e
  .cases e
  .cases e
structure ug (A:rD) (B H:Hp) (r:Ro) (z:Hz) (l f g:Int) (tks:!Tk) (made:Int) (S:!Sh) (pv:!Pv) (own:Int->Int×Int) (con:Int->Int->Option (!Int)):Prop where
 hB:YD A B z l f g tks []
 k:Hk z B H
 gd:gd l f g
 ho:r.ho=z.p
 sh:r.sh=z.sh
 s:aE A H r made S
 pd:H r.pd>(.dK (YG pv))
 pe:∀e∈pv,H e.d>(.dK (mD e.m))
 nm:pv.map Pv.n=tks.map Tk.n
 nd:(oG r z pv).Nodup
 sb:∀s∈S,B s.a=none
 dm:∀c,H c=none->B c=none
 x:∀e∈pv,∀y∈e.m,∃s∈S,s.n=y.2/\s.h=1/\con e.n y.1>s.xs/\own y.2=(e.n,y.1)
 c:∀e∈pv,∀x,(∀y∈e.m,y.1≠x)->con e.n x=none
 sz:∀s∈S,s.xs.length=(pw g).toNat
 ml:∀e∈pv,e.m.length<=S.length
 ux:∀e∈pv,∀y∈e.m,∀y'∈e.m,y.1=y'.1->y.2=y'.2
def RA (A:rD) (B H:Hp) (r:Ro) (z:Hz) (l f g:Int) (tks:!Tk) (ds:!Addr) (con:Int->Int->Option (!Int)) (cnt:Nat):Prop:=
 ∃made S pv own,ug A B H r z l f g tks made S pv own con/\pv.map Pv.d=ds/\S.length=cnt/\cnt<=10000
def Kp (U:Addr->Prop) (H H':Hp):Prop:=(∀c o,H c>o->¬U c->H' c>o)/\∀c,H' c=none->H c=none
theorem aE.kp {A:rD} {H H':Hp} {r:Ro} {made:Int} {S:!Sh} {U:Addr->Prop} {q:Hz} (h:aE A H r made S) (k:Kp U H H') (u:∀c,U c->c≠r.p/\c≠r.sd/\c≠r.hd) (lo:∀c o,U c->H c>o->pG q c o):aE A H' r made S:=by
 let(F,e):=h.me;show(⟨F,k.1 _ _ e λq=>(u _ q).1 rfl⟩,k.1 _ _ h.s λq=>(u _ q).2.1 rfl,k.1 _ _ h.h λq=>(u _ q).2.2 rfl,λs D=>k.1 _ _ (h.x s D) λq=>?_,h.nd,h.nn,h.b,h.ne);let(_,e,_)||(_,_,_,e,_):=lo _ _ q (h.x s D)<;>cases e
theorem Hk.kp {q:Hz} {B H H':Hp} {U:Addr->Prop} (k:Hk q B H) (kp:Kp U H H') (lo:∀c o,U c->H c>o->pG q c o):Hk q B H':=λc o h=>by
 let e||e:=k c o h
 .by_cases D:U c
  .show .inr (lo c o D e)
  .show .inl (kp.1 _ _ e D)
 .show .inr e
theorem RA.kp {A:rD} {B H H':Hp} {r:Ro} {q:Hz} {l f g:Int} {O:!Tk} {D:!Addr} {J:Int->Int->Option (!Int)} {F:Nat} {U:Addr->Prop} (h:RA A B H r q l f g O D J F) (k:Kp U H H')
  (u:∀c,U c->c≠r.p/\c≠r.sd/\c≠r.hd/\c≠r.pd/\c∉D) (lo:∀c o,U c->H c>o->pG q c o):RA A B H' r q l f g O D J F:=by
 let(m,S,pv,own,h,L,V,W):=h;show(m,S,pv,own,(h.hB,h.k.kp k lo,h.gd,h.ho,h.sh,h.s.kp k (λc q=>((u c q).1,(u c q).2.1,(u c q).2.2.1)) lo,k.1 _ _ h.pd λq=>(u _ q).2.2.2.1 rfl,λe N=>k.1 _ _ (h.pe e N) λq=>(u _ q).2.2.2.2 (by rw[<-L];show cA.mpr (e,N,rfl)),h.nm,h.nd,h.sb,λc Y=>h.dm c (k.2 c Y),h.x,h.c,h.sz,h.ml,h.ux),L,V,W)
theorem RB.kp {A:rD} {H H':Hp} {r:Ro} {q:Hz} {l f g:Int} {F:!Tk} {pv:!Pv} {U:Addr->Prop} (h:RB A H r q l f g F pv) (k:Kp U H H')
  (u:∀c,U c->c≠r.p/\c≠r.sd/\c≠r.hd/\c≠r.pd/\c∉pv.map Pv.d) (lo:∀c o,U c->H c>o->pG q c o):RB A H' r q l f g F pv:=
 (h.s.kp k (λc q=>((u c q).1,(u c q).2.1,(u c q).2.2.1)) lo,h.h.hk (Hk.refl.kp k lo),h.gd,h.ho,h.sh,k.1 _ _ h.pd λq=>(u _ q).2.2.2.1 rfl,λe D=>⟨(h.pe e D).1,k.1 _ _ (h.pe e D).2 λq=>(u _ q).2.2.2.2 (cA.mpr (e,D,rfl))⟩,h.nm,h.nd)
structure Dn (r:Ro) (z:Hz) (pv:!Pv):Prop where
 sp:r.sd≠r.pd
 hp:r.hd≠r.pd
 st:r.sd≠z.td
 sb:r.sd≠z.bd
 ht:r.hd≠z.td
 hb:r.hd≠z.bd
 pt:r.pd≠z.td
 pb:r.pd≠z.bd
 e:∀e∈pv,e.d≠r.sd/\e.d≠r.hd/\e.d≠r.pd/\e.d≠z.td/\e.d≠z.bd
 nd:(pv.map Pv.d).Nodup
theorem xP {r:Ro} {q:Hz} {pv:!Pv} (h:(oG r q pv).Nodup):Dn r q pv:=by
 unfold oG at h;simp only[KA,uA,not_or] at h;let((a3,F,J,L,N),(O,U,V,W),(Y,Z,a0),(a4,a1),a2,f):=h;show(F,O,J,L,U,V,Y,Z,λe D=>(λq=>N (by rw[<-q];show cA.mpr (e,D,rfl)),λq=>W (by rw[<-q];show cA.mpr (e,D,rfl)),λq=>a0 (by rw[<-q];show cA.mpr (e,D,rfl)),λq=>a1 (by rw[<-q];show cA.mpr (e,D,rfl)),λq=>a2 (by rw[<-q];show cA.mpr (e,D,rfl))),f)
theorem yP {pv:!Pv} {q:!Tk} (h:pv.map Pv.n=q.map Tk.n):JD (YG pv)=JD (HD q):=by
 unfold JD YG HD;rw[CA,CA];let D:pv.map ((λx:Key×V=>x.1) ∘ λe:Pv=>((inl e.n:Key),V.ref e.d))=(pv.map Pv.n).map inl:=by rw[CA];rfl
 let F:q.map ((λx:Key×V=>x.1) ∘ λe:Tk=>((inl e.n:Key),V.ref e.p))=(q.map Tk.n).map inl:=by rw[CA];rfl
 show D.trans ((congrArg _ h).trans F.symm)
theorem OI {p:Addr} {H H':Hp} {o:HO} (k:Kd p H H') (D:H' p>o):∀c,H' c=none->H c=none:=λc h=>by
 cases e:H c with
 |none=>rfl
 |some o'=>show absurd (k c o' e (λq=>by rw[q,D] at h;cases h)) (by rw[h];show λq=>nomatch q)
theorem JM {p:Addr} {H H':Hp} {o q:HO} (_:H' p>q) (k:Kd p H H'):FC H' p o p>o/\Kd p H (FC H' p o)/\Kd p H' (FC H' p o):=(jD,k.trans XE,XE)
theorem kR {p c:Addr} {H q:Hp} {o L:HO} (F:q p>L) (k:Kd p H q) (D:q c=none):FC (FC q c (.dK [])) p o p>o/\Kd p H (FC (FC q c (.dK [])) p o)/\Kd p q (FC (FC q c (.dK [])) p o)/\FC (FC q c (.dK [])) p o c>(.dK [])/\H c=none/\FC q c (.dK []) p>L:=by
 let n:c≠p:=λJ=>by rw[J,F] at D;cases D
 let k2:Kd p q (FC (FC q c (.dK [])) p o):=λe u h N=>by rw[VC N,VC (λJ=>by rw[J,D] at h;cases h)];show h
 show(jD,k.trans k2,k2,by rw[VC n,jD],OI k F c D,by rw[VC n.symm];show F)
def W6 (A:rD):Sp:=λvs H Q ο=>∃(p dx sh:Addr) (most l f g:Int),vs=[.ref p,.ref sh,.int most]/\H p>(.ins A.Ab dx [])/\TD A.Ag H sh l f g/\gd l f g/\
 ∀r z H',r.p=p->r.most=most->RB A H' r z l f g [] []->(∀c∈oG r z [],H c=none)->H z.p=none->Kd p H H'->(H' r.bd>(.dK [])/\r.bd∉oG r z []/\H r.bd=none)->Q .non H'
theorem vg (T:CD K mg A):HF P w K mg base "Rooms" A.Ab 3 ["self","shape","most"] [] (W6 A):=by
 let br:=@eg P w K mg base A T;show T.Hy.have Ve (λvs H Q E D=>?_) ?_
 .let(p,F,sh,most,l,f,g,rfl,_):=D;rfl
 .intro f d1 d0 dm s H vs Q E cl D;let(p,F,sh,most,l,c2,g,rfl,bl,bm,ch,q):=D;show(_,(aD (cG (BC 0) (BC 1) rfl)
   (aD (cG (BC 0) (BC 2) rfl)
   (aD (cG (BC 0) (rS br (-cl) ZC (EC (BC 1) IC)) rfl)
   (aD (cG (BC 0) YJ rfl)
   (aD (cG (BC 0) YJ rfl)
   (aD (cG (BC 0) NC rfl)
   (aD (cG (BC 0) YJ rfl)
   (bD (cG (BC 0) YJ rfl))))))))),?_)
  unfold u6;rfl';show(_,F,_,bl,T.Ac,T.Co,by change 0 < 1000;decide,T.Ac,T.C2,by change 1 < 1000;decide,?_);let ar:FC H p (.ins A.Ab F (LC "most" (.int most) (LC "shape" (.ref sh) []))) p>(.ins A.Ab F (LC "most" (.int most) (LC "shape" (.ref sh) []))):=jD;let k0:Kd p H (FC H p (.ins A.Ab F (LC "most" (.int most) (LC "shape" (.ref sh) [])))):=XE;let ay:=OI k0 ar;generalize FC H p (.ins A.Ab F (LC "most" (.int most) (LC "shape" (.ref sh) [])))=G0 at *;intro N a4 ax c9 dd a1 bd b5 cn c3 bi k1 bt bb be;let ac:JC G0 (FC (FC G0 a4 (.own N)) N (.ins A.Ad a4 [])):=λc o h=>by rw[VC (OD h ax),VC (OD h c9)];show h
  let az:p≠N:=OD ar ax;let bn:=ay _ ax;let co:=ay _ (FG ac cn);let c4:=ay _ (FG ac c3);generalize FC (FC G0 a4 (.own N)) N (.ins A.Ad a4 [])=G1 at *;let a5:=k1 _ _ (ac _ _ ar) az;let bo:Kd p H b5:=λc o h a3=>k1 _ _ (ac _ _ (k0 _ _ h a3)) (OD h bn);let dl:=OI bo a5;show(_,F,_,a5,T.Ac,T.Ak,by change 2 < 1000;decide,?_);let a2:=JM a5 bo (o:=.ins A.Ab F (LC "house" (.ref N) (LC "most" (.int most) (LC "shape" (.ref sh) []))));generalize FC b5 p (.ins A.Ab F (LC "house" (.ref N) (LC "most" (.int most) (LC "shape" (.ref sh) []))))=G2 at *;let c1:=a2.2.2 _ _ bt az.symm;let aq:=a2.2.2 _ _ bb (cD bb a5 nofun);let ap:=a2.2.2 _ _ be (cD be a5 nofun);intro J au;let U:=kR a2.1 a2.2.1 au (o:=.ins A.Ab F (LC "sheets" (.ref J) (LC "house" (.ref N) (LC "most" (.int most) (LC "shape" (.ref sh) [])))));show(_,F,_,U.2.2.2.2.2,T.Ac,T.Ao,by change 3 < 1000;decide,?_);generalize FC (FC G2 J (.dK [])) p (.ins A.Ab F (LC "sheets" (.ref J) (LC "house" (.ref N) (LC "most" (.int most) (LC "shape" (.ref sh) [])))))=G3 at *;intro L a6;let V:=kR U.1 U.2.1 a6 (o:=.ins A.Ab F (LC "made" (.int 0) (LC "havers" (.ref L) (LC "sheets" (.ref J) (LC "house" (.ref N) (LC "most" (.int most) (LC "shape" (.ref sh) [])))))));show(_,F,_,V.2.2.2.2.2,T.Ac,T.An,by change 4 < 1000;decide,T.Ac,T.By,by change 5 < 1000;decide,?_);generalize FC (FC G3 L (.dK [])) p (.ins A.Ab F (LC "made" (.int 0) (LC "havers" (.ref L) (LC "sheets" (.ref J) (LC "house" (.ref N) (LC "most" (.int most) (LC "shape" (.ref sh) [])))))))=G4 at *;intro O a7;let W:=kR V.1 V.2.1 a7 (o:=.ins A.Ab F (LC "private" (.ref O) (LC "made" (.int 0) (LC "havers" (.ref L) (LC "sheets" (.ref J) (LC "house" (.ref N) (LC "most" (.int most) (LC "shape" (.ref sh) []))))))));show(_,F,_,W.2.2.2.2.2,T.Ac,T.Al,by change 6 < 1000;decide,?_);generalize FC (FC G4 O (.dK [])) p (.ins A.Ab F (LC "private" (.ref O) (LC "made" (.int 0) (LC "havers" (.ref L) (LC "sheets" (.ref J) (LC "house" (.ref N) (LC "most" (.int most) (LC "shape" (.ref sh) []))))))))=G5 at *;intro a0 Z;let Y:=kR W.1 W.2.1 Z (o:=.ins A.Ab F (LC "banked" (.ref a0) (LC "private" (.ref O) (LC "made" (.int 0) (LC "havers" (.ref L) (LC "sheets" (.ref J) (LC "house" (.ref N) (LC "most" (.int most) (LC "shape" (.ref sh) [])))))))));show(_,F,_,Y.2.2.2.2.2,T.Ac,T.A3,by change 7 < 1000;decide,?_);generalize FC (FC G5 a0 (.dK [])) p (.ins A.Ab F (LC "banked" (.ref a0) (LC "private" (.ref O) (LC "made" (.int 0) (LC "havers" (.ref L) (LC "sheets" (.ref J) (LC "house" (.ref N) (LC "most" (.int most) (LC "shape" (.ref sh) [])))))))))=G6 at *;let cr:sh≠p:=by
   let(bh,es):=id bm;intro e;rw[e,bl] at es;let D:=(HO.ins.inj (rA es)).2.2;let w:=UQ (l:=l) (f:=c2) (g:=g);rw[<-D] at w;cases w
  let(bh,es):=id bm;let cp:∀{c:Addr},c≠p->∀{o},G2 c>o->G6 c>o:=λa3 ο h=>Y.2.2.1 _ _ (W.2.2.1 _ _ (V.2.2.1 _ _ (U.2.2.1 _ _ h a3) a3) a3) a3;let ab:J≠p:=cD U.2.2.2.1 U.1 nofun;let bp:L≠p:=cD V.2.2.2.1 V.1 nofun;let cq:O≠p:=cD W.2.2.2.1 W.1 nofun;let b0:=W.2.2.1 _ _ (V.2.2.1 _ _ U.2.2.2.1 ab) ab;let b1:=W.2.2.1 _ _ V.2.2.2.1 bp;let b2:=W.2.2.2.1;let b3:=U.2.2.1 _ _ aq (cD aq a2.1 nofun);let ah:=U.2.2.1 _ _ ap (cD ap a2.1 nofun);let b4:=V.2.2.1 _ _ b3 (cD b3 U.1 nofun);let ao:=V.2.2.1 _ _ ah (cD ah U.1 nofun);let ad:=W.2.2.1 _ _ b4 (cD b4 V.1 nofun);let a8:=W.2.2.1 _ _ ao (cD ao V.1 nofun);let cs:=V.2.2.1 _ _ U.2.2.2.1 ab;show q (p,sh,N,J,L,O,a0,most) (N,sh,a1,bd) G6 rfl rfl ((⟨F,Y.1⟩,Y.2.2.1 _ _ b0 ab,Y.2.2.1 _ _ b1 bp,λs av=>by simp at av,.nil,.nil,λs av=>by simp at av,?_),(⟨a4,cp az.symm c1⟩,⟨bh,Y.2.1 _ _ es cr⟩,Y.2.2.1 _ _ ad (cD ad W.1 nofun),Y.2.2.1 _ _ a8 (cD a8 W.1 nofun),λt aw=>by simp at aw,.nil,.nil,λdk ck=>by simp at ck,bi,λt aw=>by simp at aw),ch,rfl,rfl,Y.2.2.1 _ _ b2 cq,λe cd=>by simp at cd,rfl,?_) ?_ bn Y.2.1 (Y.2.2.2.1,?_,Y.2.2.2.2.1)
  .show OD U.2.2.2.1 a6
  .let bw:J≠L:=OD U.2.2.2.1 a6;let bz:J≠O:=OD cs a7;let d2:J≠a0:=OD b0 Z;let c0:L≠O:=OD V.2.2.2.1 a7;let d3:L≠a0:=OD b1 Z;let d9:O≠a0:=OD b2 Z;let cu:a1≠J:=OD aq au;let cv:a1≠L:=OD b3 a6;let cw:a1≠O:=OD b4 a7;let dn:a1≠a0:=OD ad Z;let cx:bd≠J:=OD ap au;let cy:bd≠L:=OD ah a6;let cz:bd≠O:=OD ao a7;let dp:bd≠a0:=OD a8 Z;change [J,L,O,a1,bd].Nodup;simp only[KA,uA,bB,zC,not_or,List.nodup_nil,and_true,not_false_eq_true];show((bw,bz,cu.symm,cx.symm),(c0,cv.symm,cy.symm),⟨cw.symm,cz.symm⟩,bi)
  .intro c a9;let a9:c∈[J,L,O,a1,bd]:=a9;simp only[uA,bB,zC] at a9;let rfl||rfl||rfl||rfl||rfl:=a9
   .show U.2.2.2.2.1
   .show V.2.2.2.2.1
   .show W.2.2.2.2.1
   .show co
   .show c4
  .change a0∉[J,L,O,a1,bd];simp only[uA,bB,zC,not_or];show((OD b0 Z).symm,(OD b1 Z).symm,(OD b2 Z).symm,(OD ad Z).symm,(OD a8 Z).symm)
def KM (A:rD):Sp:=λvs H Q ο=>∃(r:Ro) (z:Hz) (l f g:Int) (tks:!Tk) (pv:!Pv),vs=[.ref r.p]/\RB A H r z l f g tks pv/\tks.length < 1000/\
 ∀(k:Nat) (p d:Addr) (H':Hp),SH (JD (HD tks)) k->RB A H' r z l f g (tks++[(k,p,[])]) (pv++[(k,d,[])])->H p=none->H d=none->(∀c o,H c>o->c≠r.pd->c≠z.td->H' c>o)->Q (.int k) H'
theorem zP (T:CD K mg A):QC P w K mg base A.Ab "new_task" 4 ["self"] [] (KM A):=by
 let a7:=@pV P w K mg base A T;show T.E4.have N4 (λvs H Q E L=>?_) ?_
 .let(r,L,l,f,g,a2,pv,rfl,_):=L;rfl
 .intro f b1 b0 b4 s H vs Q E a6 L;let(r,L,l,ad,g,a2,pv,rfl,D,au,q):=L;let(b2,h1):=D.s.me;let(a9,h2):=D.h.me;show(_,(aD (SD (i:=1) N4.nd rfl (Or.inl rfl) (cJ (FD (BC 0) rfl) T.Af a7 (-a6) ZC))
   (aD (gH (bE a6) (FD (BC 0) rfl) (BC 1) YJ rfl)
   (bD (PD (BC 1))))),?_)
  unfold FK kE;rfl';simp only[h1];rfl';show(T.Ac,T.Ak,_,MI,r.ho,rfl,a9,_,by rw[D.ho];show h2,KF ∅,L,by rw[D.ho],l,ad,g,a2,[],D.h,au,λk p W a3 a4 av Y J hd=>?_);let N:=xP D.nd;let hz:=PySem.sizeLine_eq;let F:H J=none:=OI Y a4.t J hd;let Z:=nE (o:=.dK []) (iE (H:=W)) hd;let aq:FC W J (.dK []) J>(.dK []):=jD;let ah:=a4.same Z;let ao:aE A W r 0 []:=D.s.kd D.h.t N.st.symm N.ht.symm Y;let a5:=ao.same Z;let a1:=Z _ _ (Y _ _ D.pd N.pt);let aw:∀e∈pv,FC W J (.dK []) e.d>(.dK []):=λe O=>Z _ _ (Y _ _ (D.pe e O).2 (N.e e O).2.2.2.1);generalize FC W J (.dK [])=H2 at *;let(a8,ab):=a5.me;let b3:(YG pv).length=a2.length:=by unfold YG;rw[iA,<-iA (f:=Pv.n),D.nm,iA]
  let ar:(inl (k:Int):Key)∉JD (YG pv):=by rw[yP D.nm];show a3.1
  let az:J≠r.pd:=λe=>by rw[e,D.pd] at F;cases F
  show(_,a8,_,ab,T.Ac,T.Al,_,zJ,r.pd,rfl,_,.inl (YG pv,inl k,a1,rfl,⋯,rfl),?_);rw[sM ar];let ac:YG pv++[(inl (k:Int),V.ref J)]=YG (pv++[(k,J,[])]):=by unfold YG;rw[nA];rfl
  rw[ac];let k3:Kd r.pd H2 (FC H2 r.pd (.dK (YG (pv++[(k,J,[])])))):=XE;show q k p J _ a3 (a5.kd a1 N.sp.symm N.hp.symm k3,ah.hk (Hk.refl.kp (U:=(·=r.pd)) ⟨λc o h n=>k3 _ _ h n,OI k3 jD⟩ (λc o e h=>.inl (_,by rw[e,a1] at h;show (rA h).symm,by rw[e];show N.pt,by rw[e];show N.pb))),D.gd,D.ho,D.sh,jD,?_,?_,?_) av F (λc o h ax ay=>k3 _ _ (Z _ _ (Y _ _ h ay)) ax)
  .intro e O;let h||h:=kA.mp O
   .show⟨(D.pe e h).1,k3 _ _ (aw e h) (N.e e h).2.2.1⟩
   .obtain rfl:=bA.mp h;show⟨rfl,k3 _ _ aq az⟩
  .rw[nA,nA,D.nm];rfl
  .let e:oG r L (pv++[(k,J,[])])=oG r L pv++[J]:=by unfold oG;rw[nA];rfl
   rw[e,LA];show(D.nd,KA.mpr ⟨bB,.nil⟩,λa a0 b ap=>?_);obtain rfl:=bA.mp ap;intro e;subst e;let a0:a∈r.sd::r.hd::r.pd::L.td::L.bd::pv.map Pv.d:=a0;simp only[uA] at a0;let e||e||e||e||e||h:=a0
   .rw[e,D.s.s] at F;cases F
   .rw[e,D.s.h] at F;cases F
   .rw[e,D.pd] at F;cases F
   .rw[e,D.h.t] at F;cases F
   .rw[e,D.h.b] at F;cases F
   .let(e,O,h):=cA.mp h;rw[<-h,(D.pe e O).2] at F;cases F
set_option genInjectivity false in
structure Ho where
 k:Bool
 n:Int
 d:Addr
 m:!(Int×Int)
def QE (es:!Ho):Kvs:=es.map λe=>((inl e.n:Key),V.ref e.d)
def RE (es:!Ho):!Ho:=es.filter λe=> not e.k
def tF (es:!Ho):!Ho:=es.filter λe=>e.k
def qF (r:Ro) (z:Hz) (es:!Ho):!Addr:=r.sd::r.hd::r.pd::r.bd::z.td::z.bd::es.map Ho.d
def Lo (z:Hz) (c:Addr) (o:HO):Prop:=pG z c o\/(∃i vs,o=.lst (V.int i::vs))\/∃kvs,o=.dT kvs
theorem YD.lo {A:rD} {B H:Hp} {D:Hz} {l f g:Int} {O:!Tk} {bk:Kvs} (h:YD A B D l f g O bk) (k:∀c o,B c>o->H c>o\/Lo D c o):YD A H D l f g O bk:=by
 let(F,e):=h.me;let(Z,es):=id h.sh;let L:∀{c C F fs},B c>(.ins C F fs)->fs.lookup ("made":Str)=none->H c>(.ins C F fs):=λh n=>by
  rcases k _ _ h with e|(⟨_,e,_⟩|⟨_,_,_,e,m⟩)|⟨_,_,e⟩|⟨_,e⟩
  .show e
  .cases e
  .cases e;show absurd n m
  .cases e
  .cases e
 let U:∀a xs,B a>(.tup xs)->H a>(.tup xs):=λa xs h=>by
  rcases k _ _ h with e|(⟨_,e,_⟩|⟨_,_,_,e,_⟩)|⟨_,_,e⟩|⟨_,e⟩
  .show e
  .cases e
  .cases e
  .cases e
  .cases e
 let a6:∀{v:V} {r:Rn},tD B v r->tD H v r:=λ{v r} h=>by
  let(a,a7,e,h1,h2):=h;show(a,a7,e,U _ _ h1,?_);cases N:r.t with
  |none=>rw[N] at h2;show h2
  |some t=>rw[N] at h2;let(a,e,h):=h2;show(a,e,U _ _ h)
 show(⟨F,L e (KF ∅)⟩,⟨Z,L es (fJ ∅)⟩,?_,?_,λt a4=>?_,h.nd,h.nk,h.vb,h.ne,h.np)
 .rcases k _ _ h.t with e|(⟨_,e,n,_⟩|⟨_,_,_,e,_⟩)|⟨_,_,e⟩|⟨_,e⟩
  .show e
  .show absurd rfl n
  .cases e
  .cases e
  .cases e
 .rcases k _ _ h.b with e|(⟨_,e,_,n⟩|⟨_,_,_,e,_⟩)|⟨_,_,e⟩|⟨_,e⟩
  .show e
  .show absurd rfl n
  .cases e
  .cases e
  .cases e
 .let(a,(Y,vs,a0,a1,J),a2):=h.st t a4;show(a,(Y,vs,L a0 (SF ∅),?_,NI J λv p a3=>a6 a3),a2);rcases k _ _ a1 with e|(⟨_,e,_⟩|⟨_,_,_,e,_⟩)|⟨i,W,e⟩|⟨_,e⟩
  .show e
  .cases e
  .cases e
  .let e:vs=V.int i::W:=by injection e
   rw[e] at J;let a5:∀rs:!Rn,¬MC B (V.int i::W) rs:=λrs h=>by
    cases h with
    |cons q _=>let(_,_,D,_):=q;cases D
   show absurd J (a5 _)
  .cases e
def iG (r:Ro) (z:Hz) (S:!Sh) (es:!Ho) (c:Addr):Prop:=c=r.p\/c∈qF r z es\/∃s∈S,c=s.a
structure RH (A:rD) (B H:Hp) (r:Ro) (z:Hz) (l f g:Int) (tks:!Tk) (bk:Kvs) (made:Int) (S:!Sh) (es:!Ho):Prop where
 h:YD A H z l f g tks bk
 gd:gd l f g
 ho:r.ho=z.p
 sh:r.sh=z.sh
 s:aE A H r made S
 pd:H r.pd>(.dK (QE (RE es)))
 bd:H r.bd>(.dK (QE (tF es)))
 pe:∀e∈es,H e.d>(.dK (mD e.m))
 nm:(RE es).map Ho.n=tks.map Tk.n
 bm:(tF es).map (λe=>(inl e.n:Key))=JD bk
 bn:((tF es).map Ho.n).Nodup
 nd:(qF r z es).Nodup
 ob:∀c,iG r z S es c->B c=none
 dm:∀c,H c=none->B c=none
 sz:∀s∈S,s.xs.length=(pw g).toNat
 ux:∀e∈es,(e.m.map (·.1)).Nodup
structure Dm (r:Ro) (z:Hz) (es:!Ho):Prop where
 sp:r.sd≠r.pd
 sx:r.sd≠r.bd
 hp:r.hd≠r.pd
 hx:r.hd≠r.bd
 st:r.sd≠z.td
 sb:r.sd≠z.bd
 ht:r.hd≠z.td
 hb:r.hd≠z.bd
 pt:r.pd≠z.td
 pb:r.pd≠z.bd
 px:r.pd≠r.bd
 bt:r.bd≠z.td
 bb:r.bd≠z.bd
 e:∀e∈es,e.d≠r.sd/\e.d≠r.hd/\e.d≠r.pd/\e.d≠r.bd/\e.d≠z.td/\e.d≠z.bd
 nd:(es.map Ho.d).Nodup
theorem AJ {r:Ro} {q:Hz} {es:!Ho} (h:(qF r q es).Nodup):Dm r q es:=by
 unfold qF at h;simp only[KA,uA,not_or] at h;let((ab,J,L,N,O,U),(V,W,Y,Z,a0),(a1,a2,a3,a4),(a5,a6,a7),(ac,a8),a9,g):=h;let F:∀{e:Ho},e∈es->e.d∈es.map Ho.d:=λD=>cA.mpr (_,D,rfl);show(J,L,V,W,N,O,Y,Z,a2,a3,a1,a5,a6,λe D=>(λq=>U (by rw[<-q];show F D),λq=>a0 (by rw[<-q];show F D),λq=>a4 (by rw[<-q];show F D),λq=>a7 (by rw[<-q];show F D),λq=>a8 (by rw[<-q];show F D),λq=>a9 (by rw[<-q];show F D)),g)
theorem RH.same {A:rD} {B H H':Hp} {r:Ro} {D:Hz} {l f g:Int} {q:!Tk} {bk:Kvs} {made:Int} {S:!Sh} {es:!Ho} (h:RH A B H r D l f g q bk made S es) (s:JC H H'):RH A B H' r D l f g q bk made S es:=
 (h.h.same s,h.gd,h.ho,h.sh,h.s.same s,s _ _ h.pd,s _ _ h.bd,λe J=>s _ _ (h.pe e J),h.nm,h.bm,h.bn,h.nd,h.ob,λc F=>h.dm c (FG s F),h.sz,h.ux)
def RD (k:Bool) (n:Int) (m:!(Int×Int)) (es:!Ho):!Ho:=es.map λe=>if e.k=k/\e.n=n then {e with m:=m} else e
theorem xV {k:Bool} {n:Int} {m:!(Int×Int)} {es:!Ho}:(RD k n m es).map Ho.d=es.map Ho.d:=by
 unfold RD;rw[CA];show IA λe ο=>?_;change (if e.k=k/\e.n=n then _ else e:Ho).d=e.d
 split<;>rfl
theorem JN {k:Bool} {n:Int} {m:!(Int×Int)} {α:Type} {p:Bool->Bool} {f:Ho->α} (hf:∀(e:Ho) m,f {e with m:=m}=f e):∀{es:!Ho},((RD k n m es).filter λe=>p e.k).map f=(es.filter λe=>p e.k).map f
 |[]=>rfl
 |e::es=>by
  let ih:=JN (k:=k) (n:=n) (m:=m) (p:=p) hf (es:=es);let e1:RD k n m (e::es)=(if e.k=k/\e.n=n then {e with m:=m} else e)::RD k n m es:=rfl;rw[e1];let hk:(if e.k=k/\e.n=n then {e with m:=m} else e:Ho).k=e.k:=by split<;>rfl
  let hv:f (if e.k=k/\e.n=n then {e with m:=m} else e:Ho)=f e:=by
   split
   .show hf e m
   .rfl
  cases c:p e.k with
  |true=>rw[ZB (by rw[hk];show c),ZB (p:=λe:Ho=>p e.k) (a:=e) c,BA,BA,hv,ih]
  |false=>rw[KB (by rw[hk,c];show AA),KB (p:=λe:Ho=>p e.k) (a:=e) (by rw[c];show AA),ih]
theorem RH.sb {A:rD} {B H:Hp} {r:Ro} {F:Hz} {l f g:Int} {D:!Tk} {bk:Kvs} {made:Int} {S:!Sh} {es:!Ho} (h:RH A B H r F l f g D bk made S es):∀s∈S,B s.a=none:=λs q=>h.ob _ (.inr (.inr (s,q,rfl)))
theorem RH.one {A:rD} {B H:Hp} {r:Ro} {O:Hz} {l f g:Int} {N:!Tk} {bk:Kvs} {made:Int} {S:!Sh} {es:!Ho} (h:RH A B H r O l f g N bk made S es) {e q:Ho} (D:e∈es) (F:q∈es) (hk:e.k=q.k) (J:e.n=q.n):e=q:=by
 cases c:e.k with
 |true=>show tH h.bn (HA.mpr ⟨D,c⟩) (HA.mpr ⟨F,by rw[<-hk];show c⟩) J
 |false=>
  let L:((RE es).map Ho.n).Nodup:=by rw[h.nm];show h.h.nk
  show tH L (HA.mpr ⟨D,by rw[c];rfl⟩) (HA.mpr ⟨F,by rw[<-hk,c];rfl⟩) J
theorem RH.loS {A:rD} {B H:Hp} {r:Ro} {L:Hz} {l f g:Int} {J:!Tk} {bk:Kvs} {made:Int} {S:!Sh} {es:!Ho} (h:RH A B H r L l f g J bk made S es) {s:Sh} {o:HO} (D:s∈S) (e:H s.a>o):∃i vs,o=.lst (V.int i::vs):=by
 rw[h.s.x s D] at e;let N:=II h.gd;let q:=h.sz s D;cases F:s.xs with
 |nil=>rw[F] at q;simp at q;omega
 |cons i ys=>rw[F] at e;show(i,_,(rA e).symm)
def Fb (S:!Sh) (r:Ro) (es:!Ho) (H H':Hp):Prop:=∀c o,H c>o->c≠r.p->c≠r.sd->c≠r.hd->c∉es.map Ho.d->(∀s∈S,c≠s.a)->H' c>o
theorem RH.put {A:rD} {B H H':Hp} {r:Ro} {D:Hz} {l f g:Int} {a6:!Tk} {bk:Kvs} {made a9:Int} {S a3:!Sh} {es:!Ho} {e:Ho} {m:!(Int×Int)}
  (h:RH A B H r D l f g a6 bk made S es) (U:e∈es) (a8:aE A H' r a9 a3) (N:∀s∈a3,B s.a=none/\s.xs.length=(pw g).toNat) (hd:H' e.d>(.dK (mD m))) (ah:(m.map (·.1)).Nodup)
  (k:∀c o,H c>o->c≠e.d->c≠r.p->c≠r.sd->c≠r.hd->(∀s∈S,c≠s.a)->H' c>o):
  RH A B H' r D l f g a6 bk a9 a3 (RD e.k e.n m es)/\Fb S r es H H':=by
 let F:=AJ h.nd;let a1:=F.e e U;let(au,h1):=h.s.me;let(av,aw):=a8.me;let ns:∀{c:Addr} {aq:Kvs},H c>(.dK aq)->∀s∈S,c≠s.a:=λJ s N D=>by rw[D,h.s.x s N] at J;cases J
 let ad:YD A H' D l f g a6 bk:=h.h.lo λc o L=>by
  by_cases W:c=e.d
  .subst W;rw[h.pe e U] at L;show .inr (.inl (.inl (_,(rA L).symm,a1.2.2.2.2.1,a1.2.2.2.2.2)))
  .by_cases Y:c=r.p
   .subst Y;rw[h1] at L;show .inr (.inl (.inr (_,_,_,(rA L).symm,by rw[gR];show λD=>nomatch D)))
   .by_cases Z:c=r.sd
    .subst Z;rw[h.s.s] at L;show .inr (.inl (.inl (_,(rA L).symm,F.st,F.sb)))
    .by_cases a0:c=r.hd
     .subst a0;rw[h.s.h] at L;show .inr (.inl (.inl (_,(rA L).symm,F.ht,F.hb)))
     .by_cases a2:∃s∈S,c=s.a
      .let(s,N,rfl):=a2;show .inr (.inr (.inl (h.loS N L)))
      .show .inl (k c o L W Y Z a0 λs N D=>a2 (s,N,D))
 let ap:=k _ _ h.pd a1.2.2.1.symm (cD h.pd h1 nofun) F.sp.symm F.hp.symm (ns h.pd);let ac:=k _ _ h.bd a1.2.2.2.1.symm (cD h.bd h1 nofun) F.sx.symm F.hx.symm (ns h.bd);show⟨(ad,h.gd,h.ho,h.sh,a8,?_,?_,λab a4=>?_,?_,?_,?_,by unfold qF;rw[xV];show h.nd,λc J=>?_,λc J=>?_,λs a5=>(N s a5).2,λab a4=>?_),λc o h0 W Y Z a0 a2=>k c o h0 (λD=>a0 (by rw[D];show cA.mpr (e,U,rfl))) W Y Z a2⟩
 .rw[ap];show congrArg (λD=>some (HO.dK D)) (JN (p:=λb=> not b) (f:=λe:Ho=>((inl e.n:Key),V.ref e.d)) (λο ο=>rfl)).symm
 .rw[ac];show congrArg (λD=>some (HO.dK D)) (JN (p:=λb=>b) (f:=λe:Ho=>((inl e.n:Key),V.ref e.d)) (λο ο=>rfl)).symm
 .let(u,O,rfl):=cA.mp a4;by_cases c:u.k=e.k/\u.n=e.n
  .rw[jA c];obtain rfl:=h.one O U c.1 c.2;show hd
  .rw[fA c];let ao:u.d≠e.d:=λD=>c (by rw[tH F.nd O U D];show⟨rfl,rfl⟩);show k _ _ (h.pe u O) ao (cD (h.pe u O) h1 nofun) (F.e u O).1 (F.e u O).2.1 (ns (h.pe u O))
 .rw[<-h.nm];show JN (p:=λb=> not b) (f:=Ho.n) (λο ο=>rfl)
 .rw[<-h.bm];show JN (p:=λb=>b) (f:=λe:Ho=>(inl e.n:Key)) (λο ο=>rfl)
 .rw[show (tF (RD e.k e.n m es)).map Ho.n=(tF es).map Ho.n from JN (p:=λb=>b) (f:=Ho.n) (λο ο=>rfl)];show h.bn
 .let rfl||J||(s,a5,rfl):=J
  .show h.ob _ (.inl rfl)
  .unfold qF at J;rw[xV] at J;show h.ob _ (.inr (.inl J))
  .show (N s a5).1
 .by_cases own:iG r D S es c
  .show h.ob c own
  .cases a7:H c with
   |none=>show h.dm c a7
   |some ar=>
    let W:c≠e.d:=λq=>own (.inr (.inl (by unfold qF;simp only[uA];show .inr (.inr (.inr (.inr (.inr (.inr (cA.mpr (e,U,q.symm))))))))));let Y:c≠r.p:=λq=>own (.inl q);let Z:c≠r.sd:=λq=>own (.inr (.inl (by unfold qF;rw[q];show aA ..)));let a0:c≠r.hd:=λq=>own (.inr (.inl (by unfold qF;rw[q];show qA _ (aA ..))));rw[k c ar a7 W Y Z a0 λs N q=>own (.inr (.inr (s,N,q)))] at J;cases J
 .let(u,O,rfl):=cA.mp a4;by_cases c:u.k=e.k/\u.n=e.n
  .rw[jA c];show ah
  .rw[fA c];show h.ux u O
theorem X6 (m:!(Int×Int)) (x:Int):(∃k,(x,k)∈m/\SC (mD m) (inl x)>(.int k))\/((∀q∈m,q.1≠x)/\SC (mD m) (inl x)=none):=by
 induction m with
 |nil=>show .inr ⟨λq h=>by simp at h,rfl⟩
 |cons u r J=>
  by_cases c:u.1=x
  .show .inl (u.2,by rw[<-c];show aA .., ?_);change SC ((inl u.1,V.int u.2)::mD r) (inl x)=_;show UG (by rw[c])
  .let e:SC (mD (u::r)) (inl x)=SC (mD r) (inl x):=by
    change SC ((inl u.1,V.int u.2)::mD r) (inl x)=_;show fH (λD=>c (kB D))
   rw[e];let(k,h1,h2)||(h1,h2):=J
   .show .inl (k,qA _ h1,h2)
   .show .inr ⟨λq F=>(uA.mp F).elim (λD=>by rw[D];show c) (h1 q),h2⟩
theorem LM {pv:!Pv} {e:Pv} (q:(pv.map Pv.n).Nodup) (D:e∈pv):SC (YG pv) (inl e.n)=↑e.d:=by
 induction pv with
 |nil=>simp at D
 |cons u r F=>
  rw[BA,KA] at q;change SC ((inl u.n,V.ref u.d)::YG r) (inl e.n)=_;let rfl||h:=uA.mp D
  .show UG rfl
  .rw[fH (λJ=>q.1 (by rw[show u.n=e.n from kB J];show cA.mpr (e,h,rfl)))];show F q.2 h
theorem Y6 {es:!Ho} {e:Ho} (D:(es.map Ho.n).Nodup) (q:e∈es):SC (QE es) (inl e.n)=↑e.d:=by
 have:=LM (pv:=es.map λe=>((e.n,e.d,e.m):Pv)) (e:=(e.n,e.d,e.m)) (by rw[CA];show D) (cA.mpr (e,q,rfl));unfold YG at this;rw[CA] at this;show this
theorem RH.pv {A:rD} {B H:Hp} {r:Ro} {U:Hz} {l f g:Int} {F:!Tk} {bk:Kvs} {made:Int} {S:!Sh} {es:!Ho} (h:RH A B H r U l f g F bk made S es) {t:Tk} (N:t∈F):∃e∈es,e.k=false/\e.n=t.n/\SC (QE (RE es)) (inl t.n)=↑e.d:=by
 have:t.n∈(RE es).map Ho.n:=by rw[h.nm];show cA.mpr (t,N,rfl)
 let(e,D,q):=cA.mp this;let(J,L):=HA.mp D;let O:((RE es).map Ho.n).Nodup:=by rw[h.nm];show h.h.nk
 show(e,J,by simpa using L,q,by rw[<-q];show Y6 O D)
theorem RH.bv {A:rD} {B H:Hp} {r:Ro} {F:Hz} {l f g:Int} {D:!Tk} {bk:Kvs} {made:Int} {S:!Sh} {es:!Ho} (h:RH A B H r F l f g D bk made S es) {e:Ho} (q:e∈es) (hk:e.k=true):SC (QE (tF es)) (inl e.n)=↑e.d:=Y6 h.bn (HA.mpr ⟨q,hk⟩)
def WC (t:Tk) (x:Int):Bool×Int×Int:=match (pm t.rs x).bind (·.2) with|none=>(false,(t.n,x))|some (b,y)=>(true,(b,y))
def vD (e:Ho) (x:Int):Option Int:=(e.m.find? λy=>decide (y.1=x)).map (·.2)
theorem KH {e:Ho} {x k:Int} (J:(e.m.map (·.1)).Nodup):vD e x>k↔(x,k)∈e.m:=by
 unfold vD;constructor
 .intro h;let(D,F,rfl):=cB.mp h;let h1:=List.find?_some F;let h2:=List.mem_of_find?_eq_some F;rw[<-EB h1];show h2
 .intro h;cases q:e.m.find? λD=>decide (D.1=x) with
  |none=>show absurd (pA (rfl:x=x)) (List.find?_eq_none.mp q _ h)
  |some D=>
   let h1:=List.find?_some q;let h2:=List.mem_of_find?_eq_some q;rw[tH J h2 h (EB h1)]
   rfl
theorem KN {e:Ho} (J:(e.m.map (·.1)).Nodup) (x:Int):SC (mD e.m) (inl x)=(vD e x).map V.int:=by
 let(k,hk,q)||(hk,q):=X6 e.m x
 .rw[q,(KH J).mpr hk]
  rfl
 .unfold vD;rw[q,show (e.m.find? λD=>decide (D.1=x))=none from List.find?_eq_none.mpr λD F=>by simpa using hk D F]
  rfl
def Z6 (A : rD) : Sp := λvs H Q E => ∃ (B : Hp) (r : Ro) (z : Hz) (l f g : Int) (tks : !Tk) (bk : Kvs) (made : Int) (S : !Sh) (es : !Ho) (n x : Int) (t : Tk) (e : Ho), vs = [.ref r.p, .int n, .int x] /\ RH A B H r z l f g tks bk made S es /\ t ∈ tks /\ t.n = n /\ e ∈ es /\ e.k = (WC t x).1 /\ e.n = (WC t x).2.1 /\ S.length <= 10000 /\ e.m.length <= 10000 /\
  ((∃ k, vD e (WC t x).2.2 = some k /\ ∀ H', JC H H' -> Q (.int k) H') \/ (vD e (WC t x).2.2 = none /\ (S.length : Int) >= r.most /\ ∀ H', JC H H' -> E (.ref A.At) none H') \/
   (vD e (WC t x).2.2 = none /\ (S.length : Int) < r.most /\ ∀ a H', H a = none -> RH A B H' r z l f g tks bk (made + 1) (S ++ [(made, a, List.replicate (pw g).toNat 0, 1)]) (RD e.k e.n (e.m ++ [((WC t x).2.2, made)]) es) -> Fb S r es H H' -> Q (.int made) H'))
theorem LK (T:CD K mg A):QC P w K mg base A.Ab "sheet_to_read" 8 ["self","task","page"] [] (Z6 A):=by
 let ay:=@qP P w K mg base A T;let ad:=@uP P w K mg base A T;show T.Cp.have T4 (λvs H Q E J=>?_) ?_
 .let(B,r,J,l,f,g,ax,bk,made,S,es,n,x,t,e,rfl,_):=J;rfl
 .intro f bp bn bz s H vs Q E Y J;let(B,r,J,l,a6,g,ax,bk,made,S,es,n,x,t,e,rfl,D,ar,aq,F,ao,ap,bt,bw,q):=J;let(a1,h1):=D.s.me;let(b0,h2):=D.h.me;show(_,(aD (SD (i:=3) T4.nd rfl (Or.inl rfl) (GD (FD (BC 0) rfl) T.Af ay (-Y) ZC (EC (BC 1) (EC (BC 2) IC))))
   (aD (ME (yF gI (BC 3) CG (UC _)) (bD (PD (GD (BC 0) T.Ac ad (-Y) ZC (EC (FF (bE Y) (FD (BC 0) rfl) (BC 1) (λο ο=>rfl)) (EC (BC 2) IC))))) OE)
   (bD (PD (GD (BC 0) T.Ac ad (-Y) ZC (EC (FF (bE Y) (FD (BC 0) rfl) (WD vE (BC 3) NC (λο ο=>rfl)) (λο ο=>rfl)) (EC (WD vE (BC 3) NC (λο ο=>rfl)) IC))))))),?_)
  unfold O6 V6 eE;rfl';simp only[h1];rfl';show(T.Ac,T.Ak,_,MI,r.ho,rfl,b0,_,by rw[D.ho];show h2,KF ∅,J,by rw[D.ho],l,a6,g,ax,bk,D.h,.inr (t,ar,aq,λv a0 N a5=>?_));let O:=D.same N;let Z:=AJ D.nd;let a4:=O.h.sh;rw[<-D.sh] at a4;let av:r.sh≠r.p:=λJ=>by
   let(br,es):=id a4;rw[J,N _ _ h1] at es;let w:=gR (sh:=r.sh) (most:=r.most) (ho:=r.ho) (sd:=r.sd) (hd:=r.hd) (made:=made) (pd:=r.pd) (bd:=r.bd);rw[(HO.ins.inj (rA es)).2.2,fJ ∅] at w;cases w
  let ah:∀L,(WC t x).2.2=L->(∃n:Int,SC (mD e.m) (inl L)>(.int n)/\Q (.int n) a0)\/(SC (mD e.m) (inl L)=none/\(S.length:Int)>=r.most/\∀H',JC a0 H'->E (.ref A.At) none H')\/
    (SC (mD e.m) (inl L)=none/\(S.length:Int) < r.most/\∀a H',aE A H' r (made+1) (S++[(made,a,List.replicate (pw g).toNat 0,1)])->a0 a=none->H' e.d>(.dK (mD e.m++[(inl L,.int made)]))->(∀c o,a0 c>o->c≠e.d->c≠r.p->c≠r.sd->c≠r.hd->H' c>o)->Q (.int made) H'):=λL bi=>by
   rw[bi] at q;let(k,hk,q)||(hk,a7,q)||(hk,a7,q):=q
   .show .inl (k,by rw[KN (D.ux e F),hk];rfl,q _ N)
   .show .inr (.inl (by rw[KN (D.ux e F),hk];rfl,a7,λH' bm=>q _ (N.trans bm)))
   .show .inr (.inr (by rw[KN (D.ux e F),hk];rfl,a7,λa bo b1 W b3 k2=>?_));let b5:L∉e.m.map (·.1):=λJ=>by
     let(u,bh,rfl):=cA.mp J;have:=(KH (D.ux e F)).mpr bh;rw[hk] at this;cases this
    let be:∀s∈S++[(made,a,List.replicate (pw g).toNat 0,1)],B s.a=none/\s.xs.length=(pw g).toNat:=λs bb=>by
     let a2||a2:=kA.mp bb
     .show⟨D.sb s a2,D.sz s a2⟩
     .rw[bA.mp a2];show⟨O.dm a W,qB⟩
    let(z1,z2):=O.put F b1 be (m:=e.m++[(L,made)]) (by rw[b3];unfold mD;rw[nA];rfl) (by rw[nA];show LA.mpr (D.ux e F,by simp,λa W b b2 J=>b5 (by rw[J,bA.mp b2] at W;show W))) (λc o h a8 a9 ab ac ο=>k2 c o h a8 a9 ab ac);show q a _ (FG N W) z1 λc o h a8 a9 ab ac bl=>z2 c o (N _ _ h) a8 a9 ab ac bl
  cases a3:(pm t.rs x).bind (·.2) with
  |none=>
   let U:WC t x=(false,(t.n,x)):=by unfold WC;rw[a3]
   rw[a3] at a5;obtain rfl:v=.non:=a5;rw[jA rfl];let(V,b4,k1,k2,k3):=D.pv ar;obtain rfl:V=e:=D.one b4 F (by rw[k1,ao,U]) (by rw[k2,ap,U]);rw[aq] at k3;show(a1,_,N _ _ h1,FE ∅,_,a1,_,N _ _ h1,T.Ac,T.Al,_,zJ,r.pd,rfl,_,.inl (_,inl n,.inl O.pd,rfl,k3.symm),r,rfl,made,S,l,a6,g,V.d,rfl,O.s,⋯,a4,D.gd,av,mD V.m,O.pe V F,by unfold mD;rw[iA];omega,(Z.e V F).1,(Z.e V F).2.1,ah x (by rw[U]))
  |some az=>
   let(b,L):=az;let U:WC t x=(true,(b,L)):=by unfold WC;rw[a3]
   rw[a3] at a5;let(aw,rfl,au):=a5;rw[fA nofun];let k3:=D.bv F (by rw[ao,U]);rw[ap,U] at k3;show(a1,_,N _ _ h1,FE ∅,_,a1,_,N _ _ h1,T.Ac,T.A3,_,iR,aw,rfl,_,uD.of au,_,QH (j:=0) rfl,r.bd,rfl,_,.inl (_,inl b,.inl O.bd,rfl,k3.symm),aw,rfl,_,uD.of au,_,QH (j:=1) rfl,r,rfl,made,S,l,a6,g,e.d,rfl,mD e.m,L,rfl,O.s,⋯,a4,D.gd,av,O.pe e F,by unfold mD;rw[iA];omega,(Z.e e F).1,(Z.e e F).2.1,ah L (by rw[U]))
theorem b7 {m:!(Int×Int)} {x:Int}:DD (mD m) (inl x)=mD (m.filter λy=>decide (y.1≠x)):=by
 unfold DD mD;rw[qC];show congrArg _ (YB λy ο=>?_);change decide ((inl y.1:Key)≠inl x)=decide (y.1≠x);rw[rB];simp only[ZA];show⟨λz e=>z (by rw[e]),λz e=>z (kB e)⟩
theorem wg {m:!(Int×Int)} {x:Int}:SC (mD (m.filter λq=>decide (q.1≠x))) (inl x)=none:=by
 let(k,hk,_)||(_,D):=X6 (m.filter λq=>decide (q.1≠x)) x
 .show absurd rfl (EB (HA.mp hk).2)
 .show D
def MK (A : rD) (H : Hp) (Q : VK) (E : XK) (B : Hp) (r : Ro) (z : Hz) (l f g : Int) (tks : !Tk) (bk : Kvs) (made : Int) (S : !Sh) (es : !Ho) (x : Int) (t : Tk) (e : Ho) : Prop :=
  e ∈ es /\ e.k = (WC t x).1 /\ e.n = (WC t x).2.1 /\ S.length <= 10000 /\ e.m.length <= 10000 /\
  ((∃ k, vD e (WC t x).2.2 = some k /\ ∀ H', JC H H' -> Q (.int k) H') \/ (vD e (WC t x).2.2 = none /\ (S.length : Int) >= r.most /\ ∀ H', JC H H' -> E (.ref A.At) none H') \/
   (vD e (WC t x).2.2 = none /\ (S.length : Int) < r.most /\ ∀ a H', H a = none -> RH A B H' r z l f g tks bk (made + 1) (S ++ [(made, a, List.replicate (pw g).toNat 0, 1)]) (RD e.k e.n (e.m ++ [((WC t x).2.2, made)]) es) -> Fb S r es H H' -> Q (.int made) H'))
def MM (A : rD) : Sp := λvs H Q E => ∃ (B : Hp) (r : Ro) (z : Hz) (l f g : Int) (tks : !Tk) (bk : Kvs) (made : Int) (S : !Sh) (es : !Ho) (n x : Int) (t : Tk) (p : Ho), vs = [.ref r.p, .int n, .int x] /\ RH A B H r z l f g tks bk made S es /\ t ∈ tks /\ t.n = n /\ p ∈ es /\ p.k = false /\ p.n = n /\ p.m.length <= 10000 /\
  (((∀ k, vD p x = some k -> ∃ s ∈ S, s.n = k /\ s.h <= 1) /\ ∃ e, MK A H Q E B r z l f g tks bk made S es x t e) \/
   ∃ s ∈ S, vD p x = some s.n /\ 1 < s.h /\ S.length < 10000 /\ (((S.length : Int) >= r.most /\ E (.ref A.At) none H) \/
    ((S.length : Int) < r.most /\ (pm t.rs x).bind (·.2) = none /\ ∀ a H', H a = none -> RH A B H' r z l f g tks bk (made + 1) (ID s.n (S ++ [(made, a, s.xs, 1)])) (RD false n ((p.m.filter λy => decide (y.1 ≠ x)) ++ [(x, made)]) es) -> Fb S r es H H' -> Q (.int made) H')))
theorem BP (T:CD K mg A):QC P w K mg base A.Ab "sheet_to_write" 9 ["self","task","page"] [] (MM A):=by
 show T.Ce.have mU (λvs H Q E L=>?_) ?_
 .let(B,r,L,l,f,g,a9,bk,made,S,es,n,x,t,p,rfl,_):=L;rfl
 .intro f ch c4 cp s H vs Q E N L;let(B,r,L,l,ac,g,a9,bk,made,S,es,n,x,t,p,rfl,F,aq,a1,O,a4,a5,cn,q):=L;let(ck,h1):=F.s.me;let(D,bt,k1,k2,az):=F.pv aq;obtain rfl:D=p:=F.one bt O (by rw[k1,a4]) (by rw[k2,a5,a1]);rw[a1] at az;let bb:=AJ F.nd;let a2:=λx=>KN (F.ux D O) x;let hz:=PySem.sizeLine_eq;show(_,(aD (SD (i:=3) mU.nd rfl (Or.inl rfl) (FF (bE N) (FD (BC 0) rfl) (BC 1) (λο ο=>rfl)))
   (aD (ME (PW.pt (YR (tN (XZ (bE N) (BC 2) (BC 3))) (WR (yF tL (FF (bE N) (FD (BC 0) rfl) (FF (bE N) (BC 3) (BC 2) (λο ο=>rfl)) (λο ο=>rfl)) NC (UC _))))) (aD (SD (i:=4) mU.nd rfl (Or.inl rfl) (GD (BC 0) T.Ac (IK T) (-N) ZC (EC (FF (bE N) (FD (BC 0) rfl) (FF (bE N) (BC 3) (BC 2) (λο ο=>rfl)) (λο ο=>rfl)) IC)))
   (aD (lE (GD (BC 0) T.Ac (uV T) (-N) ZC (EC (BC 3) (EC (BC 2) IC))))
   (bD (gH (bE N) (BC 3) (BC 2) (BC 4) rfl)))) OE)
   (bD (PD (GD (BC 0) T.Ac (LK T) (-N) ZC (EC (BC 1) (EC (BC 2) IC))))))),?_)
  unfold eE GL kE;rfl';simp only[h1];rfl';show(T.Ac,T.Al,_,zJ,r.pd,rfl,_,.inl (_,inl n,.inl F.pd,rfl,az.symm),D.d,rfl,?_);let Y:=F.pe D O;let aw:(∃e,MK A H Q E B r L l ac g a9 bk made S es x t e)->Z6 A [.ref r.p,.int n,.int x] H Q E:=λ⟨e,h⟩=>(uK B r L l ac g a9 bk made S es n x t e (rfl,F,aq,a1,h))
  show(_,.inl (mD D.m,inl x,.inl Y,rfl,rfl),?_);let(c3,q)||(s,U,hk,bo,br,q):=q
  .cases a3:vD D x with
   |none=>
    rw[a2,a3];show oE ⟨FE ∅,aw q⟩
   |some k=>
    let(s,U,bz,co):=c3 k a3;rw[a2,a3];show fE (T.Ac,T.An,_,yJ,D.d,rfl,_,.inl (mD D.m,inl x,.inl Y,rfl,by rw[a2,a3];rfl),r.hd,rfl,_,.inl (_,inl k,.inl F.s.h,rfl,by rw[<-bz];show (EM F.s.nn U).symm),s.h,rfl,?_);rw[fA ⋯];show⟨FE ∅,aw q⟩
  .rw[a2,hk];let au:some (V.int s.n)=SC (mD D.m) (inl x):=by rw[a2,hk];rfl
   show fE (T.Ac,T.An,_,yJ,D.d,rfl,_,.inl (mD D.m,inl x,.inl Y,rfl,au),r.hd,rfl,_,.inl (_,inl s.n,.inl F.s.h,rfl,(EM F.s.nn U).symm),s.h,rfl,?_);rw[jA bo];show(FE ∅,T.Ac,T.Ao,_,HK,D.d,rfl,_,.inl (mD D.m,inl x,.inl Y,rfl,au),r.sd,rfl,_,.inl (_,inl s.n,.inl F.s.s,rfl,(tP F.s.nn U).symm),r,made,S,s.a,s.xs,rfl,F.s,⋯,F.s.x s U,?_);let(ao,q)||(ao,c0,q):=q
   .show .inl ⟨ao,q⟩
   .show .inr ⟨ao,λa c9 ax a0 ay=>?_⟩;let(be,bi):=ax.me;let b2:D.d≠r.p:=cD Y h1 nofun;let W:=bb.e D O;let bn:=ay _ _ Y b2 W.1 W.2.1;let bw:s∈S++[((made,a,s.xs,1):Sh)]:=EA _ U;show(be,_,bi,FE ∅,r,made+1,S++[(made,a,s.xs,1)],D.d,mD D.m,x,rfl,ax,bn,W.1,W.2.1,by rw[xA];change S.length+1<=100000;omega,.inr (s,bw,au.symm,λcd ad ah bp=>?_));rw[show DM s.n s.h (S++[((made,a,s.xs,1):Sh)])=ID s.n (S++[(made,a,s.xs,1)]) by unfold DM;rw[fA ⋯]] at ad;rw[b7] at ah;let(bh,bl):=ad.me;let cl:(D.m.filter λJ=>decide (J.1≠x)).length<=D.m.length:=FB _ _;let c2:x∉(D.m.filter λJ=>decide (J.1≠x)).map (·.1):=λL=>by
     let(u,ar,rfl):=cA.mp L;show absurd rfl (EB (HA.mp ar).2)
    let b1:(((D.m.filter λJ=>decide (J.1≠x))++[(x,made)]).map (·.1)).Nodup:=by
     rw[nA];show LA.mpr ((List.filter_sublist.map _).nodup (F.ux D O),by simp,λa a0 b bm L=>c2 (by rw[L,bA.mp bm] at a0;show a0))
    show(D.d,rfl,_,.inl (mD (D.m.filter λJ=>decide (J.1≠x)),inl x,ah,rfl,by unfold mD;rw[iA];omega,rfl),bh,_,by rw[VC b2.symm];show bl,FE ∅,?_);rw[CQ _ wg,show mD (D.m.filter λJ=>decide (J.1≠x))++[((inl x:Key),V.int made)]=mD ((D.m.filter λJ=>decide (J.1≠x))++[(x,made)]) by unfold mD;rw[nA];rfl];let ap:∀s'∈ID s.n (S++[((made,a,s.xs,1):Sh)]),B s'.a=none/\s'.xs.length=(pw g).toNat:=λs' ap=>by
     let(u,ar,rfl):=cA.mp ap;let b0:B u.a=none/\u.xs.length=(pw g).toNat:=by
      let Z||Z:=kA.mp ar
      .show⟨F.sb u Z,F.sz u Z⟩
      .rw[bA.mp Z];show⟨F.dm a a0,F.sz s U⟩
     split
     .show b0
     .show b0
    let(z1,z2):=F.put O (ad.kd ah W.1 W.2.1 XE) ap (m:=(D.m.filter λJ=>decide (J.1≠x))++[(x,made)]) jD b1 (λc o h a6 av a7 a8 ο=>by rw[VC a6];show bp _ _ (ay _ _ h av a7 a8) a6 a7 a8);let ab:WC t x=(false,(t.n,x)):=by unfold WC;rw[c0]
    rw[a4,a5] at z1;show(B,r,L,l,ac,g,a9,bk,made+1,_,_,n,x,t,{D with m:=(D.m.filter λJ=>decide (J.1≠x))++[(x,made)]},rfl,z1,aq,a1,cA.mpr (D,O,jA ⟨a4,a5⟩),by rw[ab];show a4,by rw[ab];show a5.trans a1.symm,?_,?_,.inl (made,?_,λH' s'=>q a _ a0 (z1.same s') λc o h a6 av a7 a8 c1=>s' _ _ (z2 c o h a6 av a7 a8 c1)))
    .change (List.map _ (S++[_])).length<=10000;rw[iA,xA];show br
    .change (_++[_]).length<=10000;rw[xA];let Z:(D.m.filter λJ=>decide (J.1≠x)).length < D.m.length:=by
      show List.length_filter_lt_length_iff_exists.mpr ((x,s.n),(KH (F.ux D O)).mp hk,?_);simp
     change _+1<=10000;omega
    .rw[ab];show (KH b1).mpr (vA _ (aA ..))
def LD (es:!Ho):!Int:=(es.map λe=>e.m.map (·.2)).flatten
theorem OM {e:Ho} {es:!Ho}:LD (e::es)=e.m.map (·.2)++LD es:=rfl
structure PC (S:!Sh) (es:!Ho):Prop where
 liv:∀e∈es,∀y∈e.m,∃s∈S,s.n=y.2
 cnt:∀s∈S,s.h=((LD es).count s.n:Int)
 pos:∀s∈S,1<=s.h
theorem c7 {k:Bool} {n:Int} {m:!(Int×Int)}:∀{es:!Ho},(∀e∈es,¬(e.k=k/\e.n=n))->RD k n m es=es
 |[],_=>rfl
 |e::es,h=>by
  change (if e.k=k/\e.n=n then {e with m:=m} else e)::RD k n m es=e::es;rw[fA (h e (aA ..)),c7 λe' he'=>h e' (qA _ he')]
theorem d7 {e:Ho} {m:!(Int×Int)} {k:Int}:∀{es:!Ho},(es.map Ho.d).Nodup->(∀e'∈es,e'.k=e.k->e'.n=e.n->e'=e)->e∈es->(LD (RD e.k e.n m es)).count k+(e.m.map (·.2)).count k=(LD es).count k+(m.map (·.2)).count k
 |[],_,_,h=>by cases h
 |e0::es,nd,un,he=>by
  let e1:RD e.k e.n m (e0::es)=(if e0.k=e.k/\e0.n=e.n then {e0 with m:=m} else e0)::RD e.k e.n m es:=rfl;rw[BA,KA] at nd;by_cases c:e0.k=e.k/\e0.n=e.n
  .obtain rfl:=un e0 (aA ..) c.1 c.2;let hout:∀e'∈es,¬(e'.k=e0.k/\e'.n=e0.n):=λe' he' z=>nd.1 (by rw[<-un e' (qA _ he') z.1 z.2];show cA.mpr (e',he',rfl));rw[e1,jA c,c7 hout,OM,OM,fB,fB];change (m.map (·.2)).count k+_+_=_;omega
  .let he':e∈es:=(uA.mp he).elim (λz=>absurd (by rw[z];show⟨rfl,rfl⟩) c) id;let ih:=d7 (m:=m) (k:=k) nd.2 (λe' h=>un e' (qA _ h)) he';rw[e1,fA c,OM,OM,fB,fB];omega
theorem BJ {es:!Ho} {k:Int}:k∈LD es↔∃e∈es,∃q∈e.m,q.2=k:=by
 unfold LD;simp only[List.mem_flatten,cA];constructor
 .rintro⟨l,⟨e,D,rfl⟩,hk⟩;let(q,F,rfl):=cA.mp hk;show(e,D,q,F,rfl)
 .rintro⟨e,D,q,F,rfl⟩;show(_,(e,D,rfl),cA.mpr (q,F,rfl))
theorem yV {k:Bool} {n:Int} {m:!(Int×Int)} {es:!Ho} {q:Ho} (h:q∈RD k n m es):(∃u∈es,u.k=k/\u.n=n/\q={u with m:=m})\/(q∈es/\¬(q.k=k/\q.n=n)):=by
 let(u,D,rfl):=cA.mp h;by_cases c:u.k=k/\u.n=n
 .rw[jA c];show .inl (u,D,c.1,c.2,rfl)
 .rw[fA c];show .inr ⟨D,c⟩
theorem PC.more {S:!Sh} {es:!Ho} {e:Ho} {made:Int} {a:Addr} {a2:!Int} {N:Int} (h:PC S es) (a1:(es.map Ho.d).Nodup) (un:∀D∈es,D.k=e.k->D.n=e.n->D=e) (Z:e∈es) (W:∀s∈S,s.n < made):PC (S++[(made,a,a2,1)]) (RD e.k e.n (e.m++[(N,made)]) es):=by
 let a0:made∉LD es:=λV=>by
  let(D,U,O,L,hk):=BJ.mp V;let(s,q,F):=h.liv D U O L;have:=W s q;omega
 let Y:∀k,(LD (RD e.k e.n (e.m++[(N,made)]) es)).count k=(LD es).count k+if made=k then 1 else 0:=λk=>by
  let V:=d7 (m:=e.m++[(N,made)]) (k:=k) a1 un Z;rw[nA,fB] at V;have:(([(N,made)]:!(Int×Int)).map (·.2)).count k=if made=k then 1 else 0:=by
   simp[XB]
  omega
 show(λD U O L=>?_,λs q=>?_,λs q=>?_)
 .let(u,J,k1,k2,rfl)||(J,_):=yV U
  .obtain rfl:=un u J k1 k2;let h1||h1:=kA.mp L
   .let(s,q,F):=h.liv u J O h1;show(s,EA _ q,F)
   .rw[bA.mp h1];show(_,vA _ (aA ..),rfl)
  .let(s,q,F):=h.liv D J O L;show(s,EA _ q,F)
 .rw[Y];let h1||h1:=kA.mp q
  .have:=W s h1;rw[fA ⋯,h.cnt s h1]
   rfl
  .rw[bA.mp h1];change (1:Int)=_;rw[jA rfl,List.count_eq_zero.mpr a0]
   rfl
 .let h1||h1:=kA.mp q
  .show h.pos s h1
  .rw[bA.mp h1];show DB _
def fF (k:Int) (xs:!Int) (S:!Sh):!Sh:=S.map λs=>if s.n=k then {s with xs:=xs} else s
theorem PM {k:Int} {xs:!Int} {S:!Sh}:(fF k xs S).map Sh.a=S.map Sh.a:=by
 unfold fF;rw[CA];show IA λe ο=>?_;change (if e.n=k then {e with xs:=xs} else e).a=e.a
 split<;>rfl
theorem i7 {k:Int} {xs:!Int} {S:!Sh}:(fF k xs S).map Sh.n=S.map Sh.n:=by
 unfold fF;rw[CA];show IA λe ο=>?_;change (if e.n=k then {e with xs:=xs} else e).n=e.n
 split<;>rfl
theorem j7 {k:Int} {xs:!Int} {S:!Sh}:sF (fF k xs S)=sF S/\EE (fF k xs S)=EE S:=by
 unfold fF sF EE;rw[CA,CA];constructor
 .show IA λe ο=>?_;change ((inl (if e.n=k then {e with xs:=xs} else e).n:Key),V.ref (if e.n=k then {e with xs:=xs} else e).a)=_
  split<;>rfl
 .show IA λe ο=>?_;change ((inl (if e.n=k then {e with xs:=xs} else e).n:Key),V.int (if e.n=k then {e with xs:=xs} else e).h)=_
  split<;>rfl
theorem k7 {n:Nat} {i:Int} (h0:0<=i) (h1:i < n):jI n i>i.toNat:=by
 unfold jI;rw[jA h0,jA h1]
theorem QM {xs:!Int} {i:Int} (h0:0<=i) (h1:i < xs.length):SG (xs.map V.int) i>(.int (xs.getD i.toNat 0)):=by
 unfold SG;rw[iA,k7 h0 h1];change (xs.map V.int)[i.toNat]?=_;rw[iB,OA,WA (show i.toNat < xs.length by omega)]
 rfl
theorem RH.box {A:rD} {B H:Hp} {r:Ro} {D:Hz} {l f g:Int} {U:!Tk} {bk:Kvs} {made:Int} {S:!Sh} {es:!Ho} {s:Sh} {xs:!Int} (h:RH A B H r D l f g U bk made S es) (L:s∈S) (a0:xs.length=(pw g).toNat):RH A B (FC H s.a (.lst (xs.map V.int))) r D l f g U bk made (fF s.n xs S) es:=by
 let O:=h.s.x s L;let k:Kd s.a H (FC H s.a (.lst (xs.map V.int))):=XE;let kd:∀{c:Addr} {kvs:Kvs},H c>(.dK kvs)->FC H s.a (.lst (xs.map V.int)) c>(.dK kvs):=λh=>k _ _ h (cD h O nofun);let(W,h1):=h.s.me;show(h.h.lo λc o N=>?_,h.gd,h.ho,h.sh,(⟨W,k _ _ h1 (cD h1 O nofun)⟩,by rw[j7.1];show kd h.s.s,by rw[j7.2];show kd h.s.h,λu F=>?_,by rw[PM];show h.s.nd,by rw[i7];show h.s.nn,λu F=>?_,h.s.ne),kd h.pd,kd h.bd,λY Z=>kd (h.pe Y Z),h.nm,h.bm,h.bn,h.nd,λc J=>?_,λc J=>h.dm c (OI k jD c J),λu F=>?_,h.ux)
 .by_cases n:c=s.a
  .subst n;show .inr (.inr (.inl (h.loS L N)))
  .show .inl (k _ _ N n)
 .let(v,q,rfl):=cA.mp F;by_cases c:v.n=s.n
  .obtain rfl:=tH h.s.nn q L c;rw[jA rfl];show jD
  .rw[fA c];show k _ _ (h.s.x v q) (λD=>c (by rw[tH h.s.nd q L D]))
 .let(v,q,rfl):=cA.mp F;have:=h.s.b v q
  split<;>show this
 .let rfl||J||(u,F,rfl):=J
  .show h.ob _ (.inl rfl)
  .show h.ob _ (.inr (.inl J))
  .let(v,q,rfl):=cA.mp F;have:=h.sb v q
   split<;>show this
 .let(v,q,rfl):=cA.mp F;have:=h.sz v q
  split
  .show a0
  .show this
theorem PC.box {S:!Sh} {es:!Ho} {k:Int} {xs:!Int} (h:PC S es):PC (fF k xs S) es:=by
 show(λe F N L=>?_,λs q=>?_,λs q=>?_)
 .let(s,q,J):=h.liv e F N L;show(_,cA.mpr (s,q,rfl),?_)
  split<;>show J
 .let(u,D,rfl):=cA.mp q;have:=h.cnt u D
  split<;>show this
 .let(u,D,rfl):=cA.mp q;have:=h.pos u D
  split<;>show this
def uH (A:rD) (w:Int) (B H:Hp) (r:Ro) (z:Hz) (l f g:Int) (tks:!Tk) (bk:Kvs) (made:Int) (S:!Sh) (es:!Ho) (t:Tk) (n a:Int) (e:Ho):Prop:=
 RH A B H r z l f g tks bk made S es/\PC S es/\t∈tks/\t.n=n/\(∃rt ty,pm t.rs (a / pw g)>(rt,ty)/\Builtin.bitAnd rt w=w)/\(0<=a/\a < pw (l * f) * pw g)/\S.length < 9000/\e∈es/\e.k=(WC t (a / pw g)).1/\e.n=(WC t (a / pw g)).2.1/\e.m.length < 9000
def xg (A : rD) : Sp := λvs H Q E => ∃ (B : Hp) (r : Ro) (z : Hz) (l f g : Int) (tks : !Tk) (bk : Kvs) (made : Int) (S : !Sh) (es : !Ho) (t : Tk) (n a : Int) (e : Ho), vs = [.ref r.p, .int n, .int a] /\ uH A 1 B H r z l f g tks bk made S es t n a e /\
  ((∃ s ∈ S, vD e (WC t (a / pw g)).2.2 = some s.n /\ ∀ H', JC H H' -> Q (.int (s.xs.getD (a % pw g).toNat 0)) H') \/ (vD e (WC t (a / pw g)).2.2 = none /\ (S.length : Int) >= r.most /\ ∀ H', JC H H' -> E (.ref A.At) none H') \/
   (vD e (WC t (a / pw g)).2.2 = none /\ (S.length : Int) < r.most /\ ∀ a' H', RH A B H' r z l f g tks bk (made + 1) (S ++ [(made, a', List.replicate (pw g).toNat 0, 1)]) (RD e.k e.n (e.m ++ [((WC t (a / pw g)).2.2, made)]) es) -> Fb S r es H H' -> Q (.int 0) H'))
theorem yg (T:CD K mg A):QC P w K mg base A.Ab "read" 9 ["self","task","address"] [] (xg A):=by
 let ax:=@P6 P w K mg base A T;show T.Ic.have R4 (λvs H Q E D=>?_) ?_
 .let(B,r,D,l,f,g,a0,bk,made,S,es,t,n,a,e,rfl,_):=D;rfl
 .intro f bn bl bz s H vs Q E a5 D;let(B,r,D,l,a1,g,a0,bk,made,S,es,t,n,a,e,rfl,(J,bo,ao,ah,(bi,ty,b2,b3),ad,br,a2,b0,b1,bw),q):=D;let(a8,h1):=J.s.me;let(ay,h2):=J.h.me;show(_,(aD (SD (i:=3) R4.nd rfl (Or.inl rfl) (GD (FD (BC 0) rfl) T.Af ax (-a5) ZC (EC (BC 1) (EC (BC 2) (EC (AO rfl T.Mq) IC)))))
   (bD (PD (WD lI (FF (bE a5) (FD (BC 0) rfl) (GD (BC 0) T.Ac (LK T) (-a5) ZC (EC (BC 1) (EC (WD vE (BC 3) NC (λο ο=>rfl)) IC))) (λο ο=>rfl)) (WD vE (BC 3) NC (λο ο=>rfl)) (λο ο=>rfl))))),?_)
  unfold tV eE;rfl';simp only[h1];rfl';show(T.Ac,T.Ak,_,MI,r.ho,rfl,ay,_,by rw[J.ho];show h2,KF ∅,D,by rw[J.ho],l,a1,g,a0,bk,J.h,J.gd,.inr (t,ao,ah,.inr (ad.1,ad.2,.inr (bi,ty,b2,.inr ⟨b3,λp bm U L=>?_⟩))));let W:=J.same U;let bt:=II J.gd;let az:0<=a % pw g:=Int.emod_nonneg _ ⋯;let bp:a % pw g < pw g:=oC _ ⋯;let ap:∀{aq:Int} {Z:!Sh} {a9:!Ho} {F:Hp} {s:Sh},RH A B F r D l a1 g a0 bk aq Z a9->s∈Z->F p>(.tup [.int (a / pw g),.int (a % pw g)])->Q (.int (s.xs.getD (a % pw g).toNat 0)) F->∃a7,V.ref r.sd=V.ref a7/\∃x,UE F a7 (V.int s.n) (some x)/\∃ar,uD K F p ar/\∃au,SG ar 1>au/\∃a,x=V.ref a/\∃x i,au=V.int i/\pD K F a x/\∃av,SG x i>av/\Q av F:=λ{aq Z a9 F s} N O a4 q=>by
   let hsz:=N.sz s O;show(r.sd,rfl,_,.inl (sF Z,inl s.n,.inl N.s.s,rfl,(tP N.s.nn O).symm),_,uD.of a4,.int (a % pw g),rfl,s.a,rfl,_,_,rfl,pD.of (N.s.x s O),_,QM az (by rw[hsz];omega),q)
  show(_,a8,_,U _ _ h1,T.Ac,T.Ao,_,HK,a8,_,U _ _ h1,FE ∅,_,uD.of L,.int (a / pw g),rfl,B,r,D,l,a1,g,a0,bk,made,S,es,n,a / pw g,t,e,rfl,W,ao,ah,a2,b0,b1,⋯,⋯,?_);let(s,O,hk,q)||(hk,a3,q)||(hk,a3,q):=q
  .show .inl (s.n,hk,λF Y=>ap (W.same Y) O (Y _ _ L) (q _ (U.trans Y)))
  .show .inr (.inl (hk,a3,λF Y=>q _ (U.trans Y)))
  .show .inr (.inr (hk,a3,λa6 F ο N ab=>?_));let a4:F p>(.tup [.int (a / pw g),.int (a % pw g)]):=ab _ _ L (cD L (U _ _ h1) nofun) (cD L W.s.s nofun) (cD L W.s.h nofun) (λD=>by
    let(e,a2,h):=cA.mp D;let ac:=W.pe e a2;rw[h,L] at ac;cases ac) (λs O=>cD L (W.s.x s O) nofun)
   let z0:(List.replicate (pw g).toNat (0:Int)).getD (a % pw g).toNat 0=0:=by
    rw[OA,bC]
    split<;>rfl
   show ap (s:=(made,a6,List.replicate (pw g).toNat 0,1)) N (vA _ (aA ..)) a4 (by rw[z0];show q a6 _ N λc o h b4 b5 bb be bh=>ab c o (U _ _ h) b4 b5 bb be bh)
def CJ (S:!Sh) (s:Sh) (i:Nat) (v:Int):!Sh:=fF s.n (s.xs.set i v) S
def zg (A : rD) : Sp := λvs H Q E => ∃ (B : Hp) (r : Ro) (z : Hz) (l f g : Int) (tks : !Tk) (bk : Kvs) (made : Int) (S : !Sh) (es : !Ho) (t : Tk) (n a v : Int) (e p : Ho), vs = [.ref r.p, .int n, .int a, .int v] /\ uH A 2 B H r z l f g tks bk made S es t n a e /\ p ∈ es /\ p.k = false /\ p.n = n /\ p.m.length < 9000 /\ (p = e \/ vD p (a / pw g) = none) /\
  ((∃ s ∈ S, vD e (WC t (a / pw g)).2.2 = some s.n /\ (s.h <= 1 \/ e.k = true) /\ ∀ H', RH A B H' r z l f g tks bk made (CJ S s (a % pw g).toNat v) es -> Fb S r es H H' -> Q .non H') \/
   (∃ s ∈ S, vD e (WC t (a / pw g)).2.2 = some s.n /\ 1 < s.h /\ e.k = false /\ (S.length : Int) >= r.most /\ ∀ H', JC H H' -> E (.ref A.At) none H') \/
   (∃ s ∈ S, vD e (WC t (a / pw g)).2.2 = some s.n /\ 1 < s.h /\ e.k = false /\ (S.length : Int) < r.most /\ ∀ a' H', RH A B H' r z l f g tks bk (made + 1) (fF made (s.xs.set (a % pw g).toNat v) (ID s.n (S ++ [(made, a', s.xs, 1)]))) (RD false n ((e.m.filter λy => decide (y.1 ≠ a / pw g)) ++ [(a / pw g, made)]) es) -> Fb S r es H H' -> Q .non H') \/
   (vD e (WC t (a / pw g)).2.2 = none /\ (S.length : Int) >= r.most /\ ∀ H', JC H H' -> E (.ref A.At) none H') \/
   (vD e (WC t (a / pw g)).2.2 = none /\ (S.length : Int) < r.most /\ ∀ a' H', RH A B H' r z l f g tks bk (made + 1) (fF made ((List.replicate (pw g).toNat (0 : Int)).set (a % pw g).toNat v) (S ++ [(made, a', List.replicate (pw g).toNat 0, 1)])) (RD e.k e.n (e.m ++ [((WC t (a / pw g)).2.2, made)]) es) -> Fb S r es H H' -> Q .non H'))
theorem Og {t:Tk} {x:Int} (h:(WC t x).1=false):WC t x=(false,(t.n,x))/\(pm t.rs x).bind (·.2)=none:=by
 unfold WC at h ⊢;cases e:(pm t.rs x).bind (·.2) with
 |none=>show⟨rfl,rfl⟩
 |some y=>rw[e] at h;cases h
theorem l7 (T:CD K mg A):QC P w K mg base A.Ab "write" 10 ["self","task","address","value"] [] (zg A):=by
 let bw:=@P6 P w K mg base A T;show T.He.have S4 (λvs H Q E D=>?_) ?_
 .let(B,r,D,l,f,g,a8,bk,made,S,es,t,n,a,v,e,p,rfl,_):=D;rfl
 .intro f cn cl cw s H vs Q E ay D;let(B,r,D,l,a9,g,a8,bk,made,S,es,t,n,a,v,e,p,rfl,(N,co,bl,ax,(ck,ty,c9,cd),b4,cq,a2,ac,ad,cs),bb,ah,bh,cu,be,q):=D;let(b2,h1):=N.s.me;let(c1,h2):=N.h.me;show(_,(aD (SD (i:=4) S4.nd rfl (Or.inl rfl) (GD (FD (BC 0) rfl) T.Af bw (-ay) ZC (EC (BC 1) (EC (BC 2) (EC (AO rfl T.L8) IC)))))
   (bD (kL (BC 3) (jL (FF (bE ay) (FD (BC 0) rfl) (GD (BC 0) T.Ac (BP T) (-ay) ZC (EC (BC 1) (EC (WD vE (BC 4) NC (λο ο=>rfl)) IC))) (λο ο=>rfl)) (WD vE (BC 4) NC (λο ο=>rfl)) ua)))),?_)
  unfold tV eE;rfl';simp only[h1];rfl';show(T.Ac,T.Ak,_,MI,r.ho,rfl,c1,_,by rw[N.ho];show h2,KF ∅,D,by rw[N.ho],l,a9,g,a8,bk,N.h,N.gd,.inr (t,bl,ax,.inr (b4.1,b4.2,.inr (ck,ty,c9,.inr ⟨cd,λb1 c0 L W=>?_⟩))));let a1:=N.same L;let cr:=II N.gd;let c3:0<=a % pw g:=Int.emod_nonneg _ ⋯;let cp:a % pw g < pw g:=oC _ ⋯;show(_,b2,_,L _ _ h1,T.Ac,T.Ao,_,HK,b2,_,L _ _ h1,FE ∅,_,uD.of W,.int (a / pw g),rfl,B,r,D,l,a9,g,a8,bk,made,S,es,n,a / pw g,t,p,rfl,a1,bl,ax,bb,ah,bh,⋯,?_);let bi:∀{F:Hp},Fb S r es c0 F->F b1>(.tup [.int (a / pw g),.int (a % pw g)]):=λY=>Y _ _ W (cD W (L _ _ h1) nofun) (cD W a1.s.s nofun) (cD W a1.s.h nofun) (λD=>by
   let(e,a2,h):=cA.mp D;let b3:=a1.pe e a2;rw[h,W] at b3;cases b3) (λs J=>cD W (a1.s.x s J) nofun)
  let az:∀{b0:Int} {a3:!Sh} {au:!Ho} {F:Hp} {s:Sh},RH A B F r D l a9 g a8 bk b0 a3 au->s∈a3->F b1>(.tup [.int (a / pw g),.int (a % pw g)])->(RH A B (FC F s.a (.lst ((s.xs.set (a % pw g).toNat v).map V.int))) r D l a9 g a8 bk b0 (fF s.n (s.xs.set (a % pw g).toNat v) a3) au->Q .non (FC F s.a (.lst ((s.xs.set (a % pw g).toNat v).map V.int))))->
    ∃a,V.ref r.sd=V.ref a/\∃x,UE F a (V.int s.n) (some x)/\∃bo,uD K F b1 bo/\∃bp,SG bo 1>bp/\∃p,x=V.ref p/\∃x br,bp=V.int br/\F p>(HO.lst x)/\∃bt,jI x.length br>bt/\Q V.non (FC F p (HO.lst (x.set bt (V.int v)))):=λ{b0 a3 au F s} O J c4 q=>by
   let hsz:=O.sz s J;show(r.sd,rfl,_,.inl (sF a3,inl s.n,.inl O.s.s,rfl,(tP O.s.nn J).symm),_,uD.of c4,.int (a % pw g),rfl,s.a,rfl,_,_,rfl,O.s.x s J,_,by rw[iA];show k7 c3 (by rw[hsz];omega),?_);rw[<-List.map_set];show q (O.box J (by rw[List.length_set];show hsz))
  let ab:e.k=false->e=p/\(WC t (a / pw g)).2.2=a / pw g/\(pm t.rs (a / pw g)).bind (·.2)=none:=λhk=>by
   let(bm,ch):=Og (by rw[<-ac];show hk);show(N.one a2 bb (by rw[hk,ah]) (by rw[ad,bm,bh];show ax),by rw[bm],ch)
  let bn:e.k=true->p≠e:=λhk D=>by rw[D,hk] at ah;cases ah
  let b5:vD e (WC t (a / pw g)).2.2=none->∀k,vD p (a / pw g)>k->∃s∈S,s.n=k/\s.h<=1:=λhk k h=>by
   cases c:e.k with
   |true=>rw[be.resolve_left (bn c)] at h;cases h
   |false=>let(rfl,Z,_):=ab c;rw[Z] at hk;rw[hk] at h;cases h
  let(s,J,hk,a5,q)||(s,J,hk,a5,aw,a0,q)||(s,J,hk,a5,aw,a0,q)||(hk,a0,q)||(hk,a0,q):=q
  .show .inl (λk h=>?_,e,a2,ac,ad,⋯,⋯,.inl (s.n,hk,λF a7=>az (a1.same a7) J (a7 _ _ W) λa4=>q _ a4 λc o h ao ap aq ar a6=>by rw[VC (a6 s J)];show a7 _ _ (L _ _ h)));cases c:e.k with
   |true=>rw[be.resolve_left (bn c)] at h;cases h
   |false=>
    let(rfl,Z,_):=ab c;rw[Z] at hk;rw[hk] at h;cases h;show(s,J,rfl,a5.resolve_right (by rw[c];show AA))
  .let(rfl,Z,_):=ab aw;rw[Z] at hk;show .inr (s,J,hk,a5,⋯,.inl ⟨a0,q _ L⟩)
  .let(rfl,Z,c2):=ab aw;rw[Z] at hk;show .inr (s,J,hk,a5,⋯,.inr (a0,c2,λU F av O Y=>?_));let cv:=N.s.b s J;show az (s:=(made,U,s.xs,1)) O (cA.mpr ((made,U,s.xs,1),vA _ (aA ..),fA (show ¬made=s.n by omega))) (bi Y) λa4=>q U _ a4 λc o h ao ap aq ar a6=>by
    rw[VC (λD=>by rw[show c=U from D,FG L av] at h;cases h)];show Y c o (L _ _ h) ao ap aq ar a6
  .show .inl (b5 hk,e,a2,ac,ad,⋯,⋯,.inr (.inl (hk,a0,λF a7=>q _ (L.trans a7))))
  .show .inl (b5 hk,e,a2,ac,ad,⋯,⋯,.inr (.inr (hk,a0,λU F av O Y=>?_)));show az (s:=(made,U,List.replicate (pw g).toNat 0,1)) O (vA _ (aA ..)) (bi Y) λa4=>q U _ a4 λc o h ao ap aq ar a6=>by
    rw[VC (λD=>by rw[show c=U from D,FG L av] at h;cases h)];show Y c o (L _ _ h) ao ap aq ar a6
theorem Qg {CX:CXT} {P:Program} {w:World} {K:W.Frag} {mg:Str->Option Value} {base:Heap} {N:!Str} {F:Str} {scope:Scope} {f:Addr} {q:Value} {A:Around} {D:!Env} {s:Shared} {H:Hp} {E:XK}:(tE CX P w K mg base N F scope f q A D s H E).H₀=H:=rfl
def dE (m:!(Int×Int)) (S:!Sh):!Sh:=S.map λs=>{s with h:=s.h+((m.map (·.2)).count s.n:Int)}
theorem m7 {S:!Sh}:dE [] S=S:=by
 unfold dE;show (IA λs ο=>?_).trans (List.map_id S);change ({s with h:=s.h+0}:Sh)=s;rw[Int.add_zero]
theorem o7 {m:!(Int×Int)} {S:!Sh}:(dE m S).map Sh.n=S.map Sh.n:=by
 unfold dE;rw[CA];rfl
theorem RM {m:!(Int×Int)} {S:!Sh}:(dE m S).map Sh.a=S.map Sh.a:=by
 unfold dE;rw[CA];rfl
theorem SM {m:!(Int×Int)} {S:!Sh}:sF (dE m S)=sF S:=by
 unfold sF dE;rw[CA];rfl
theorem Rg {S:!Sh} {s:Sh} (D:(S.map Sh.n).Nodup) (q:s∈S):zD (EE S) (inl s.n) (.int (s.h+1))=EE (S.map λu=>if u.n=s.n then {u with h:=u.h+1} else u):=by
 unfold zD;rw[qJ,EM D q,jA (show (some (V.int s.h)).isSome=true from rfl)];unfold EE;rw[CA,CA];show IA λu F=>?_;change (if (inl u.n:Key)=inl s.n then ((inl u.n:Key),V.int (s.h+1)) else (inl u.n,V.int u.h))=(inl (if u.n=s.n then {u with h:=u.h+1} else u).n,V.int (if u.n=s.n then {u with h:=u.h+1} else u).h);by_cases c:u.n=s.n
 .let e:u=s:=tH D F q c;rw[jA (by rw[c]),jA c,e]
 .rw[fA (λJ=>c (kB J)),fA c]
theorem PC.fork {S:!Sh} {es:!Ho} {e:Ho} {k:Bool} {n:Int} {L:Addr} (h:PC S es) (U:e∈es):PC (dE e.m S) (es++[(k,n,L,e.m)]):=by
 let W:LD (es++[((k,n,L,e.m):Ho)])=LD es++e.m.map (·.2):=by
  unfold LD;rw[nA,List.flatten_append];simp
 show(λN V J F=>?_,λs q=>?_,λs q=>?_)
 .let Y:∃s∈S,s.n=J.2:=by
   let h1||h1:=kA.mp V
   .show h.liv N h1 J F
   .rw[bA.mp h1] at F;show h.liv e U J F
  let(s,q,O):=Y;show(_,cA.mpr (s,q,rfl),O)
 .let(u,D,rfl):=cA.mp q;change u.h+_=((LD _).count u.n:Int);rw[W,fB,h.cnt u D];omega
 .let(u,D,rfl):=cA.mp q;have:=h.pos u D;change 1<=u.h+_;omega
def Sg (A:rD):Sp:=λvs H Q ο=>∃(B:Hp) (r:Ro) (z:Hz) (l f g:Int) (tks:!Tk) (bk:Kvs) (made:Int) (S:!Sh) (es:!Ho) (n:Int) (t:Tk) (e:Ho),vs=[.ref r.p,.int n]/\RH A B H r z l f g tks bk made S es/\PC S es/\tks.length < 1000/\t∈tks/\t.n=n/\e∈es/\e.k=false/\e.n=n/\e.m.length<=9000/\S.length<=9000/\
 ∀(k:Nat) (p d:Addr) (H':Hp),SH (JD (HD tks)) k->H d=none->RH A B H' r z l f g (tks++[(k,p,t.rs)]) bk made (dE e.m S) (es++[(false,k,d,e.m)])->(∀c o,H c>o->c≠z.td->c≠r.pd->c≠r.hd->H' c>o)->Q (.int k) H'
theorem Tg (T:CD K mg A):QC P w K mg base A.Ab "fork" 6 ["self","task"] [] (Sg A):=by
 let c4:=@BM P w K mg base A T;show T.Id.have tU (λvs H Q E D=>?_) ?_
 .let(B,r,D,l,f,g,ao,bk,made,S,es,n,t,e,rfl,_):=D;rfl
 .intro f dk dd dr s H vs Q E a8 D;let(B,r,D,l,ck,g,ao,bk,made,S,es,n,t,e,rfl,J,cn,d0,c0,bb,ad,cu,cv,dm,dl,q):=D;let(a2,h1):=J.s.me;let(cd,h2):=J.h.me;let U:=AJ J.nd;let hz:=PySem.sizeLine_eq;show(_,(aD (SD (i:=2) tU.nd rfl (Or.inl rfl) (GD (FD (BC 0) rfl) T.Af c4 (-a8) ZC (EC (BC 1) IC)))
   (aD (gH (bE a8) (FD (BC 0) rfl) (BC 2) (xN Rc rfl T.Mp PyProof.Rows.boot_dict (EC (FF (bE a8) (FD (BC 0) rfl) (BC 1) (λο ο=>rfl)) IC)) rfl)
   (aD (gc (dJ nB rfl (y3 (j3 (FF (bE a8) (FD (BC 0) rfl) (BC 2) (λο ο=>rfl)))) (XF (i:=3) tU.nd rfl (Or.inl rfl)) (bD (gH (bE a8) (FD (BC 0) rfl) (BC 3) (KD LF (FF (bE a8) (FD (BC 0) rfl) (BC 3) (λο ο=>rfl)) NC) rfl))))
   (bD (PD (BC 2)))))),?_)
  unfold R6 eE kE kK;rfl';let(L,cs,k1,k2,bw):=J.pv c0;obtain rfl:L=e:=J.one cs ad (by rw[k1,cu]) (by rw[k2,bb,cv]);show(_,a2,_,h1,T.Ac,T.Ak,_,MI,r.ho,rfl,cd,_,by rw[J.ho];show h2,KF ∅,D,by rw[J.ho],l,ck,g,ao,bk,J.h,d0,.inr (t,c0,bb,λk p az hk b4 dn kd=>?_));let c3:=U.e L ad;let ar:=kd _ _ h1 (cD h1 J.h.t nofun);let ah:=kd _ _ J.pd U.pt;let cy:=kd _ _ (J.pe L ad) c3.2.2.2.2.1;rw[bb] at bw;show(_,a2,_,ar,T.Ac,T.Al,_,zJ,r.pd,rfl,_,.inl (_,inl n,.inl ah,rfl,bw.symm),L.d,rfl,mD L.m,.inl cy,λN hd=>?_);let a9:=nE (o:=.dK (mD L.m)) (iE (H:=az)) hd;let cq:FC az N (.dK (mD L.m)) N>(.dK (mD L.m)):=jD;generalize FC az N (.dK (mD L.m))=H2 at *;let cw:JD (QE (RE es))=JD (HD ao):=by
   unfold JD QE HD;rw[CA,CA];let b1:(RE es).map ((λx:Key×V=>x.1) ∘ λe:Ho=>((inl e.n:Key),V.ref e.d))=((RE es).map Ho.n).map inl:=by rw[CA];rfl
   let ch:ao.map ((λx:Key×V=>x.1) ∘ λe:Tk=>((inl e.n:Key),V.ref e.p))=(ao.map Tk.n).map inl:=by rw[CA];rfl
   show b1.trans ((congrArg _ J.nm).trans ch.symm)
  let br:SC (QE (RE es)) (inl (k:Int))=none:=t6 (by rw[cw];show hk.1);let a7:H N=none:=by
   cases b0:H N with
   |none=>rfl
   |some o=>
    exfalso;by_cases Y:N=D.td
    .rw[Y,b4.t] at hd;cases hd
    .rw[kd _ _ b0 Y] at hd;cases hd
  let dp:(QE (RE es)).length<=1000:=by
   have:=congrArg List.length J.nm;rw[iA,iA] at this;unfold QE;rw[iA];omega
  show(_,a2,_,a9 _ _ ar,T.Ac,T.Al,_,zJ,r.pd,rfl,_,.inl (_,inl (k:Int),a9 _ _ ah,rfl,⋯,rfl),?_);rw[CQ _ br];let d3:N≠r.pd:=λD=>by rw[D,ah] at hd;cases hd
  let ac:FC H2 r.pd (.dK (QE (RE es)++[(inl (k:Int),V.ref N)])) N>(.dK (mD L.m)):=by rw[VC d3];show cq
  let be:FC H2 r.pd (.dK (QE (RE es)++[(inl (k:Int),V.ref N)])) r.pd>(.dK (QE (RE es)++[(inl (k:Int),V.ref N)])):=jD;let k2:Kd r.pd H2 (FC H2 r.pd (.dK (QE (RE es)++[(inl (k:Int),V.ref N)]))):=XE;generalize FC H2 r.pd (.dK (QE (RE es)++[(inl (k:Int),V.ref N)]))=H3 at *;let a6:=k2 _ _ (a9 _ _ ar) (cD ar ah nofun);show(N,(λo u=>by rw[Qg,a7];show λD=>nomatch D),?_);show(_,a2,_,a6,T.Ac,T.Al,_,zJ,r.pd,rfl,_,.inl (_,inl (k:Int),.inl be,rfl,by rw[BQ _ _ _ _ br,jA rfl]),N,rfl,_,ac,λdt bi=>(N,rfl,mD L.m,by rw[VC (OD ac bi)];show ac,λo=>?_));let bo:∀c u,H c>u->c≠D.td->c≠r.pd->H3 c>u:=λc u h Y a0=>k2 _ _ (a9 _ _ (kd _ _ h Y)) a0;let av:=bo _ _ J.s.h U.ht U.hp;let bl:N≠r.hd:=λD=>by rw[D,J.s.h] at a7;cases a7
  let d9:dE (L.m.take 0) S=S:=m7;show Tc (kvs:=mD L.m) (λi ax Z=>∃bm,ax=[↑r.p,some (.int n),some (.int k),bm]/\Z N>(.frz o (.dK (mD L.m)))/\Z r.hd>(.dK (EE (dE (L.m.take i) S)))/\∀c u,H3 c>u->c≠N->c≠r.hd->Z c>u) (_,rfl,jD,by rw[d9,VC bl.symm,VC (OD av bi)];show av,λc u h Y ο=>by rw[VC Y,VC (OD h bi)];show h) (λi ax Z _ bn=>by let(_,bn):=bn;show bn.2.1) (λi dq v ax Z hi=>?_) (λax Z=>?_)
  .rintro⟨bm,rfl,b3,ab,au⟩;unfold mD at hi;rw[iB] at hi;let(ap,c1,b1):=cB.mp hi;let(rfl,rfl):=Prod.mk.inj b1;let(s,a1,bh):=cn.liv L ad ap (VA c1);let W:({s with h:=s.h+(((L.m.take i).map (·.2)).count s.n:Int)}:Sh)∈dE (L.m.take i) S:=cA.mpr (s,a1,rfl);let c2:((dE (L.m.take i) S).map Sh.n).Nodup:=by rw[o7];show J.s.nn
   let d1:=EM c2 W;let bt:=au _ _ a6 (cD a6 ac nofun) (cD a6 av nofun);let cx:=Rg c2 W;let cz:(dE (L.m.take i) S).map (λu=>if u.n=s.n then {u with h:=u.h+1} else u)=dE (L.m.take (i+1)) S:=by
    unfold dE;rw[CA];show IA λu ο=>?_;change (if u.n=s.n then ({u with h:=u.h+_+1}:Sh) else {u with h:=u.h+_})={u with h:=u.h+_};rw[mB,c1,nA,fB];let c9:(((some ap).toList.map (·.2):!Int)).count u.n=if s.n=u.n then 1 else 0:=by
     change ([ap.2]:!Int).count u.n=_;rw[bh,XB];simp
    rw[c9];by_cases c:u.n=s.n
    .rw[jA c,jA c.symm];congr 1;omega
    .rw[fA c,fA (λD=>c D.symm)]
     rfl
   rfl';show(_,a2,_,bt,T.Ac,T.An,_,yJ,r.hd,rfl,_,.inl (_,inl ap.2,.inl ab,rfl,by rw[<-bh];show d1.symm),_,rfl,_,a2,_,bt,T.Ac,T.An,_,yJ,r.hd,rfl,_,.inl (_,inl ap.2,ab,rfl,by unfold EE dE;rw[iA,iA];omega,rfl),by rw[VC bl];show b3,?_,λc u h Y a0=>by rw[VC a0];show au c u h Y a0);rw[jD,<-bh];show congrArg (λD=>some (HO.dK D)) (cx.trans (congrArg EE cz))
  .rintro⟨bm,rfl,b3,ab,au⟩;rw[show (mD L.m).length=L.m.length from iA .., wB] at ab;unfold zI;dsimp only;rw[i3 b3];rfl';let a5:∀c u,H3 c>u->c≠r.hd->FC Z N (.dK (mD L.m)) c>u:=λc u h Y=>by
    by_cases aq:c=N
    .rw[aq,jD,<-ac,<-aq];show h
    .rw[VC aq];show au c u h aq Y
   let bp:FC Z N (.dK (mD L.m)) r.hd>(.dK (EE (dE L.m S))):=by rw[VC bl.symm];show ab
   let cl:FC Z N (.dK (mD L.m)) N>(.dK (mD L.m)):=jD;let a4:∀c u,H c>u->c≠D.td->c≠r.pd->c≠r.hd->FC Z N (.dK (mD L.m)) c>u:=λc u h Y a0 a3=>a5 c u (bo c u h Y a0) a3;let d2:∀c,FC Z N (.dK (mD L.m)) c=none->H c=none:=λc O=>by
    cases b0:H c with
    |none=>rfl
    |some u=>
     exfalso;by_cases a3:c=r.hd
     .rw[a3,bp] at O;cases O
     .by_cases a0:c=r.pd
      .rw[a0,a5 _ _ be U.hp.symm] at O;cases O
      .by_cases Y:c=D.td
       .rw[Y,a5 _ _ (k2 _ _ (a9 _ _ b4.t) U.pt.symm) U.ht.symm] at O;cases O
       .rw[a4 c u b0 Y a0 a3] at O;cases O
   generalize FC Z N (.dK (mD L.m))=F at *;let cr:∀c∈qF r D es,H c≠none:=λc O=>by
    unfold qF at O;simp only[uA] at O;let rfl||rfl||rfl||rfl||rfl||rfl||O:=O
    .rw[J.s.s];show λD=>nomatch D
    .rw[J.s.h];show λD=>nomatch D
    .rw[J.pd];show λD=>nomatch D
    .rw[J.bd];show λD=>nomatch D
    .rw[J.h.t];show λD=>nomatch D
    .rw[J.h.b];show λD=>nomatch D
    .let(u,W,rfl):=cA.mp O;rw[J.pe u W];show λD=>nomatch D
   let bz:RE (es++[(false,k,N,L.m)])=RE es++[(false,k,N,L.m)]:=by unfold RE;rw[JB];rfl
   let b5:tF (es++[(false,k,N,L.m)])=tF es:=by unfold tF;rw[JB];show uB _
   show q k p N F hk a7 (?_,J.gd,J.ho,J.sh,(⟨a2,a5 _ _ a6 (cD a6 av nofun)⟩,by rw[SM];show a4 _ _ J.s.s U.st U.sp J.s.ne,bp,λs a1=>?_,by rw[RM];show J.s.nd,by rw[o7];show J.s.nn,λs a1=>?_,J.s.ne),?_,?_,λu W=>?_,?_,?_,?_,?_,λc O=>?_,λc O=>J.dm c (d2 c O),λs a1=>?_,λu W=>?_) a4
   .show b4.lo λc u h=>?_;by_cases a3:c=r.hd
    .subst a3;rw[kd _ _ J.s.h U.ht] at h;show .inr (.inl (.inl (_,(rA h).symm,U.ht,U.hb)))
    .by_cases a0:c=r.pd
     .subst a0;rw[ah] at h;show .inr (.inl (.inl (_,(rA h).symm,U.pt,U.pb)))
     .show .inl (a5 c u (k2 _ _ (a9 _ _ h) a0) a3)
   .let(u,W,rfl):=cA.mp a1;let aw:=J.s.x u W;show a4 _ _ aw (cD aw J.h.t nofun) (cD aw J.pd nofun) (cD aw J.s.h nofun)
   .let(u,W,rfl):=cA.mp a1;show J.s.b u W
   .rw[bz];unfold QE;rw[nA];show a5 _ _ be U.hp.symm
   .rw[b5];show a4 _ _ J.bd U.bt U.px.symm U.hx.symm
   .let h||h:=kA.mp W
    .let ay:=U.e u h;show a4 _ _ (J.pe u h) ay.2.2.2.2.1 ay.2.2.1 ay.2.1
    .rw[bA.mp h];show cl
   .rw[bz,nA,nA,J.nm];rfl
   .rw[b5];show J.bm
   .rw[b5];show J.bn
   .let b2:qF r D (es++[(false,k,N,L.m)])=qF r D es++[N]:=by unfold qF;rw[nA];rfl
    rw[b2];show LA.mpr (J.nd,by simp,λa co b cp D=>cr a co (by rw[D,bA.mp cp];show a7))
   .let rfl||O||(s,a1,rfl):=O
    .show J.ob _ (.inl rfl)
    .let b2:qF r D (es++[(false,k,N,L.m)])=qF r D es++[N]:=by unfold qF;rw[nA];rfl
     rw[b2] at O;let h||h:=kA.mp O
     .show J.ob _ (.inr (.inl h))
     .rw[bA.mp h];show J.dm N a7
    .let(u,W,rfl):=cA.mp a1;show J.sb u W
   .let(u,W,rfl):=cA.mp a1;show J.sz u W
   .let h||h:=kA.mp W
    .show J.ux u h
    .rw[bA.mp h];show J.ux L ad
open PySem.Spec PyProof.Rows in
theorem Ug {X:Cx} (a2:X.calm=true):xE X (.type "list") (λxs H Q=>∃(p:Addr) (kvs:!(Key×V)) (ns:!Int),xs=[.ref p]/\Rd H p (.dK kvs)/\kvs.map (·.1)=ns.map inl/\∀l,H l=none->Q (.ref l) (FC H l (.lst (ns.map V.int)))):=by
 intro ac s ah H xs us Q F r h;let(p,kvs,ns,rfl,a6,hk,q):=h;let(u,rfl,a9):=EF r;cases a9;let(U,hd,vs,L,dd):=mI F.hok a6;let(ep,a1):=dd.dictAt;let J:=congrArg List.length hk;rw[iA,iA] at J;let a5:vs.length=ns.length:=by rw[<-L.length,J]
 show W.kdl_call (W.kdl_dict (knd:=fD X.prog X.w) (kvs:=vs) (ep:=ep) hd) (F.ok.hd a2) a1 (by rw[<-L.length];show U) λh' ab acc c kp a4 O=>?_;let a0:IntsAre acc.toList ns:=X2 (by rw[eC,O.1,a5]) λj v e=>by
  let(k,x,a8,a3):=O.2 j v (by rw[<-Array.getElem?_toList];show e);let(ad,a7,_):=fK L j k x a8;let D:(kvs.map (·.1))[j]?>k:=by rw[iB,a7];rfl
  rw[hk,iB] at D;cases N:ns[j]? with
  |none=>rw[N] at D;cases D
  |some i=>
   rw[N] at D;cases D;let(t,Z):=Value.isInt_shape (k:=i) (v:=v) a3;show(t,i,rfl,Z)
 let Y:=F.laid (t':=ab) kp (yA _) (show wD X.prog X.w _ h' _ (.lst (ns.map V.int)) from (by rw[iA,<-J];show U,acc.toList,c,U2 a0,a4));show(.ref s.heap.objs.size,_,Y,rfl,q _ (F.hok.fresh (yA _)))
def zG (m:!(Int×Int)) (s:Sh):Option Sh:=if 0 < s.h - ((m.map (·.2)).count s.n:Int) then some {s with h:=s.h - ((m.map (·.2)).count s.n:Int)} else none
def qE (m:!(Int×Int)) (S:!Sh):!Sh:=S.filterMap (zG m)
theorem lR {α β:Type} {f g:α->Option β}:∀{l:!α},(∀x∈l,f x=g x)->l.filterMap f=l.filterMap g
 |[],_=>rfl
 |x::l,h=>by rw[fC,fC,h x (aA ..),lR λy hy=>h y (qA _ hy)]
theorem Vg {S:!Sh} (h:∀s∈S,1<=s.h):qE [] S=S:=by
 unfold qE;show (lR (g:=some) λs q=>?_).trans (List.filterMap_some ..);have:=h s q;unfold zG;change (if 0 < s.h - 0 then some ({s with h:=s.h - 0}:Sh) else none)>s;rw[Int.sub_zero,jA ⋯]
theorem LN {m:!(Int×Int)} {S:!Sh} {u:Sh} (h:u∈qE m S):∃s∈S,u={s with h:=s.h - ((m.map (·.2)).count s.n:Int)}/\0 < u.h:=by
 let(s,q,e):=UB.mp h;unfold zG at e;by_cases c:0 < s.h - ((m.map (·.2)).count s.n:Int)
 .rw[jA c] at e;cases e;show(s,q,rfl,c)
 .rw[fA c] at e;cases e
theorem p7 {m:!(Int×Int)} {S:!Sh} {s:Sh} (q:s∈S) (c:0 < s.h - ((m.map (·.2)).count s.n:Int)):({s with h:=s.h - ((m.map (·.2)).count s.n:Int)}:Sh)∈qE m S:=UB.mpr (s,q,by unfold zG;rw[jA c])
theorem Wg {S:!Sh} {m:!(Int×Int)} {i:Nat} {J:Int×Int} {s:Sh} (Y:m[i]?>J) (U:s∈S) (W:s.n=J.2) (V:(S.map Sh.n).Nodup):DM s.n (s.h - (((m.take i).map (·.2)).count s.n:Int)) (qE (m.take i) S)=qE (m.take (i+1)) S:=by
 let q:∀k,((m.take (i+1)).map (·.2)).count k=((m.take i).map (·.2)).count k+if s.n=k then 1 else 0:=λk=>by
  rw[mB,Y,nA,fB];congr 1;change ([J.2]:!Int).count k=_;rw[<-W,XB];simp
 unfold DM;by_cases N:s.h - (((m.take i).map (·.2)).count s.n:Int)=1
 .rw[jA N];unfold pF qE;rw[List.filter_filterMap];show lR λu F=>?_;by_cases c:u.n=s.n
  .obtain rfl:=tH V F U c;unfold zG;rw[jA ⋯,q,jA rfl,fA ⋯];change Option.filter _ (some _)=none;simp[Option.filter]
  .let D:((m.take (i+1)).map (·.2)).count u.n=((m.take i).map (·.2)).count u.n:=by rw[q,fA (λL:s.n=u.n=>c L.symm)];rfl
   unfold zG;rw[D]
   split
   .simp[Option.filter,c]
   .rfl
 .rw[fA N];unfold ID qE;rw[List.map_filterMap];show lR λu F=>?_;by_cases c:u.n=s.n
  .obtain rfl:=tH V F U c;unfold zG;rw[q,jA rfl];by_cases O:0 < u.h - (((m.take i).map (·.2)).count u.n:Int)
   .rw[jA O,jA ⋯,rC,jA rfl];change some ({u with h:=u.h - _ - 1}:Sh)>{u with h:=u.h - _};congr 2;omega
   .rw[fA O,fA ⋯];rfl
  .let D:((m.take (i+1)).map (·.2)).count u.n=((m.take i).map (·.2)).count u.n:=by rw[q,fA (λL:s.n=u.n=>c L.symm)];rfl
   unfold zG;rw[D]
   split
   .rw[rC,fA c]
   .rfl
def TM (A:rD):Sp:=λvs H Q ο=>∃(r:Ro) (made:Int) (S:!Sh) (d:Addr) (m:!(Int×Int)),vs=[.ref r.p,.ref d]/\aE A H r made S/\H d>(.dK (mD m))/\(m.map (·.1)).Nodup/\(∀y∈m,∃s∈S,s.n=y.2)/\(∀s∈S,((m.map (·.2)).count s.n:Int)<=s.h/\1<=s.h)/\d≠r.sd/\d≠r.hd/\S.length<=9000/\m.length<=9000/\
 ∀H',aE A H' r made (qE m S)->H' d>(.dK [])->(∀c o,H c>o->c≠d->c≠r.sd->c≠r.hd->H' c>o)->Q .non H'
theorem NK (T:CD K mg A):QC P w K mg base A.Ab "let_all_go" 2 ["self","pages"] [] (TM A):=by
 show T.Dy.have W4 (λvs H Q E F=>?_) ?_
 .let(r,made,S,L,m,rfl,_):=F;rfl
 .intro f bh bb br s H vs Q E b1 F;let(r,made,S,L,m,rfl,a1,hd,b0,ax,ab,b4,b5,bl,bp,q):=F;let(bi,h1):=a1.me;show(_,(bD (dJ nB rfl (YI (xN (Ug rfl) rfl T.Dr lC (EC (BC 1) IC))) (XF (i:=2) W4.nd rfl (Or.inl rfl)) (bD (lE (GD (BC 0) T.Ac (uV T) (-b1) ZC (EC (BC 1) (EC (BC 2) IC))))))),?_);rfl';show(mD m,.inl hd,m.map (·.1),by unfold mD;rw[CA,CA];rfl,λa5 aw=>?_);let a6:=nE (o:=.lst ((m.map (·.1)).map V.int)) (iE (H:=H)) aw;let O:FC H a5 (.lst ((m.map (·.1)).map V.int)) a5>(.lst ((m.map (·.1)).map V.int)):=jD;generalize FC H a5 (.lst ((m.map (·.1)).map V.int))=H1 at *;let a2:=a1.same a6;let ac:=a6 _ _ hd;let ay:∀i,(qE (m.take i) S).length<=S.length:=λi=>List.length_filterMap_le _ _;show⟨⟨_,pD.of O⟩,LQ (K:=K) (xs:=(m.map (·.1)).map V.int) (λi Z J=>∃a7,Z=[↑r.p,↑L,a7]/\aE A J r made (qE (m.take i) S)/\J L>(.dK (mD (m.drop i)))/\∀c o,H1 c>o->c≠L->c≠r.sd->c≠r.hd->J c>o) (_,rfl,by rw[List.take_zero,Vg λs U=>(ab s U).2];show a2,ac,λc o h ο ο ο=>h) (λi Z J _ a8=>by let(_,a8):=a8;show pD.of (a8.2.2.2 _ _ O (cD O ac nofun) (cD O a2.s nofun) (cD O a2.h nofun))) (λi x Z J ah=>?_) (λZ J=>?_)⟩
  .rintro⟨a7,rfl,N,Y,a0⟩;rw[CA,iB] at ah;let(D,W,rfl):=cB.mp ah;let ad:=(QA.mp W).1;let(s,U,a4):=ax D (VA W);let bm:((m.take (i+1)).map (·.2)).count s.n=((m.take i).map (·.2)).count s.n+1:=by
    rw[mB,W,nA,fB];congr 1;change ([D.2]:!Int).count s.n=1;rw[a4,XB];simp
   let bn:((m.take (i+1)).map (·.2)).count s.n<=(m.map (·.2)).count s.n:=((List.take_sublist _ _).map _).count_le _;let bo:=(ab s U).1;let b2:=p7 (m:=m.take i) U ⋯;let a3:m.drop i=D::m.drop (i+1):=by rw[List.drop_eq_getElem_cons ad];congr 1;show rA ((WA ad).symm.trans W)
   let(ap,aq):=N.me;rfl';show(ap,_,aq,FE ∅,r,made,qE (m.take i) S,L,mD (m.drop i),D.1,rfl,N,Y,b4,b5,by have:=ay i;omega,.inr (_,b2,?_,λbe ar au av=>(?_,?_,λc o h k1 k2 k3=>av c o (a0 c o h k1 k2 k3) k1 k2 k3)))
   .rw[a3];change SC (((inl D.1:Key),V.int D.2)::mD (m.drop (i+1))) (inl D.1)=_;rw[UG rfl];change some (V.int D.2)>(V.int s.n);rw[a4]
   .rw[<-Wg W U a4 a1.nn];show ar
   .rw[au,b7,a3,KB (by simp)];let az:D.1∉(m.drop (i+1)).map (·.1):=by
     let a9:((m.drop i).map (·.1)).Nodup:=b0.sublist ((List.drop_sublist _ _).map _);rw[a3,BA,KA] at a9;show a9.1
    rw[show ((m.drop (i+1)).filter λu=>decide (u.1≠D.1))=m.drop (i+1) from List.filter_eq_self.mpr λu b3=>pA (show u.1≠D.1 from λF=>az (by rw[<-F];show cA.mpr (u,b3,rfl)))]
  .rintro⟨a7,rfl,N,Y,a0⟩;rw[iA,iA,wB] at N;rw[iA,iA,List.drop_length] at Y;show q _ N Y λc o h k1 k2 k3=>a0 c o (a6 _ _ h) k1 k2 k3
def YE (n:Int) (es:!Ho):!Ho:=es.filter λu=>decide (¬(u.k=false/\u.n=n))
theorem zV {n:Int} {e:Ho} {k:Int}:∀{es:!Ho},(es.map Ho.d).Nodup->(∀e'∈es,e'.k=false->e'.n=n->e'=e)->e∈es->e.k=false->e.n=n->(LD es).count k=(LD (YE n es)).count k+(e.m.map (·.2)).count k
 |[],_,_,h,_,_=>by cases h
 |e0::es,nd,un,he,hk,hn=>by
  rw[BA,KA] at nd;by_cases c:e0.k=false/\e0.n=n
  .obtain rfl:=un e0 (aA ..) c.1 c.2;let hout:YE n (e0::es)=es:=by
    unfold YE;rw[KB (by simpa using c)];show List.filter_eq_self.mpr λu hu=>pA λz=>nd.1 (by rw[<-un u (qA _ hu) z.1 z.2];show cA.mpr (u,hu,rfl))
   rw[hout,OM,fB];omega
  .let he':e∈es:=(uA.mp he).elim (λz=>absurd (by rw[<-z];show⟨hk,hn⟩) c) id;let ih:=zV (k:=k) nd.2 (λe' h=>un e' (qA _ h)) he' hk hn;let hout:YE n (e0::es)=e0::YE n es:=by
    unfold YE;rw[ZB (p:=λu:Ho=>decide ¬(u.k=false/\u.n=n)) (a:=e0) (pA c)]
   rw[hout,OM,OM,fB,fB];omega
theorem PC.out {S:!Sh} {es:!Ho} {e:Ho} {n:Int} (h:PC S es) (Z:(es.map Ho.d).Nodup) (un:∀q∈es,q.k=false->q.n=n->q=e) (V:e∈es) (hk:e.k=false) (Y:e.n=n):PC (qE e.m S) (YE n es):=by
 let L:=λk=>zV (k:=k) Z un V hk Y;show(λq N U O=>?_,λu F=>?_,λu F=>?_)
 .let W:=(HA.mp N).1;let(s,D,J):=h.liv q W U O;let a0:0 < (LD (YE n es)).count s.n:=List.count_pos_iff.mpr (BJ.mpr (q,N,U,O,J.symm));let h1:=h.cnt s D;let h2:=L s.n;show(_,p7 D ⋯,J)
 .let(s,D,rfl,h0):=LN F;let h1:=h.cnt s D;let h2:=L s.n;change s.h - _=((LD (YE n es)).count s.n:Int);omega
 .let(s,D,rfl,h0):=LN F;show h0
def Xg (A:rD):Sp:=λvs H Q ο=>∃(B:Hp) (r:Ro) (z:Hz) (l f g:Int) (tks:!Tk) (bk:Kvs) (made:Int) (S:!Sh) (es:!Ho) (n:Int) (t:Tk) (e:Ho),vs=[.ref r.p,.int n]/\RH A B H r z l f g tks bk made S es/\PC S es/\t∈tks/\t.n=n/\e∈es/\e.k=false/\e.n=n/\e.m.length<=9000/\S.length<=9000/\
 ∀(H':Hp),RH A B H' r z l f g (eG n tks) bk made (qE e.m S) (YE n es)->(∀c o,H c>o->c≠z.td->c≠r.pd->c≠r.sd->c≠r.hd->c≠e.d->H' c>o)->Q .non H'
theorem UM (T:CD K mg A):QC P w K mg base A.Ab "end_task" 4 ["self","task"] [] (Xg A):=by
 let be:=@rP P w K mg base A T;show T.E6.have Xe (λvs H Q E L=>?_) ?_
 .let(B,r,L,l,f,g,ah,bk,made,S,es,n,t,e,rfl,_):=L;rfl
 .intro f cn ch co s H vs Q E b4 L;let(B,r,L,l,bl,g,ah,bk,made,S,es,n,t,e,rfl,F,aq,b5,aw,W,a9,ab,bz,br,q):=L;let(ap,h1):=F.s.me;let(bh,h2):=F.h.me;let J:=AJ F.nd;let(O,bw,k1,k2,b3):=F.pv b5;obtain rfl:O=e:=F.one bw W (by rw[k1,a9]) (by rw[k2,aw,ab]);show(_,(aD (lE (GD (FD (BC 0) rfl) T.Af be (-b4) ZC (EC (BC 1) IC)))
   (bD (lE (GD (BC 0) T.Ac (NK T) (-b4) ZC (EC (IL (FD (BC 0) rfl) (BC 1) (rfl,rfl,rfl,rfl)) IC))))),?_)
  unfold Q6 AF;rfl';show(_,ap,_,h1,T.Ac,T.Ak,_,MI,r.ho,rfl,bh,_,by rw[F.ho];show h2,KF ∅,L,by rw[F.ho],l,bl,g,ah,bk,F.h,.inl ⟨by rw[<-aw];show LI b5,λa4 az kd=>?_⟩);let U:=J.e O W;let ay:=kd _ _ h1 (cD h1 F.h.t nofun);let ac:=kd _ _ F.pd J.pt;rw[aw] at b3;show(ap,_,ay,FE ∅,?_);let b2:=kd _ _ (F.pe O W) U.2.2.2.2.1;let a5:Kd r.pd a4 (FC a4 r.pd (.dK (DD (QE (RE es)) (inl n)))):=XE;let c1:FC a4 r.pd (.dK (DD (QE (RE es)) (inl n))) r.pd>(.dK (DD (QE (RE es)) (inl n))):=jD;show(_,ap,_,ay,T.Ac,T.Al,_,zJ,r.pd,rfl,.inl ⟨_,.inl ac⟩,_,ac,inl n,rfl,_,b3,?_);generalize FC a4 r.pd (.dK (DD (QE (RE es)) (inl n)))=H2 at *;let ar:=F.s.kd F.h.t J.st.symm J.ht.symm kd;let bp:=ar.kd ac J.sp.symm J.hp.symm a5;let un:∀u∈es,u.k=false->u.n=n->u=O:=λu N a2 ax=>F.one N W (by rw[a2,a9]) (by rw[ax,ab]);let bt:=a5 _ _ b2 U.2.2.1;show(r,made,S,O.d,O.m,rfl,bp,bt,F.ux O W,λcd c3=>aq.liv O W cd c3,λs a3=>⟨?_,aq.pos s a3⟩,U.1,U.2.1,br,bz,λao au bo a8=>?_)
  .let ck:=aq.cnt s a3;let cl:=zV (k:=s.n) J.nd un W a9 ab;omega
  let a7:∀c u,H c>u->c≠L.td->c≠r.pd->c≠r.sd->c≠r.hd->c≠O.d->ao c>u:=λc u h ad Y Z a0 a1=>a8 c u (a5 _ _ (kd _ _ h ad) Y) a1 Z a0;let b1:=a8 _ _ c1 U.2.2.1.symm J.sp.symm J.hp.symm;let c2:=a8 _ _ (a5 _ _ az.t J.pt.symm) U.2.2.2.2.1.symm J.st.symm J.ht.symm;let c9:∀c,ao c=none->H c=none:=λc D=>by
   cases bi:H c with
   |none=>rfl
   |some u=>
    exfalso;by_cases ad:c=L.td
    .rw[ad,c2] at D;cases D
    .by_cases Y:c=r.pd
     .rw[Y,b1] at D;cases D
     .by_cases Z:c=r.sd
      .rw[Z,au.s] at D;cases D
      .by_cases a0:c=r.hd
       .rw[a0,au.h] at D;cases D
       .by_cases a1:c=O.d
        .rw[a1,bo] at D;cases D
        .rw[a7 c u bi ad Y Z a0 a1] at D;cases D
  let sub:∀u∈YE n es,u∈es:=λu N=>(HA.mp N).1;let b0:RE (YE n es)=(RE es).filter λu=>decide (u.n≠n):=by
   unfold RE YE;rw[List.filter_filter,List.filter_filter];show YB λu ο=>?_;cases u.k<;>simp
  let av:tF (YE n es)=tF es:=by
   unfold tF YE;rw[List.filter_filter];show YB λu ο=>?_;cases u.k<;>simp
  show q ao (?_,F.gd,F.ho,F.sh,au,?_,?_,λu N=>?_,?_,?_,?_,?_,λc D=>?_,λc D=>F.dm c (c9 c D),λs a3=>?_,λu N=>F.ux u (sub u N)) a7
  .show az.lo λc u h=>?_;let lo:∀{c4:Kvs},a4 c>(.dK c4)->c≠L.td->c≠L.bd->Lo L c u:=λh' a2 ax=>by rw[h'] at h;show .inl (.inl (_,(rA h).symm,a2,ax))
   by_cases Y:c=r.pd
   .subst Y;show .inr (lo ac J.pt J.pb)
   .by_cases Z:c=r.sd
    .subst Z;show .inr (lo ar.s J.st J.sb)
    .by_cases a0:c=r.hd
     .subst a0;show .inr (lo ar.h J.ht J.hb)
     .by_cases a1:c=O.d
      .subst a1;show .inr (lo b2 U.2.2.2.2.1 U.2.2.2.2.2)
      .show .inl (a8 c u (a5 _ _ h Y) a1 Z a0)
  .rw[b1,b0];unfold QE DD;rw[qC];show congrArg (λL=>some (HO.dK (L.map λe:Ho=>((inl e.n:Key),V.ref e.d)))) (YB λu ο=>?_);change decide ((inl u.n:Key)≠inl n)=decide (u.n≠n);rw[rB];simp only[ZA];show⟨λL e=>L (by rw[e]),λL e=>L (kB e)⟩
  .rw[av];show a7 _ _ F.bd J.bt J.px.symm J.sx.symm J.hx.symm U.2.2.2.1.symm
  .let a6:=J.e u (sub u N);let c0:u.d≠O.d:=λa2=>by
    obtain rfl:=tH J.nd (sub u N) W a2;show EB (HA.mp N).2 ⟨a9,ab⟩
   show a7 _ _ (F.pe u (sub u N)) a6.2.2.2.2.1 a6.2.2.1 a6.1 a6.2.1 c0
  .rw[b0];unfold eG;let bm:((RE es).filter λu=>decide (u.n≠n)).map Ho.n=((RE es).map Ho.n).filter λk=>decide (k≠n):=by rw[qC];rfl
   let bn:(ah.filter λu=>decide (u.n≠n)).map Tk.n=(ah.map Tk.n).filter λk=>decide (k≠n):=by rw[qC];rfl
   rw[bm,bn,F.nm]
  .rw[av];show F.bm
  .rw[av];show F.bn
  .unfold qF;show F.nd.sublist (((((((List.filter_sublist.map _).cons₂ _).cons₂ _).cons₂ _).cons₂ _).cons₂ _).cons₂ _)
  .let rfl||D||(s,a3,rfl):=D
   .show F.ob _ (.inl rfl)
   .show F.ob _ (.inr (.inl ?_));unfold qF at D ⊢;simp only[uA] at D ⊢;let D||D||D||D||D||D||D:=D
    .show .inl D
    .show .inr (.inl D)
    .show .inr (.inr (.inl D))
    .show .inr (.inr (.inr (.inl D)))
    .show .inr (.inr (.inr (.inr (.inl D))))
    .show .inr (.inr (.inr (.inr (.inr (.inl D)))))
    .let(u,N,a2):=cA.mp D;show .inr (.inr (.inr (.inr (.inr (.inr (cA.mpr (u,sub u N,a2)))))))
   .let(u,N,rfl,_):=LN a3;show F.sb u N
  .let(u,N,rfl,_):=LN a3;show F.sz u N
theorem RH.rebase {A:rD} {B H:Hp} {r:Ro} {D:Hz} {l f g:Int} {J:!Tk} {bk:Kvs} {made:Int} {S:!Sh} {es:!Ho} (h:RH A B H r D l f g J bk made S es):∃F,RH A F H r D l f g J bk made S es/\∀c,¬iG r D S es c->F c=H c:=by
 show(λc=>@ite _ (iG r D S es c) (Classical.propDecidable _) none (H c),(h.h,h.gd,h.ho,h.sh,h.s,h.pd,h.bd,h.pe,h.nm,h.bm,h.bn,h.nd,λc q=>jA q,λc q=>?_,h.sz,h.ux),λc q=>fA q);by_cases o:iG r D S es c
 .show jA o
 .show (fA o).trans q
theorem RB.rh {A:rD} {H:Hp} {r:Ro} {F:Hz} {l f g:Int} {O:!Tk} {pv:!Pv} (h:RB A H r F l f g O pv) (av:H r.bd>(.dK [])) (nb:r.bd∉oG r F pv):∃B,RH A B H r F l f g O [] 0 [] (pv.map λe=>(false,e.n,e.d,[]))/\PC [] (pv.map λe=>(false,e.n,e.d,[]))/\∀c,¬iG r F [] (pv.map λe=>(false,e.n,e.d,[])) c->B c=H c:=by
 let U:RE (pv.map λe=>((false,e.n,e.d,[]):Ho))=pv.map λe=>(false,e.n,e.d,[]):=by
  unfold RE;show List.filter_eq_self.mpr λu D=>by let(e,_,rfl):=cA.mp D;rfl
 let L:tF (pv.map λe=>((false,e.n,e.d,[]):Ho))=[]:=by
  unfold tF;show List.filter_eq_nil_iff.mpr λu D=>by let(e,_,rfl):=cA.mp D;show AA
 let hd:(pv.map λe=>((false,e.n,e.d,[]):Ho)).map Ho.d=pv.map Pv.d:=by rw[CA];rfl
 let ax:(qF r F (pv.map λe=>((false,e.n,e.d,[]):Ho))).Nodup:=by
  let N:=h.nd;unfold oG at N nb;unfold qF;rw[hd];simp only[KA,uA,not_or] at N nb ⊢;let((V,W,Y,Z,a0),(a1,a2,a3,a4),(a5,a6,a7),a8,a9,ab):=N;let(ac,ad,ah,ao,ap,aq):=nb;show((V,W,λq=>ac q.symm,Y,Z,a0),(a1,λq=>ad q.symm,a2,a3,a4),(λq=>ah q.symm,a5,a6,a7),(ao,ap,aq),a8,a9,ab)
 let base:RH A (λο=>none) H r F l f g O [] 0 [] (pv.map λe=>(false,e.n,e.d,[])):=by
  show(h.h,h.gd,h.ho,h.sh,h.s,?_,?_,λu D=>?_,?_,?_,?_,ax,λο ο=>rfl,λο ο=>rfl,(λs J=>by cases J),λu D=>?_)
  .rw[U,h.pd];unfold YG QE;rw[CA]
   rfl
  .rw[L];show av
  .let(e,aw,rfl):=cA.mp D;show (h.pe e aw).2
  .rw[U,CA];show h.nm
  .rw[L];rfl
  .rw[L];show .nil
  .let(e,_,rfl):=cA.mp D;show .nil
 let(B,ar,au):=base.rebase;show(B,ar,((λu D az ay=>by let(e,_,rfl):=cA.mp D;cases ay),(λs J=>by cases J),(λs J=>by cases J)),au)
def RG (S:!Sh) (k:Int):Option (!Int):=(S.find? λs=>decide (s.n=k)).map Sh.xs
theorem mR {S:!Sh} {s:Sh} (F:(S.map Sh.n).Nodup) (D:s∈S):RG S s.n>s.xs:=by
 unfold RG;cases q:S.find? λu=>decide (u.n=s.n) with
 |none=>show absurd (pA (rfl:s.n=s.n)) (List.find?_eq_none.mp q _ D)
 |some J=>
  let h1:=List.find?_some q;let h2:=List.mem_of_find?_eq_some q;rw[tH F h2 D (EB h1)]
  rfl
def CF (g:Int) (S:!Sh) (e:Ho) (x:Int):!Int:=((vD e x).bind (RG S)).getD (List.replicate (pw g).toNat 0)
theorem RH.no {A:rD} {B H:Hp} {r:Ro} {F:Hz} {l f g:Int} {L:!Tk} {bk:Kvs} {made:Int} {S:!Sh} {es:!Ho} (_:RH A B H r F l f g L bk made S es) {c:Addr} (no:¬iG r F S es c):c≠r.p/\(c≠r.sd/\c≠r.hd/\c≠r.pd/\c≠r.bd/\c≠F.td/\c≠F.bd)/\c∉es.map Ho.d/\∀s∈S,c≠s.a:=by
 let D:c∉qF r F es:=λq=>no (.inr (.inl q));unfold qF at D;simp only[uA,not_or] at D;show(λq=>no (.inl q),(D.1,D.2.1,D.2.2.1,D.2.2.2.1,D.2.2.2.2.1,D.2.2.2.2.2.1),D.2.2.2.2.2.2,λs J q=>no (.inr (.inr (s,J,q))))
theorem RH.nb {A:rD} {B H:Hp} {r:Ro} {q:Hz} {l f g:Int} {F:!Tk} {bk:Kvs} {made:Int} {S:!Sh} {es:!Ho} (h:RH A B H r q l f g F bk made S es) {c:Addr} (D:B c≠none):¬iG r q S es c:=λo=>D (h.ob c o)
theorem RH.kd {A:rD} {B H H':Hp} {r:Ro} {F:Hz} {l f g:Int} {N:!Tk} {bk:Kvs} {made:Int} {S:!Sh} {es:!Ho} (h:RH A B H r F l f g N bk made S es) {c:Addr} {o o':HO} (W:H c>o) (no:¬iG r F S es c) (ho:(∃kvs,o=.dK kvs)\/(∃kvs,o=.dT kvs)\/∃i vs,o=.lst (V.int i::vs)) (k:Kd c H H') (h':H' c>o'):RH A B H' r F l f g N bk made S es:=by
 let(Y,(Z,a0,a1,a2,a3,a4),a5,a6):=h.no no;let(O,h1):=h.s.me;show(h.h.lo λb u e=>?_,h.gd,h.ho,h.sh,(⟨O,k _ _ h1 Y.symm⟩,k _ _ h.s.s Z.symm,k _ _ h.s.h a0.symm,λs L=>k _ _ (h.s.x s L) (a6 s L).symm,h.s.nd,h.s.nn,h.s.b,h.s.ne),k _ _ h.pd a1.symm,k _ _ h.bd a2.symm,λe J=>k _ _ (h.pe e J) (λq=>a5 (cA.mpr (e,J,q))),h.nm,h.bm,h.bn,h.nd,h.ob,λb U=>h.dm b (OI k h' b U),h.sz,h.ux);by_cases q:b=c
 .subst q;rw[W] at e;let e:=rA e;let(D,q)||(D,q)||(i,vs,q):=ho
  .show .inr (.inl (.inl (D,by rw[<-e,q],a3,a4)))
  .show .inr (.inr (.inr ⟨D,by rw[<-e,q]⟩))
  .show .inr (.inr (.inl (i,vs,by rw[<-e,q])))
 .show .inl (k _ _ e q)
theorem RH.ex {A:rD} {B H:Hp} {r:Ro} {F:Hz} {l f g:Int} {L:!Tk} {bk:Kvs} {made:Int} {S:!Sh} {es:!Ho} (h:RH A B H r F l f g L bk made S es) {c:Addr} (D:H c=none):¬iG r F S es c:=by
 let(N,h1):=h.s.me;rintro (rfl|q|⟨s,hs,rfl⟩)
 .rw[h1] at D;cases D
 .unfold qF at q;simp only[uA] at q;let rfl||rfl||rfl||rfl||rfl||rfl||q:=q
  .rw[h.s.s] at D;cases D
  .rw[h.s.h] at D;cases D
  .rw[h.pd] at D;cases D
  .rw[h.bd] at D;cases D
  .rw[h.h.t] at D;cases D
  .rw[h.h.b] at D;cases D
  .let(e,J,rfl):=cA.mp q;rw[h.pe e J] at D;cases D
 .rw[h.s.x s hs] at D;cases D
theorem rF {H:Hp} {a:Addr} {o:HO} (h:H a=none):JC H (FC H a o)/\FC H a o a>o:=⟨nE iE h,jD⟩
theorem Yg {A:rD} {B H:Hp} {r:Ro} {F:Hz} {l f g:Int} {J:!Tk} {bk:Kvs} {made:Int} {S:!Sh} {es:!Ho} (h:RH A B H r F l f g J bk made S es) {D:Addr} (hd:H D=none):D∉qF r F es:=λq=>h.ex hd (.inr (.inl q))
def VM (A:rD):Sp:=λvs H Q ο=>∃(B:Hp) (r:Ro) (z:Hz) (l f g:Int) (tks:!Tk) (bk:Kvs) (made:Int) (S:!Sh) (es:!Ho) (m:Int),vs=[.ref r.p,.int m]/\RH A B H r z l f g tks bk made S es/\(1<=m/\m<=64)/\bk.length < 1000/\
 ∀(k:Nat) (d:Addr) (H':Hp),SH (JD bk) k->H d=none->RH A B H' r z l f g tks (bk++[(inl (k:Int),.int m)]) made S (es++[(true,k,d,[])])->(∀c o,H c>o->c≠z.bd->c≠r.bd->H' c>o)->Q (.int k) H'
theorem CP (T:CD K mg A):QC P w K mg base A.Ab "new_bank" 5 ["self","many"] [] (VM A):=by
 show T.E5.have O4 (λvs H Q E F=>?_) ?_
 .let(B,r,F,l,f,g,au,bk,made,S,es,m,rfl,_):=F;rfl
 .intro f be bb bi s H vs Q E ar F;let(B,r,F,l,ay,g,au,bk,made,S,es,m,rfl,D,b3,b2,q):=F;let(ac,h1):=D.s.me;let(aw,h2):=D.h.me;let N:=AJ D.nd;show(_,(aD (SD (i:=2) O4.nd rfl (Or.inl rfl) (GD (FD (BC 0) rfl) T.Af (qV T) (-ar) ZC (EC (BC 1) IC)))
   (aD (gH (bE ar) (FD (BC 0) rfl) (BC 2) YJ rfl)
   (bD (PD (BC 2))))),?_)
  unfold kE;rfl';simp only[h1];rfl';show(T.Ac,T.Ak,_,MI,r.ho,rfl,aw,_,by rw[D.ho];show h2,KF ∅,F,l,ay,g,au,bk,m,by rw[D.ho],D.h,b2,.inl ⟨b3,λk ab a3 ao kd J hd=>?_⟩);let hz:=PySem.sizeLine_eq;let W:H J=none:=OI kd ao.b J hd;let(a1,az):=rF (o:=.dK []) hd;let a2:=a1 _ _ (kd _ _ h1 (cD h1 D.h.b nofun));let a5:=a1 _ _ (kd _ _ D.bd N.bb);let ap:=ao.same a1;let keep:∀c o,H c>o->c≠F.bd->FC ab J (.dK []) c>o:=λc o h n=>a1 _ _ (kd _ _ h n);generalize FC ab J (.dK [])=H2 at *;let bh:(QE (tF es)).length=bk.length:=by
   have:=congrArg List.length D.bm;unfold JD at this;rw[iA,iA] at this;unfold QE;rw[iA,this]
  let b1:JD (QE (tF es))=JD bk:=by
   rw[<-D.bm];unfold JD QE;rw[CA];rfl
  show(_,ac,_,a2,T.Ac,T.A3,_,iR,r.bd,rfl,_,.inl (_,inl (k:Int),a5,rfl,⋯,rfl),?_);rw[sM (by rw[b1];show a3.1)];let b5:J≠r.bd:=λe=>by rw[e,D.bd] at W;cases W
  let aq:RE (es++[(true,k,J,[])])=RE es:=by unfold RE;rw[JB];show uB _
  let a6:tF (es++[(true,k,J,[])])=tF es++[(true,k,J,[])]:=by unfold tF;rw[JB];rfl
  let k3:Kd r.bd H2 (FC H2 r.bd (.dK (QE (tF es)++[(inl (k:Int),V.ref J)]))):=XE;let ah:FC H2 r.bd (.dK (QE (tF es)++[(inl (k:Int),V.ref J)])) r.bd>(.dK (QE (tF es)++[(inl (k:Int),V.ref J)])):=jD;generalize FC H2 r.bd (.dK (QE (tF es)++[(inl (k:Int),V.ref J)]))=H3 at *;let O:∀c o,H c>o->c≠F.bd->c≠r.bd->H3 c>o:=λc o h Z a0=>k3 _ _ (keep c o h Z) a0;let b4:∀c,H3 c=none->H c=none:=λc L=>by
   cases ax:H c with
   |none=>rfl
   |some o=>
    exfalso;by_cases Z:c=F.bd
    .rw[Z,k3 _ _ ap.b N.bb.symm] at L;cases L
    .by_cases a0:c=r.bd
     .rw[a0,ah] at L;cases L
     .rw[O c o ax Z a0] at L;cases L
  let ad:qF r F (es++[(true,k,J,[])])=qF r F es++[J]:=by unfold qF;rw[nA];rfl
  let b0:(k:Int)∉(tF es).map Ho.n:=λq=>a3.1 (by
   let(u,Y,e):=cA.mp q;rw[<-D.bm,<-e];show cA.mpr (u,Y,rfl))
  show q k J H3 a3 W (?_,D.gd,D.ho,D.sh,(⟨ac,k3 _ _ a2 (cD a2 a5 nofun)⟩,O _ _ D.s.s N.sb N.sx,O _ _ D.s.h N.hb N.hx,λs a7=>?_,D.s.nd,D.s.nn,D.s.b,D.s.ne),by rw[aq];show O _ _ D.pd N.pb N.px,?_,λu Y=>?_,by rw[aq];show D.nm,?_,?_,?_,λc L=>?_,λc L=>D.dm c (b4 c L),D.sz,λu Y=>?_) O
  .show ap.lo λc o e=>by
    by_cases n:c=r.bd
    .subst n;rw[a5] at e;show .inr (.inl (.inl (_,(rA e).symm,N.bt,N.bb)))
    .show .inl (k3 _ _ e n)
  .let a8:=D.s.x s a7;show O _ _ a8 (cD a8 D.h.b nofun) (cD a8 D.bd nofun)
  .rw[a6];unfold QE;rw[nA];show ah
  .let h||h:=kA.mp Y
   .let a9:=N.e u h;show O _ _ (D.pe u h) a9.2.2.2.2.2 a9.2.2.2.1
   .rw[bA.mp h];show k3 _ _ az b5
  .rw[a6,nA,D.bm];unfold JD;rw[nA];rfl
  .rw[a6,nA];show LA.mpr (D.bn,by simp,λa U b a4 F=>b0 (by rw[F,bA.mp a4] at U;show U))
  .rw[ad];show LA.mpr (D.nd,by simp,λa U b a4 F=>Yg D W (by rw[F,bA.mp a4] at U;show U))
  .let rfl||L||(s,a7,rfl):=L
   .show D.ob _ (.inl rfl)
   .rw[ad] at L;let h||h:=kA.mp L
    .show D.ob _ (.inr (.inl h))
    .rw[bA.mp h];show D.dm J W
   .show D.sb s a7
  .let h||h:=kA.mp Y
   .show D.ux u h
   .rw[bA.mp h];show .nil
theorem RH.laid {A:rD} {B H H':Hp} {r:Ro} {q:Hz} {l f g:Int} {F:!Tk} {bk:Kvs} {made:Int} {S:!Sh} {es:!Ho} {t:Tk} {rs:!Rn} (h:RH A B H r q l f g F bk made S es) (O:t∈F) (L:YD A H' q l f g (HE t.n rs F) bk) (k:Bu t.p H H'):RH A B H' r q l f g (HE t.n rs F) bk made S es:=by
 let(a,(a1,a5,J,a3,a4),_):=h.h.st t O;let(U,h1):=h.s.me;let D:∀{c:Addr} {kvs:Kvs},H c>(.dK kvs)->H' c>(.dK kvs):=λh=>k _ _ h (cD h J nofun);let Y:r.p≠t.p:=λe=>by
  rw[e,J] at h1;let w:=gR (sh:=r.sh) (most:=r.most) (ho:=r.ho) (sd:=r.sd) (hd:=r.hd) (made:=made) (pd:=r.pd) (bd:=r.bd);rw[<-(HO.ins.inj (rA h1)).2.2,SF ∅] at w;cases w
 let(a0,(a2,a6,Z,_),_):=L.st {t with rs:=rs} (cA.mpr (t,O,jA rfl));show(L,h.gd,h.ho,h.sh,(⟨U,k _ _ h1 Y⟩,D h.s.s,D h.s.h,λs N=>k _ _ (h.s.x s N) (cD (h.s.x s N) J nofun),h.s.nd,h.s.nn,h.s.b,h.s.ne),D h.pd,D h.bd,λe W=>D (h.pe e W),by rw[y6];show h.nm,h.bm,h.bn,h.nd,h.ob,λc V=>h.dm c (OI k Z c V),h.sz,h.ux)
def nR (A:rD):Sp:=λvs H Q ο=>∃(B:Hp) (r:Ro) (z:Hz) (l f g:Int) (tks:!Tk) (bk:Kvs) (made:Int) (S:!Sh) (es:!Ho) (n x m rt st:Int) (b:Option Int) (t:Tk),vs=[.ref r.p,.int n,.int x,.int m,.int rt,bV b,.int st]/\RH A B H r z l f g tks bk made S es/\t∈tks/\t.n=n/\UD x m (pw (l * f))=true/\(0<=rt/\rt<=3)/\(∀b',b>b'->∃i:Int,SC bk (inl b')>(.int i)/\0<=st/\st<=i - m)/\ZE t.rs x m=[]/\YC (GG t.rs x m rt (BE b st))/\(GG t.rs x m rt (BE b st)).length<=10000/\
 ∀H',RH A B H' r z l f g (HE n (GG t.rs x m rt (BE b st)) tks) bk made S es->Bu t.p H H'->Q .non H'
theorem t7 (T:CD K mg A):OF P w K mg base "Rooms.lay" FI ["self","task","first","many","rights","bank","start"] 9 (nR A):=by
 intro f a8 a7 ab s H vs Q E a3 L;let(B,r,L,l,Y,g,a6,bk,made,S,es,n,x,m,a5,st,b,t,rfl,D,J,F,a0,a4,Z,a2,ho,a1,q):=L;let(a9,h1):=D.s.me;let(W,h2):=D.h.me;show(_,(bD (lE (GD (FD (BC 0) rfl) T.Af (yM T) (-a3) ZC (@EC _ _ _ _ _ (BC 1) (@EC _ _ _ _ _ (BC 2) (@EC _ _ _ _ _ (BC 3) (@EC _ _ _ _ _ (BC 4) (@EC _ _ _ _ _ (BC 5) (@EC _ _ _ _ _ (BC 6) IC rfl) rfl) rfl) rfl) rfl) rfl)))),?_);rfl';simp only[h1];rfl';show(T.Ac,T.Ak,_,MI,r.ho,rfl,W,_,by rw[D.ho];show h2,KF ∅,L,l,Y,g,a6,bk,n,x,m,a5,st,b,by rw[D.ho],D.h,.inr (.inr (by rw[<-F];show LI J,a0,.inr ⟨a4,.inr (Z,t,J,F,.inr (a2,ho,a1,λU O N=>q U (by rw[<-F] at O ⊢;show D.laid J O N) N))⟩)))
theorem u7 {A:rD}:∀vs H Q E,nR A vs H Q E->vs.length=7:=λvs H Q E q=>by
 let(B,r,q,l,D,g,J,bk,made,S,es,n,x,m,F,st,b,t,rfl,_):=q;rfl
theorem v7 (T:CD K mg A):QC P w K mg base A.Ab "lay" 10 ["self","task","first","many","rights","bank","start"] [] (nR A):=T.Js.have P4 u7 (t7 T)
theorem Zg (T:CD K mg A):QC P w K mg base A.Ab "lay" 10 ["self","task","first","many","rights","bank","start"] [.non,.int 0] (nR A):=T.Ia.have P4 u7 (t7 T)
def OK (n:Int) (p:Pg):Bool×Int×Int:=match p.2.2 with|none=>(false,(n,p.1))|some (b,y)=>(true,(b,y))
def N7 (g:Int) (S:!Sh) (es:!Ho) (n:Int) (p:Pg) (xs:!Int):Prop:=∃e∈es,e.k=(OK n p).1/\e.n=(OK n p).2.1/\xs=CF g S e (OK n p).2.2
def WM (A:rD):Sp:=λvs H Q ο=>∃(B:Hp) (r:Ro) (z:Hz) (l f g:Int) (tks:!Tk) (bk:Kvs) (made:Int) (S:!Sh) (es:!Ho) (n:Int) (p:Pg) (tv:V) (xs:!Int) (t:Tk),vs=[.ref r.p,.int n,.int p.1,tv]/\RH A B H r z l f g tks bk made S es/\PC S es/\t∈tks/\t.n=n/\ND H tv p.2.2/\N7 g S es n p xs/\
 ∀a H',JC H H'->H a=none->H' a>(.lst (xs.map V.int))->Q (.ref a) H'
theorem DP (T:CD K mg A):QC P w K mg base A.Ab "shown" 3 ["self","task","page","tie"] [] (WM A):=by
 show T.Hf.have iU (λvs H Q E F=>?_) ?_
 .let(B,r,F,l,f,g,ax,bk,made,S,es,n,p,ah,xs,t,rfl,_):=F;rfl
 .intro f az ay b1 s H vs Q E N F;let(B,r,F,l,aq,g,ax,bk,made,S,es,n,(x,O,L),ah,xs,t,rfl,D,ar,av,a7,a2,(e,J,a4,a5,rfl),q):=F;let(b0,h1):=D.s.me;let aw:=KN (D.ux e J) (OK n (x,(O,L))).2.2;let a1:∃o,UE H e.d (V.int (OK n (x,(O,L))).2.2) o/\if o.getD V.non=V.non then List.lookup (Str.ofString "noughts") (ZF r.sh r.most r.ho r.sd r.hd made r.pd r.bd)=none/\vV A [V.ref r.p] H Q λc x H'=>E c none H' else vG K A.Ab/\qD K A.Ab (Str.ofString "sheets")/\∃x,List.lookup (Str.ofString "sheets") (ZF r.sh r.most r.ho r.sd r.hd made r.pd r.bd)>x/\∃a,x=V.ref a/\∃x,UE H a (o.getD V.non) (some x)/\∃p,x=V.ref p/\∃x,(pD K H p x\/uD K H p x)/\∀(l:Addr),H l=none->Q (V.ref l) (FC H l (HO.lst x)):=by
   show(_,.inl (mD e.m,inl _,.inl (D.pe e J),rfl,rfl),?_);rw[aw];cases U:vD e (OK n (x,(O,L))).2.2 with
   |some k=>
    let(s,Z,W):=ar.liv e J _ ((KH (D.ux e J)).mp U);let W:s.n=k:=W;subst W;let Y:CF g S e (OK n (x,(O,L))).2.2=s.xs:=by unfold CF;rw[U];change ((RG S s.n).getD _)=_;rw[mR D.s.nn Z];rfl
    rw[Y] at q;change if V.int s.n=V.non then _ else _
    rw[fA nofun];show(T.Ac,T.Ao,_,HK,r.sd,rfl,_,.inl (_,inl s.n,.inl D.s.s,rfl,(tP D.s.nn Z).symm),s.a,rfl,_,.inl (pD.of (D.s.x s Z)),λl a6=>q l _ (nE iE a6) a6 jD)
   |none=>
    let Y:CF g S e (OK n (x,(O,L))).2.2=List.replicate (pw g).toNat 0:=by unfold CF;rw[U];rfl
    rw[Y] at q;let a9:=D.h.sh;rw[<-D.sh] at a9;change if V.non=V.non then _ else _
    rw[jA rfl];show⟨FE ∅,GU r made S l aq g (rfl,D.s,a9,D.gd,q)⟩
  let ac:GQ H e.d:=.inl ⟨_,.inl (D.pe e J)⟩;show(_,(aD (SD (i:=4) iU.nd rfl (Or.inl rfl) (uN (yF gI (BC 3) CG (UC _)) (FF (bE N) (FD (BC 0) rfl) (BC 1) (λο ο=>rfl)) (FF (bE N) (FD (BC 0) rfl) (WD vE (BC 3) NC (λο ο=>rfl)) (λο ο=>rfl))))
   (aD (SD (i:=5) iU.nd rfl (Or.inl rfl) (Za (bE N) (BC 4) (uN (yF gI (BC 3) CG (UC _)) (BC 2) (WD vE (BC 3) NC (λο ο=>rfl))) (rfl,rfl,rfl,rfl)))
   (bD (PD (uN (yF gI (BC 5) CG (UC _)) (cJ (BC 0) T.Ac (JK T) (-N) ZC) (xN zQ rfl T.Dr lC (EC (FF (bE N) (FD (BC 0) rfl) (BC 5) (λο ο=>rfl)) IC))))))),?_)
  unfold eE oI;rfl';simp only[h1];rfl';cases L with
  |none=>
   obtain rfl:ah=.non:=a2;let(a0,au,k1,k2,a8):=D.pv av;obtain rfl:a0=e:=D.one au J (by rw[k1,a4];rfl) (by rw[k2,a7,a5];rfl);rw[a7] at a8;rw[jA rfl];show(T.Ac,T.Al,_,zJ,r.pd,rfl,_,.inl (_,inl n,.inl D.pd,rfl,a8.symm),a0.d,rfl,ac,?_);rw[jA rfl];show a1
  |some ap=>
   let(b,b2):=ap;let(ad,rfl,ab):=a2;let a3:=D.bv J a4;rw[a5] at a3;rw[fA nofun];show(T.Ac,T.A3,_,iR,ad,rfl,_,uD.of ab,_,QH (j:=0) rfl,r.bd,rfl,_,.inl (_,inl b,.inl D.bd,rfl,a3.symm),e.d,rfl,ac,?_);rw[fA nofun];show(ad,rfl,_,uD.of ab,_,QH (j:=1) rfl,a1)
def QI (H0 H:Hp) (v:V) (x rt:Int) (xs:!Int):Prop:=∃a c,v=.ref a/\H a>(.tup [.int x,.int rt,.ref c])/\H c>(.lst (xs.map V.int))/\H0 c=none
def XM (A:rD):Sp:=λvs H Q ο=>∃(B:Hp) (r:Ro) (z:Hz) (l f g:Int) (tks:!Tk) (bk:Kvs) (made:Int) (S:!Sh) (es:!Ho) (n:Int) (t:Tk) (R:Pg->!Int),vs=[.ref r.p,.int n]/\RH A B H r z l f g tks bk made S es/\PC S es/\t∈tks/\t.n=n/\(∀r∈t.rs,0<=r.f/\0<=r.m/\RC r<=100000000)/\(nG t.rs).length<=9000/\(∀p∈nG t.rs,N7 g S es n p (R p))/\
 ∀b us H',JC H H'->H b=none->H' b>(.lst us)->Paired (λv (p:Pg)=>QI H H' v p.1 p.2.1 (R p)) us (nG t.rs)->Q (.ref b) H'
theorem FP (T:CD K mg A):QC P w K mg base A.Ab "seen_by" 5 ["self","task"] [] (XM A):=by
 show T.Fw.have Ye (λvs H Q E D=>?_) ?_
 .let(B,r,D,l,f,g,ab,bk,made,S,es,n,t,R,rfl,_):=D;rfl
 .intro f ch cd co s H vs Q E b2 D;let(B,r,D,l,aw,g,ab,bk,made,S,es,n,t,R,rfl,O,bo,b3,b0,c0,cn,c1,q):=D;let(bl,h1):=O.s.me;let(bm,h2):=O.h.me;show(_,(bD (PD (qc rfl (YI (GD (FD (BC 0) rfl) T.Af (wV T) (-b2) ZC (EC (BC 1) IC))) (x:="page") (xs:=["page","rights","tie"]) (fs:=["self","task"]) (ix:=[0,1]) rfl rfl (λο ο ο ο ο ο=>(rc (K:=K) (n:=3) rfl rfl (YN (XF (i:=0) (show (["page","rights","tie","self","task"]:!Str).Nodup by decide+kernel) rfl (Or.inl rfl)) (YN (XF (i:=1) (show (["page","rights","tie","self","task"]:!Str).Nodup by decide+kernel) rfl (Or.inl rfl)) (YN (XF (i:=2) (show (["page","rights","tie","self","task"]:!Str).Nodup by decide+kernel) rfl (Or.inl rfl)) oZ))))) (λο ο ο ο ο ο=>zN) (λο ο ο ο ο ο=>(dG (EC (BC 0) (EC (BC 1) (EC (GD (BC 3) T.Ac (DP T) (-b2) bK (EC (BC 4) (EC (BC 0) (EC (BC 2) IC)))) IC)))))))),?_);rfl';simp only[h1];rfl';show(T.Ac,T.Ak,_,MI,r.ho,rfl,bm,_,by rw[O.ho];show h2,KF ∅,D,l,aw,g,ab,bk,n,t,by rw[O.ho],O.h,b3,b0,c0,⋯,λb us ap a5 ck ay ax=>?_);rfl';let c3:us.length=(nG t.rs).length:=Paired.length ax;show⟨⟨_,pD.of ay⟩,λJ a9=>AN (K:=K) (xs:=us) (λi ys a6 H'=>∃ac ad ah,a6=[ac,ad,ah,↑r.p,some (.int n)]/\JC ap H'/\H' J>(.lst ys)/\Paired (λv (p:Pg)=>QI ap H' v p.1 p.2.1 (R p)/\∀a c,v=.ref a->H' a>(.tup [.int p.1,.int p.2.1,.ref c])->c≠J) ys ((nG t.rs).take i)) (_,_,_,rfl,nE iE a9,jD,.nil) (λi ys a6 H' _ ao=>by let(_,_,_,ao):=ao;show pD.of (ao.2.1 _ _ ay)) (λi v ys a6 H' hi=>?_) (λys a6 H'=>?_)⟩
  .rintro⟨ac,ad,ah,rfl,F,a2,Y⟩;let(p,b1,a,c9,rfl,br,bp):=JI ax hi;let cl:=(QA.mp hi).1;let c2:(nG t.rs).take (i+1)=(nG t.rs).take i++[p]:=by rw[mB,b1];rfl
   let c4:=Paired.length Y;rw[aB] at c4;let b5:=a5.trans F;let hz:=PySem.sizeLine_eq;rfl';show(_,uD.of (F _ _ br),rfl,_,_,rfl,_,_,rfl,_,_,rfl,rfl,bl,_,b5 _ _ h1,FE ∅,B,r,D,l,aw,g,ab,bk,made,S,es,n,p,c9,R p,t,rfl,O.same b5,bo,b3,b0,bp.same F,c1 p (VA b1),λc a7 a0 az bt Z bz=>?_);let U:=nE (o:=.tup [V.int p.1,V.int p.2.1,V.ref c]) (iE (H:=a7)) bz;let a4:FC a7 Z (.tup [V.int p.1,V.int p.2.1,V.ref c]) Z>(.tup [V.int p.1,V.int p.2.1,V.ref c]):=jD;generalize FC a7 Z (.tup [V.int p.1,V.int p.2.1,V.ref c])=H4 at *;let a3:=U _ _ (a0 _ _ a2);let bw:=U _ _ bt;let k5:Kd J H4 (FC H4 J (.lst (ys++[V.ref Z]))):=XE;let b4:c≠J:=(OD a2 az).symm;show(a3,⋯,GH ((F.trans a0).trans U) a9,?_);rw[c2];show vP (NI Y λv cp h=>?_) (.cons ⟨(Z,c,rfl,k5 _ _ a4 (cD a4 a3 nofun),k5 _ _ bw b4,FG F az),λbh bi a1 W=>?_⟩ .nil)
   .let((aq,ar,L,N,a8,bn),av):=h;let au:=k5 _ _ (U _ _ (a0 _ _ N)) (cD (U _ _ (a0 _ _ N)) a3 nofun);show⟨(aq,ar,L,au,k5 _ _ (U _ _ (a0 _ _ a8)) (av aq ar L N),bn),λbh bi a1 W=>?_⟩;rw[L] at a1;cases a1;rw[au] at W;cases W;show av _ _ L N
   .cases a1;rw[k5 _ _ a4 (cD a4 a3 nofun)] at W;cases W;show b4
  .rintro⟨ac,ad,ah,rfl,F,a2,Y⟩;rw[c3,wB] at Y;show q J ys H' (a5.trans F) (FG a5 a9) a2 (NI Y λv p h=>let ⟨a,c,e1,L,N,a8⟩:=h.1;(a,c,e1,L,N,FG a5 a8))
def YM (A:rD):Sp:=λvs H Q ο=>∃(B:Hp) (r:Ro) (z:Hz) (l f g:Int) (tks:!Tk) (bk:Kvs) (made:Int) (S:!Sh) (es:!Ho) (n x m:Int) (t:Tk) (e:Ho),vs=[.ref r.p,.int n,.int x,.int m]/\RH A B H r z l f g tks bk made S es/\t∈tks/\t.n=n/\e∈es/\e.k=false/\e.n=n/\UD x m (pw (l * f))=true/\((ZE t.rs x m).map (·.m)).sum=m/\YC (AE t.rs x m [])/\(AE t.rs x m []).length<=10000/\(∀y,x<=y->y < x+m->vD e y=none)/\S.length<=9000/\
 ∀H',RH A B H' r z l f g (HE n (AE t.rs x m []) tks) bk made S es->(∀c o,H c>o->c≠t.p->H' c>o)->Q .non H'
theorem GP (T:CD K mg A):QC P w K mg base A.Ab "lift" 10 ["self","task","first","many"] [] (YM A):=by
 show T.Ib.have Q4 (λvs H Q E J=>?_) ?_
 .let(B,r,J,l,f,g,Y,bk,made,S,es,n,x,m,t,e,rfl,_):=J;rfl
 .intro f b0 az b4 s H vs Q E W J;let(B,r,J,l,a4,g,Y,bk,made,S,es,n,x,m,t,e,rfl,D,U,N,O,ao,ap,a7,ax,au,ar,aq,b1,q):=J;let(ac,h1):=D.s.me;let(ad,h2):=D.h.me;let a9:=AJ D.nd;let(F,ah,k1,k2,av):=D.pv U;obtain rfl:F=e:=D.one ah O (by rw[k1,ao]) (by rw[k2,N,ap]);show(_,(aD (lE (GD (FD (BC 0) rfl) T.Af (zM T) (-W) ZC (EC (BC 1) (EC (BC 2) (EC (BC 3) IC)))))
   (bD (dJ nB rfl (sZ rfl T.B3 (EC (BC 2) (EC (KD LF (BC 2) (BC 3)) IC))) (XF (i:=4) Q4.nd rfl (Or.inl rfl)) (bD (lE (GD (BC 0) T.Ac (uV T) (-W) ZC (EC (FF (bE W) (FD (BC 0) rfl) (BC 1) (λο ο=>rfl)) (EC (BC 4) IC)))))))),?_)
  unfold eE;rfl';let b2:=EB a7;let b3:=II D.gd;show(A.Ab,ac,_,h1,T.Ac,T.Ak,_,MI,r.ho,rfl,ad,_,by rw[D.ho];show h2,KF ∅,J,l,a4,g,Y,bk,n,x,m,by rw[D.ho],D.h,.inr (.inr (by rw[<-N];show LI U,a7,t,U,N,.inr (ax,au,ar,λa2 a6 bu=>?_))));let L:RH A B a2 r J l a4 g (HE n (AE t.rs x m []) Y) bk made S es:=by rw[<-N] at a6 ⊢;show D.laid U a6 bu
  let ay:(x+m - x).toNat=m.toNat:=⋯;show(⋯,⋯,⋯,⋯,?_);rw[ay];show KQ (λi a0 V=>∃Z,a0=[↑r.p,some (.int n),some (.int x),some (.int m),Z]/\V=a2) (_,rfl,rfl) (λi a0 V hi=>?_) (λa0 V=>?_)
  .rintro⟨Z,rfl,rfl⟩;let(a3,a5):=L.s.me;let a1:=a9.e F O;rfl';let aw:SC (QE (RE es)) (inl n)=↑F.d:=by rw[<-N];show av
   show(a3,_,a5,FE ∅,A.Ab,a3,_,a5,T.Ac,T.Al,_,zJ,r.pd,rfl,_,.inl (_,inl n,.inl L.pd,rfl,aw.symm),r,made,S,F.d,mD F.m,x+(i:Int),rfl,L.s,L.pe F O,a1.1,a1.2.1,⋯,.inl ⟨by rw[KN (D.ux F O),aq _ ⋯ ⋯];rfl,rfl⟩)
  .rintro⟨Z,rfl,rfl⟩;rfl';show q _ L bu
def ZM (A:rD):Sp:=λvs H Q E=>∃(B:Hp) (r:Ro) (z:Hz) (l f g:Int) (tks:!Tk) (bk:Kvs) (made:Int) (S:!Sh) (es:!Ho) (n:Int) (e:Ho),vs=[.ref r.p,.int n]/\RH A B H r z l f g tks bk made S es/\PC S es/\e∈es/\e.k=true/\e.n=n/\tks.length<=1000/\e.m.length<=9000/\S.length<=9000/\
 (((∃t∈tks,t.rs.any (xD n)=true)/\∀H',JC H H'->E (.ref A.Az) none H')\/((∀t∈tks,t.rs.any (xD n)=false)/\∀H',aE A H' r made (qE e.m S)->Q .non H'))
theorem PK (T:CD K mg A):QC P w K mg base A.Ab "drop_bank" 4 ["self","bank"] [] (ZM A):=by
 let a8:=@CM P w K mg base A T;show T.Eh.have We (λvs H Q E F=>?_) ?_
 .let(B,r,F,l,f,g,a6,bk,made,S,es,n,e,rfl,_):=F;rfl
 .intro f b1 ay b5 s H vs Q E a3 F;let(B,r,F,l,ac,g,a6,bk,made,S,es,n,e,rfl,D,V,J,a1,a2,av,ar,ap,q):=F;let(U,h1):=D.s.me;let(ab,h2):=D.h.me;let L:=AJ D.nd;show(_,(aD (lE (GD (FD (BC 0) rfl) T.Af a8 (-a3) ZC (EC (BC 1) IC)))
   (bD (lE (GD (BC 0) T.Ac (NK T) (-a3) ZC (EC (IL (FD (BC 0) rfl) (BC 1) (rfl,rfl,rfl,rfl)) IC))))),?_)
  unfold S6 AF;rfl';show(_,U,_,h1,T.Ac,T.Ak,_,MI,r.ho,rfl,ab,_,by rw[D.ho];show h2,KF ∅,F,by rw[D.ho],l,ac,g,a6,bk,D.h,av,?_);let hk:inl n∈JD bk:=by rw[<-D.bm];show cA.mpr (e,HA.mpr ⟨J,a1⟩,by rw[a2])
  let(W,q)||(W,q):=q
  .show .inr (.inl (hk,W,q))
  show .inr (.inr (hk,W,λO b4 kd=>?_));let N:=L.e e J;let a0:=D.bv J a1;rw[a2] at a0;let Z:=kd _ _ h1 (cD h1 D.h.b nofun);let Y:=kd _ _ D.bd L.bb;let au:=kd _ _ (D.pe e J) N.2.2.2.2.2;show(U,_,Z,FE ∅,?_);let a5:Kd r.bd O (FC O r.bd (.dK (DD (QE (tF es)) (inl n)))):=XE;show(_,U,_,Z,T.Ac,T.A3,_,iR,r.bd,rfl,.inl ⟨_,.inl Y⟩,_,Y,inl n,rfl,_,a0,?_);generalize FC O r.bd (.dK (DD (QE (tF es)) (inl n)))=H2 at *;let ad:=D.s.kd D.h.b L.sb.symm L.hb.symm kd;let ah:=ad.kd Y L.sx.symm L.hx.symm a5;let aq:=a5 _ _ au N.2.2.2.1;show(r,made,S,e.d,e.m,rfl,ah,aq,D.ux e J,λax aw=>V.liv e J ax aw,λs a4=>⟨?_,V.pos s a4⟩,N.1,N.2.1,ap,ar,λa9 ao b2 b3=>q a9 ao);let az:=V.cnt s a4;let b0:(e.m.map (·.2)).count s.n<=(LD es).count s.n:=by
   unfold LD;show List.Sublist.count_le s.n (List.sublist_flatten_of_mem (cA (f:=λe:Ho=>e.m.map (·.2)).mpr (e,J,rfl)))
  omega
def sp_part:Sp:=λvs H Q ο=>∃(c p m:Int),vs=[.int c,.int p,.int m]/\0<=p/\p < 4/\0 < m/\∀v H',0<=v->v < m->JC H H'->Q (.int v) H'
theorem O7 (T:CD K mg A):pE P w K mg base "_law_part" 1 ["_law_cell","_law_place","_law_many"] [] sp_part:=by
 show T.K4.have Z4 (λvs H Q E J=>?_) ?_
 .let(c,p,m,rfl,_):=J;rfl
 .intro f U O a0 s H vs Q E Z J;let(c,p,m,rfl,W,Y,D,q):=J;show(_,(aD (SD (i:=3) Z4.nd rfl (Or.inl rfl) (WD OL (oJ (EC NC (EC NC (EC NC (EC NC IC))))) (BC 1) (λο ο=>rfl)))
   (bD (PD (KD OH (KD OH (KD OJ (KD LF (KD OH (BC 0) (BC 3)) NC) NC) (BC 3)) (BC 2))))),?_)
  rfl';intro N L;let F:∀v,Q (.int (v % m)) (FC H N (.lst [V.int 7919,V.int 6007,V.int 5003,V.int 9973])):=λv=>q _ _ (Int.emod_nonneg _ ⋯) (oC _ D) (nE iE L);obtain rfl|rfl|rfl|rfl:p=0\/p=1\/p=2\/p=3:=⋯
  .show(_,rfl,7919,rfl,by decide,7919,rfl,by decide,D,F _)
  .show(_,rfl,6007,rfl,by decide,6007,rfl,by decide,D,F _)
  .show(_,rfl,5003,rfl,by decide,5003,rfl,by decide,D,F _)
  .show(_,rfl,9973,rfl,by decide,9973,rfl,by decide,D,F _)
def sp_whole:Sp:=λvs H Q ο=>∃(v d:Int),vs=[.int v,.int d]/\Q (.bl (decide (v=d))) H
theorem AV (T:CD K mg A):pE P w K mg base "_law_whole" 1 ["_law_found","_law_due"] [] sp_whole:=by
 show T.Ks.have df (λvs H Q E D=>?_) ?_
 .let(v,F,rfl,_):=D;rfl
 .intro f L J O s H vs Q E N D;let(v,F,rfl,q):=D;show(_,(bD (PD (XI (YF JQ rfl T.Bo dC (EC (BC 0) (EC (IQ (n:="int") rfl T.L7 PyProof.Rows.boot_int) IC))) (XI (mZ (YF JQ rfl T.Bo dC (EC (BC 0) (EC (IQ (n:="bool") rfl T.Ko PyProof.Rows.boot_bool) IC)))) (gL (PH fI (BC 0) (BC 1) (UC _))))))),?_);rfl';show⟨by decide,fE ⟨by decide,fE q⟩⟩
def bx (kv:Kvs) (a:Int):Int:=match SC kv (inl a) with
 |some (.int v)=>v
 |_=>0
def sp_lsp:Sp:=λvs H Q ο=>∃c n x m:Int,vs=[.int c,.int n,.int x,.int m]/\1<=m/\m<=6/\∀k st a H',1<=k->0<=st->st+k<=m->JC H H'->H a=none->H' a>(.tup [.int n,.int x,.int k,.int st])->Q (.ref a) H'
theorem HP (T:CD K mg A):pE P w K mg base "_law_span" 1 ["_law_cell","_law_task","_law_first","_law_size"] [] sp_lsp:=by
 show T.K5.have c5 (λvs H Q E D=>?_) ?_
 .let(c,n,x,m,rfl,_):=D;rfl
 .intro f N L Z s H vs Q E Y D;let(c,n,x,m,rfl,h1,W,q):=D;show(_,(aD (SD (i:=4) c5.nd rfl (Or.inl rfl) (KD OH (BC 0) (BC 3)))
   (bD (PD (dG (EC (BC 1) (EC (BC 2) (EC (KD LF NC (KD OH (KD vQ (BC 0) NC) (KD dI (BC 3) (BC 4)))) (EC (BC 4) IC)))))))),?_)
  rfl';let J:=Int.emod_nonneg c (show m≠0 by omega);let O:=oC c (show 0 < m by omega);show(⋯,⋯,λa F=>?_);let U:=Int.emod_nonneg (c / 7) (show m - c % m≠0 by omega);let V:=oC (c / 7) (show 0 < m - c % m by omega);show q _ _ a _ ⋯ J ⋯ (nE iE F) F jD
def aN (A:rD):Sp:=λvs H Q E=>∃(B:Hp) (r:Ro) (z:Hz) (l f g:Int) (tks:!Tk) (bk:Kvs) (made:Int) (S:!Sh) (es:!Ho) (n:Int) (e:Ho),vs=[.ref r.p,.int n]/\RH A B H r z l f g tks bk made S es/\PC S es/\e∈es/\e.k=true/\e.n=n/\tks.length<=1000/\e.m.length<=9000/\S.length<=9000/\(∃t∈tks,t.rs.any (xD n)=true)/\∀H',JC H H'->Q (.bl true) H'
theorem IP (T:CD K mg A):pE P w K mg base "_law_busy" 5 ["_law_rooms","_law_bank"] [] (aN A):=by
 show T.K6.have gf (λvs H Q E D=>?_) ?_
 .let(B,r,D,l,f,g,J,bk,made,S,es,n,e,rfl,_):=D;rfl
 .intro f a6 a5 a7 s H vs Q E a2 D;let(B,r,D,l,O,g,J,bk,made,S,es,n,e,rfl,F,U,Y,Z,a0,a3,a1,V,W,q):=D;let(N,h1):=F.s.me;show(_,(aD (Qc T.Mv (λο ο ο a8 a4=>(bD (lE (GD (BC 0) T.Ac (PK T) (-a2) a4 (EC (BC 1) IC))))) OE (λο=>(bD (PD ZH))))
   (bD (PD ZH))),?_)
  rfl';show(N,_,h1,FE ∅,AH B r D l O g J bk made S es n e (rfl,F,U,Y,Z,a0,a3,a1,V,.inl ⟨W,λH' s=>(A.Az,rfl,T.Hg,q _ s)⟩))
def wd (c:Bool):Str:=if c=true then "bank" else "own"
def tq (p:Bool×Int):!Key:=[inr (wd p.1),inl p.2]
def bq (p:Bool×Int) (b:Int):!Key:=[inr (wd p.1),inl p.2,inl b]
theorem P7 {c q:Bool} (h:wd c=wd q):c=q:=by
 cases c<;>cases q<;>first|rfl|(exfalso;revert h;decide+kernel)
theorem bN {p q:Bool×Int} (h:tq p=tq q):p=q:=by
 unfold tq at h;injection h with h1 h2;injection h2 with h2 _;show Prod.ext (P7 (Sum.inr.inj h1)) (kB h2)
theorem cN {p F:Bool×Int} {b D:Int} (h:bq p b=bq F D):p=F/\b=D:=by
 unfold bq at h;injection h with h1 h2;injection h2 with h2 q;injection q with q _;show⟨Prod.ext (P7 (Sum.inr.inj h1)) (kB h2),kB q⟩
def pl (e:Ho) (x:Int):Bool×Int:=if e.k=true then (true,x) else (false,e.n)
def RF (kvs:!(!Key×V)) (q:!Key):Int:=match SC kvs q with|some (.int i)=>i|_=>0
theorem JP {kvs:!(!Key×V)} {q D:!Key} {j:Int}:RF (zD kvs q (.int j)) D=if D=q then j else RF kvs D:=by
 unfold RF;rw[yN];by_cases c:D=q
 .rw[jA c,jA c]
 .rw[fA c,fA c]
structure Cn (g la:Int) (S:!Sh) (es:!Ho) (ts:!(Bool×Int)) (kvs:!(!Key×V)):Prop where
 pc:PC S es
 h1:∀s∈S,s.h=1
 nn:(S.map Sh.n).Nodup
 sz:∀s∈S,s.xs.length=(pw g).toNat
 ow:∀e∈es,e.k=false->∀y∈e.m,y.1=la
 ek:∀e∈es,e.k=true->e.n=0
 ee:∀e∈es,∀e'∈es,e'.k=e.k->e'.n=e.n->e'=e
 ux:∀e∈es,(e.m.map (·.1)).Nodup
 dn:(es.map Ho.d).Nodup
 tn:ts.Nodup
 tl:∀p,p∈ts↔∃e∈es,∃y∈e.m,pl e y.1=p
 bx:∀e∈es,∀y∈e.m,∀s∈S,s.n=y.2->∀b:Nat,(b:Int) < pw g->s.xs.getD b 0=RF kvs (bq (pl e y.1) b)
 b0:∀p b,p∉ts->RF kvs (bq p b)=0
 bi:∀q v,SC kvs q>v->∃j:Int,v=.int j
def dN (es:!Ho):!(Bool×Int):=(es.map λe=>e.m.map λy=>pl e y.1).flatten
theorem dh (es:!Ho):(dN es).length=(LD es).length:=by
 unfold dN LD;rw[List.length_flatten,List.length_flatten,CA,CA];show congrArg List.sum (IA λe ο=>?_);change (e.m.map _).length=(e.m.map _).length;rw[iA,iA]
theorem Q7 {es:!Ho} {p:Bool×Int}:p∈dN es↔∃e∈es,∃q∈e.m,pl e q.1=p:=by
 unfold dN;simp only[List.mem_flatten,cA];constructor
 .rintro⟨l,⟨e,D,rfl⟩,hk⟩;let(q,F,rfl):=cA.mp hk;show(e,D,q,F,rfl)
 .rintro⟨e,D,q,F,rfl⟩;show(_,(e,D,rfl),cA.mpr (q,F,rfl))
theorem pR {J:Int} {e q:Ho} {x F:Int} (h:pl e x=pl q F) (o:e.k=false->x=J) (o':q.k=false->F=J) (b:e.k=true->e.n=0) (L:q.k=true->q.n=0):e.k=q.k/\e.n=q.n/\x=F:=by
 unfold pl at h;cases hk:e.k<;>cases D:q.k<;>rw[hk,D] at h<;>simp at h
 .show(rfl,h,by rw[o hk,o' D])
 .show(rfl,by rw[b hk,L D],h)
theorem R7 {la:Int}:∀{es:!Ho},(∀e∈es,e.k=false->∀y∈e.m,y.1=la)->(∀e∈es,e.k=true->e.n=0)->(∀e∈es,(e.m.map (·.1)).Nodup)->(es.Pairwise λe e'=>¬(e.k=e'.k/\e.n=e'.n))->(dN es).Nodup
 |[],_,_,_,_=>.nil
 |e::es,h1,h2,h3,h4=>by
  let(h5,h6):=VB.mp h4;let ih:=R7 (es:=es) (λe he=>h1 e (qA _ he)) (λe he=>h2 e (qA _ he)) (λe he=>h3 e (qA _ he)) h6;change ((e.m.map λy=>pl e y.1)++dN es).Nodup;let m0:e∈e::es:=aA ..;show LA.mpr (?_,ih,?_)
  .show List.pairwise_map.mpr ((List.pairwise_map.mp (h3 e m0)).imp_of_mem λ{a b} ha hb hab z=>hab ?_);show (pR z (λhk=>h1 e m0 hk a ha) (λhk=>h1 e m0 hk b hb) (h2 e m0) (h2 e m0)).2.2
  .intro p hp p' hp' z;subst z;let(a,ha,rfl):=cA.mp hp;let(e',he',b,hb,z):=Q7.mp hp';let m1:e'∈e::es:=qA _ he';let(q1,q2,_):=pR z.symm (λhk=>h1 e m0 hk a ha) (λhk=>h1 e' m1 hk b hb) (h2 e m0) (h2 e' m1);show h5 e' he' ⟨q1,q2⟩
section
variable {g la:Int} {S:!Sh} {es:!Ho} {ts:!(Bool×Int)} {kvs:!(!Key×V)}
theorem Cn.sep (h:Cn g la S es ts kvs):es.Pairwise λe q=>¬(e.k=q.k/\e.n=q.n):=by
 show (List.pairwise_map.mp h.dn).imp_of_mem λ{a b} F L J D=>J ?_;rw[h.ee b L a F D.1 D.2]
theorem Cn.nums_nd (h:Cn g la S es ts kvs):(LD es).Nodup:=by
 show List.nodup_iff_count.mpr λk=>?_;by_cases hk:k∈LD es
 .let(e,F,L,J,rfl):=BJ.mp hk;let(s,q,D):=h.pc.liv e F L J;let c:=h.pc.cnt s q;rw[h.h1 s q,D] at c;omega
 .rw[List.count_eq_zero_of_not_mem hk];omega
theorem Cn.count (h:Cn g la S es ts kvs):S.length=ts.length:=by
 let N:(LD es).Perm (S.map Sh.n):=(List.perm_ext_iff_of_nodup h.nums_nd h.nn).mpr λk=>by
  rw[BJ,cA];constructor
  .rintro⟨e,J,U,L,rfl⟩;show h.pc.liv e J U L
  .rintro⟨s,q,rfl⟩;let c:=h.pc.cnt s q;rw[h.h1 s q] at c;have:s.n∈LD es:=List.count_pos_iff.mp ⋯;show BJ.mp this
 let O:(dN es).Perm ts:=(List.perm_ext_iff_of_nodup (R7 h.ow h.ek h.ux h.sep) h.tn).mpr λp=>by rw[Q7,h.tl]
 let D:=N.length_eq;let F:=O.length_eq;rw[dh] at F;rw[iA] at D;omega
end
theorem S7 {m:!(Int×Int)} {es:!Ho} {e:Ho} (h:e∈es):({e with m:=m}:Ho)∈RD e.k e.n m es:=cA.mpr (e,h,jA ⟨rfl,rfl⟩)
theorem T7 {α β:Type}:∀{m:!(α×β)},(m.map (·.1)).Nodup->∀{y y':α×β},y∈m->y'∈m->y.1=y'.1->y=y'
 |[],_,_,_,h,_,_=>by cases h
 |a::m,nd,y,y',h,h',e=>by
  let(n1,n2):=KA.mp nd;let rfl||g:=uA.mp h<;>let rfl||g':=uA.mp h'
  .rfl
  .show absurd (cA.mpr (y',g',e.symm)) n1
  .show absurd (cA.mpr (y,g,e)) n1
  .show T7 n2 g g' e
theorem U7 {α β:Type}:∀{m:!(α×β)},(m.map (·.2)).Nodup->∀{y y':α×β},y∈m->y'∈m->y.2=y'.2->y=y'
 |[],_,_,_,h,_,_=>by cases h
 |a::m,nd,y,y',h,h',e=>by
  let(n1,n2):=KA.mp nd;let rfl||g:=uA.mp h<;>let rfl||g':=uA.mp h'
  .rfl
  .show absurd (cA.mpr (y',g',e.symm)) n1
  .show absurd (cA.mpr (y,g,e)) n1
  .show U7 n2 g g' e
theorem V7:∀{es:!Ho},(LD es).Nodup->∀{e e':Ho} {y y':Int×Int},e∈es->e'∈es->y∈e.m->y'∈e'.m->y.2=y'.2->e=e'/\y=y'
 |[],_,_,_,_,_,h,_,_,_,_=>by cases h
 |a::es,nd,e,e',y,y',h,h',hy,hy',q=>by
  let nd:(a.m.map (·.2)++LD es).Nodup:=nd;let(n1,n2,n3):=LA.mp nd;let rfl||g:=uA.mp h<;>let rfl||g':=uA.mp h'
  .show⟨rfl,U7 n1 hy hy' q⟩
  .show absurd q (n3 _ (cA.mpr (y,hy,rfl)) _ (BJ.mpr (e',g',y',hy',rfl)))
  .show absurd q.symm (n3 _ (cA.mpr (y',hy',rfl)) _ (BJ.mpr (e,g,y,hy,rfl)))
  .show V7 n2 g g' hy hy' q
section
variable {g la:Int} {S:!Sh} {es:!Ho} {ts:!(Bool×Int)} {kvs:!(!Key×V)}
theorem Cn.pl_uq (h:Cn g la S es ts kvs) {e D:Ho} {J L:Int×Int} (F:e∈es) (N:D∈es) (O:J∈e.m) (U:L∈D.m) (q:pl e J.1=pl D L.1):e=D/\J=L:=by
 let(V,W,Y):=pR q (λk=>h.ow e F k J O) (λk=>h.ow D N k L U) (h.ek e F) (h.ek D N);obtain rfl:=h.ee D N e F V W;show⟨rfl,T7 (h.ux _ F) O U Y⟩
theorem Cn.box (h:Cn g la S es ts kvs) {e:Ho} {x:Int} {s:Sh} {b:Nat} {v:Int} (O:e∈es) (Z:s∈S) (U:(x,s.n)∈e.m) (a9:(b:Int) < pw g):Cn g la (CJ S s b v) es ts (zD kvs (bq (pl e x) b) (.int v)):=by
 let a1:∀u∈CJ S s b v,∃D∈S,u.n=D.n/\u.h=D.h/\u.xs=if D.n=s.n then s.xs.set b v else D.xs:=λu F=>by
  let(D,h0,rfl):=cA.mp F;by_cases c:D.n=s.n
  .rw[jA c];show(D,h0,rfl,rfl,(jA c).symm)
  .rw[fA c];show(D,h0,rfl,rfl,(fA c).symm)
 show(h.pc.box,λu F=>?_,by unfold CJ;rw[i7];show h.nn,λu F=>?_,h.ow,h.ek,h.ee,h.ux,h.dn,h.tn,h.tl,λa5 W a4 a0 u F a7 L a2=>?_,λp L a3=>?_,λq w N=>?_)
 .let(D,h0,_,q,_):=a1 u F;rw[q];show h.h1 D h0
 .let(D,h0,_,_,q):=a1 u F;rw[q]
  split
  .rw[List.length_set];show h.sz s Z
  .show h.sz D h0
 .let(D,h0,a8,_,q):=a1 u F;let Y:D.n=a4.2:=a8.symm.trans a7;rw[q,JP];by_cases c:D.n=s.n
  .let(rfl,rfl):=V7 h.nums_nd W O a0 U (Y.symm.trans c);rw[jA c];let ab:=h.sz s Z;let a6:b < s.xs.length:=⋯;by_cases V:L=b
   .subst V;rw[jA rfl,OA,List.getElem?_set_self a6];rfl
   .rw[fA (λJ=>V (by have:=(cN J).2;omega)),OA,List.getElem?_set_ne (λJ=>V J.symm),<-OA];show h.bx _ O _ U s Z rfl L a2
  .rw[fA c,fA]
   .show h.bx a5 W a4 a0 D h0 Y L a2
   .intro J;let(_,rfl):=h.pl_uq W O a0 U (cN J).1;show c Y
 .rw[JP,fA]
  .show h.b0 p L a3
  .intro J;show a3 ((h.tl p).mpr (e,O,_,U,(cN J).1.symm))
 .rw[yN] at N;by_cases c:q=bq (pl e x) b
  .rw[jA c] at N;show⟨v,(rA N).symm⟩
  .rw[fA c] at N;show h.bi q w N
theorem Cn.hit (h:Cn g la S es ts kvs) {e:Ho} {x:Int} (D:e∈es) (U:e.k=false->x=la):pl e x∈ts↔vD e x≠none:=by
 constructor
 .intro L;let(F,J,N,O,q):=(h.tl _).mp L;let(V,W,Y):=pR q (λk=>h.ow F J k N O) U (h.ek F J) (h.ek e D);obtain rfl:=h.ee e D F J V W;subst Y;rw[(KH (h.ux _ D)).mpr (show (N.1,N.2)∈_ from O)];show λZ=>nomatch Z
 .intro L;cases q:vD e x with
  |none=>show absurd q L
  |some k=>show (h.tl _).mpr (e,D,_,(KH (h.ux _ D)).mp q,rfl)
set_option tactic.hygienic true in
theorem Cn.new (h:Cn g la S es ts kvs) {e:Ho} {x made:Int} {a:Addr} (he:e∈es) (hx:vD e x=none) (hl:e.k=false->x=la) (hb:∀s∈S,s.n < made):Cn g la (S++[(made,a,List.replicate (pw g).toNat 0,1)]) (RD e.k e.n (e.m++[(x,made)]) es) (ts++[pl e x]) kvs:=by
 let hp:pl e x∉ts:=λz=>(h.hit he hl).mp z hx;let inv:∀e'∈RD e.k e.n (e.m++[(x,made)]) es,∃u∈es,e'.k=u.k/\e'.n=u.n/\((u=e/\e'={e with m:=e.m++[(x,made)]})\/(u=e'/\e'≠e)):=λe' he'=>by
  let(u,hu,k1,k2,rfl)||(hu,q):=yV he'
  .obtain rfl:=h.ee e he u hu k1 k2;show(_,hu,rfl,rfl,.inl ⟨rfl,rfl⟩)
  .show(e',hu,rfl,rfl,.inr ⟨rfl,λz=>q (by rw[z];show⟨rfl,rfl⟩)⟩)
 let inm:∀e'∈RD e.k e.n (e.m++[(x,made)]) es,∀y∈e'.m,(e'={e with m:=e.m++[(x,made)]}/\y=(x,made))\/∃u∈es,y∈u.m/\u.k=e'.k/\u.n=e'.n:=λe' he' y hy=>by
  let(u,hu,k1,k2,(rfl,rfl)||(rfl,_)):=inv e' he'
  .let q||q:=kA.mp hy
   .show .inr (_,hu,q,rfl,rfl)
   .show .inl ⟨rfl,bA.mp q⟩
  .show .inr (_,hu,hy,rfl,rfl)
 let plk:∀{u e':Ho} {z:Int},u.k=e'.k->u.n=e'.n->pl u z=pl e' z:=λk1 k2=>by unfold pl;rw[k1,k2]
 show(h.pc.more h.dn (λe' he'=>h.ee e he e' he') he hb,λs hs=>?_,?_,λs hs=>?_,λe' he' hk y hy=>?_,λe' he' hk=>?_,λe1 h1 e2 h2 k1 k2=>?_,λe' he'=>?_,by rw[xV];show h.dn,?_,λp=>?_,λe' he' y hy s hs hn b hb'=>?_,λp b hp'=>h.b0 p b λz=>hp' (EA _ z),h.bi)
 .let q||q:=kA.mp hs
  .show h.h1 s q
  .rw[bA.mp q]
 .rw[nA];show LA.mpr (h.nn,KA.mpr ⟨by simp,.nil⟩,?_);intro i hi j hj z;let(s,hs,rfl):=cA.mp hi;let hj:j=made:=bA.mp hj;have:=hb s hs;omega
 .let q||q:=kA.mp hs
  .show h.sz s q
  .rw[bA.mp q];show qB
 .let(rfl,rfl)||(u,hu,q,k1,_):=inm e' he' y hy
  .show hl hk
  .show h.ow u hu (k1.trans hk) y q
 .let(u,hu,k1,k2,_):=inv e' he';rw[k2];show h.ek u hu (k1 ▸ hk)
 .let(u1,g1,a1,b1,c1):=inv e1 h1;let(u2,g2,a2,b2,c2):=inv e2 h2;let hu:=h.ee u1 g1 u2 g2 (by rw[<-a1,<-a2];show k1) (by rw[<-b1,<-b2];show k2);let(rfl,rfl)||(rfl,n1):=c1<;>let(r2,rfl)||(r2,n2):=c2
  .rfl
  .show absurd (r2.symm.trans hu) n2
  .show absurd (hu.symm.trans r2) n1
  .rw[<-r2,hu]
 .let(u,hu,_,_,(rfl,rfl)||(rfl,_)):=inv e' he'
  .change ((_++[(x,made)]).map (·.1)).Nodup;rw[nA];show LA.mpr (h.ux _ hu,KA.mpr ⟨by simp,.nil⟩,?_);intro i hi j hj z;let(y,hy,rfl):=cA.mp hi;let hj:j=x:=bA.mp hj;rw[(KH (h.ux _ hu)).mpr (show (x,y.2)∈_ by rw[<-hj,<-z];show hy)] at hx;cases hx
  .show h.ux _ hu
 .show LA.mpr (h.tn,KA.mpr ⟨by simp,.nil⟩,?_);intro i hi j hj z;rw[bA.mp hj] at z;show hp (z ▸ hi)
 .rw[kA,bA];constructor
  .rintro (q|rfl)
   .let(u,hu,y,hy,q):=(h.tl p).mp q;show(_,cA.mpr (u,hu,rfl),y,?_,?_)
    .split
     .rename_i c;obtain rfl:=h.ee e he u hu c.1 c.2;show EA _ hy
     .show hy
    .split
     .show q
     .show q
   .show(_,S7 he,(x,made),vA _ (aA ..),rfl)
  .rintro⟨e',he',y,hy,rfl⟩;let(rfl,rfl)||(u,hu,q,k1,k2):=inm e' he' y hy
   .show .inr rfl
   .show .inl ((h.tl _).mpr (u,hu,y,q,plk k1 k2))
 .let(rfl,rfl)||(u,hu,q,k1,k2):=inm e' he' y hy
  .let q||q:=kA.mp hs
   .have:=hb s q;let hn:s.n=made:=hn;omega
   .rw[bA.mp q];change (List.replicate (pw g).toNat (0:Int)).getD b 0=RF kvs (bq (pl e x) b);rw[h.b0 _ _ hp,OA,bC]
    split<;>rfl
  .let r||r:=kA.mp hs
   .rw[<-plk k1 k2];show h.bx u hu y q s r hn b hb'
   .let(s0,h0,r0):=h.pc.liv u hu y q;have:=hb s0 h0;rw[bA.mp r] at hn;let hn:made=y.2:=hn;omega
end
theorem W7 {p b s:Int} (h0:0<=b) (h1:b < s):(p * s+b) / s=p/\(p * s+b) % s=b:=by
 let e:(p * s+b) / s=p:=by rw[Int.add_comm,Int.add_mul_ediv_right _ _ ⋯,Int.ediv_eq_zero_of_lt h0 h1];omega
 show⟨e,by rw[Int.emod_def,e,Int.mul_comm s p];omega⟩
theorem YD.xt {A:rD} {B H:Hp} {q:Hz} {l f g:Int} {J:!Tk} {bk:Kvs} (h:YD A B q l f g J bk) (k:∀c o,B c>o->H c>o\/∃p,o=.ext p):YD A H q l f g J bk:=by
 let(L,e):=h.me;let(O,es):=id h.sh;let D:∀{c o},B c>o->(∀p,o≠.ext p)->H c>o:=λh n=>(k _ _ h).elim id λ⟨p,e⟩=>absurd e (n p);let a2:∀{v:V} {r:Rn},tD B v r->tD H v r:=λ{v r} h=>by
  let(a,a3,e,h1,h2):=h;show(a,a3,e,D h1 (λο q=>nomatch q),?_);cases F:r.t with
  |none=>rw[F] at h2;show h2
  |some t=>rw[F] at h2;let(a,e,h):=h2;show(a,e,D h (λο q=>nomatch q))
 show(⟨L,D e (λο q=>nomatch q)⟩,⟨O,D es (λο q=>nomatch q)⟩,D h.t (λο q=>nomatch q),D h.b (λο q=>nomatch q),λt a1=>?_,h.nd,h.nk,h.vb,h.ne,h.np);let(a,(N,vs,U,W,Y),Z):=h.st t a1;show(a,(N,vs,D U (λο q=>nomatch q),D W (λο q=>nomatch q),NI Y λv p a0=>a2 a0),Z)
theorem RH.tup {A:rD} {B H H':Hp} {r:Ro} {q:Hz} {l f g:Int} {W:!Tk} {bk:Kvs} {made:Int} {S:!Sh} {es:!Ho} (D:RH A B H r q l f g W bk made S es) (L:Fb S r es H H') {c:Addr} {vs:!V} (h:H c>(.tup vs)):H' c>(.tup vs):=by
 let(Y,h1):=D.s.me;show L _ _ h (cD h h1 nofun) (cD h D.s.s nofun) (cD h D.s.h nofun) (λq=>by
  let(J,O,N):=cA.mp q;let F:=D.pe J O;rw[N,h] at F;cases F) (λs U=>cD h (D.s.x s U) nofun)
section
variable {A:rD} {B H H':Hp} {r:Ro} {z:Hz} {l f g:Int} {tks:!Tk} {bk:Kvs} {made:Int} {S:!Sh} {es:!Ho} {bd:Addr} {x:Str} {v:V} {kvs kvs':!(!Key×V)}
theorem RH.fbn (D:RH A B H r z l f g tks bk made S es) (q:Fb S r es H H') {c:Addr} {o:HO} (U:¬iG r z S es c) (h:H c>o):H' c>o:=by
 let(F,(J,L,_),N,O):=D.no U;show q _ _ h F J L N O
theorem RH.mix (D:RH A B H r z l f g tks bk made S es) (no:¬iG r z S es bd) (m:yD P w H bd x v kvs) (W:yD P w H' bd x v kvs') (k:∀c o,c≠bd->H c>o->H' c>o):RH A B H' r z l f g tks bk made S es:=by
 let kd:Kd bd H H':=λc o U V=>k c o V U;obtain⟨o',J⟩:∃o',H' bd>o':=by
  let(_,_,_,_,_,_,_,(h,_)||h):=W
  .show⟨_,h⟩
  .show⟨_,h⟩
 let(_,_,_,_,_,_,_,(h,_)||h):=m
 .show D.kd h no (.inl ⟨_,rfl⟩) kd J
 let(Y,(Z,a0,a1,a2,a5,a6),a3,a4):=D.no no;let(N,h1):=D.s.me;show(D.h.xt λb u e=>?_,D.gd,D.ho,D.sh,(⟨N,kd _ _ h1 Y.symm⟩,kd _ _ D.s.s Z.symm,kd _ _ D.s.h a0.symm,λs L=>kd _ _ (D.s.x s L) (a4 s L).symm,D.s.nd,D.s.nn,D.s.b,D.s.ne),kd _ _ D.pd a1.symm,kd _ _ D.bd a2.symm,λe F=>kd _ _ (D.pe e F) (λq=>a3 (cA.mpr (e,F,q))),D.nm,D.bm,D.bn,D.nd,D.ob,λb O=>D.dm b (OI kd J b O),D.sz,D.ux);by_cases c:b=bd
 .subst c;rw[h] at e;show .inr ⟨_,(rA e).symm⟩
 .show .inl (kd _ _ e c)
end
theorem qR {kvs:!(!Key×V)} {q:!Key} (h:∀q v,SC kvs q>v->∃j:Int,v=.int j):(SC kvs q).getD (.int 0)=.int (RF kvs q):=by
 unfold RF;cases e:SC kvs q with
 |none=>rfl
 |some v=>let(i,rfl):=h _ _ e;rfl
def LH (p:Bool×Int) (ts:!(Bool×Int)):!(Bool×Int):=if p∈ts then ts else ts++[p]
def X7 (P:Program) (w:World) (A:rD):Sp:=λvs H Q ο=>∃(B:Hp) (r:Ro) (z:Hz) (l f g:Int) (tks:!Tk) (bk:Kvs) (made:Int) (S:!Sh) (es:!Ho) (ts:!(Bool×Int)) (kvs:!(!Key×V)) (la:Int) (lv:V) (bd kt:Addr) (t:Tk) (n x y c:Int) (b:Nat) (e p:Ho),vs=[.ref r.p,.int n,.int (x * pw g+b),.ref bd,.ref kt,.int c]/\Cn g la S es ts kvs/\yD P w H bd "last" lv kvs/\¬iG r z S es bd/\H kt>(.tup ((bq (pl e y) b).map kV))/\(∀wn,Builtin.bitAnd 3 wn=wn->uH A wn B H r z l f g tks bk made S es t n (x * pw g+b) e)/\WC t x=(e.k,(e.n,y))/\(e.k=false->y=la)/\p∈es/\p.k=false/\p.n=n/\p.m.length < 9000/\(p=e\/vD p x=none)/\(b:Int) < pw g/\(S.length:Int) < r.most/\kvs.length < 9999/\
 ∀made' S' es' kvs' H',RH A B H' r z l f g tks bk made' S' es'->Cn g la S' es' (LH (pl e y) ts) kvs'->yD P w H' bd "last" lv kvs'->kvs'.length<=kvs.length+1->es'.map (λe=>(e.k,(e.n,e.d)))=es.map (λe=>(e.k,(e.n,e.d)))->(∀e'∈es',∃u∈es,e'.m.length<=u.m.length+1)->(∀c o,H c>o->¬iG r z S es c->c≠bd->H' c>o)->Q (.bl true) H'
theorem KP (T:CD K mg A):pE P w K mg base "_law_access" 11 ["_law_rooms","_law_task","_law_address","_law_boxes","_law_key","_law_cell"] [] (X7 P w A):=by
 let ck:=@O7 P w K mg base A T;let ch:=@AV P w K mg base A T;show T.J4.have jf (λvs H Q E F=>?_) ?_
 .let(B,r,F,l,f,g,ar,bk,made,S,es,ts,kvs,d3,ac,bd,c3,t,n,x,D,c,b,e,p,rfl,_):=F;rfl
 .intro f dd d9 dn s H vs Q E a2 F;let(B,r,F,l,av,g,ar,bk,made,S,es,ts,kvs,d3,ac,bd,c3,t,n,x,D,c,b,e,p,rfl,L,cq,ax,cv,b5,cw,ab,cx,cz,d2,d0,cy,ap,bp,cu,q):=F;show(_,(aD (ME (yF fI (XD ck (-a2) ZC (EC (BC 5) (EC NC (EC NC IC)))) NC (UC _)) (bD (PD (XD ch (-a2) ZC (EC (GD (BC 0) T.Ac (yg T) (-a2) ZC (EC (BC 1) (EC (BC 2) IC))) (EC (IS (P:=P) (w:=w) rfl rfl (bE a2) (BC 3) (BC 4) NC (rfl,rfl,rfl,rfl)) IC))))) OE)
   (aD (JS (P:=P) (w:=w) rfl rfl (bE a2) (BC 3) (BC 4) (KD OH (BC 5) (KD rL NC NC)) rfl)
   (bD (PD (PH gI (GD (BC 0) T.Ac (l7 T) (-a2) ZC (EC (BC 1) (EC (BC 2) (EC (Z3 (P:=P) (w:=w) rfl rfl (bE a2) (BC 3) (BC 4) (λο ο=>rfl)) IC)))) CG (UC _)))))),?_)
  unfold sp_part sp_whole;rfl';intro v cl dl dm W;let(ao,aw,bw,br,d1,be,bt,N,bl,bm,bo):=b5 1 (by decide);let(b2,cp):=W7 (p:=x) (Int.natCast_nonneg b) ap;let(b3,h1):=ao.s.me;let a3:=ao.same W;let a6:yD P w cl bd "last" ac kvs:=cq.keep λc o ο h=>W c o h;let a1:=W _ _ cv;let bh:∀{k},vD e D>k->∃s∈S,k=s.n/\(D,s.n)∈e.m:=λ{k} J=>by
   let a4:=(KH (L.ux e N)).mp J;let(s,Y,b4):=aw.liv e N _ a4;show(s,Y,b4.symm,by rw[b4];show a4)
  let c0:vD e D≠none->LH (pl e D) ts=ts:=λJ=>jA ((L.hit N ab).mpr J);let bz:vD e D=none->LH (pl e D) ts=ts++[pl e D]:=λJ=>fA λF=>(L.hit N ab).mp F J;let bn:(WC t ((x * pw g+(b:Int)) / pw g)).2.2=D:=by rw[b2,cw]
  let bi:((x * pw g+(b:Int)) % pw g).toNat=b:=by rw[cp];show OB b
  let ay:∀{au b0:Hp} {c4:!(!Key×V)},RH A B au r F l av g ar bk made S es->Fb S r es au b0->yD P w au bd "last" ac c4->yD P w b0 bd "last" ac c4:=λbb O m=>m.keep λc o cr h=>by
   let rfl||(ys,rfl):=cr
   .show bb.fbn O ax h
   .show bb.tup O h
  let knd:∀{m:!(Int×Int)},(RD e.k e.n m es).map (λe=>(e.k,(e.n,e.d)))=es.map (λe=>(e.k,(e.n,e.d))):=λ{m}=>by
   unfold RD;rw[CA];show IA λu ο=>?_;change (λe:Ho=>(e.k,(e.n,e.d))) (if _ then _ else _)=_
   split<;>rfl
  let c2:∀{k:Int},∀Z∈RD e.k e.n (e.m++[(D,k)]) es,∃u∈es,Z.m.length<=u.m.length+1:=λ{k} Z a9=>by
   let(u,c1,_,_,rfl)||(c1,_):=yV a9
   .show(e,N,by change (e.m++[(D,k)]).length<=_;rw[xA];show yA _)
   .show(Z,c1,Nat.le_succ _)
  show pI (λh=>?_) (λh=>?_)
  .show(b3,_,W _ _ h1,FE ∅,uK B r F l av g ar bk made S es t n _ e (rfl,(a3,aw,bw,br,d1,be,bt,N,bl,bm,bo),?_));rw[bn,bi];cases J:vD e D with
   |some k=>
    let(s,Y,rfl,a4):=bh J;show .inl (s,Y,rfl,λU aq=>?_);let a0:yD P w U bd "last" ac kvs:=a6.keep λc o ο h=>aq c o h;unfold mF;rfl';show((_,_,_,a0),_,_,_,a0,_,aq _ _ a1,_,qR L.bi,?_);rw[pA (L.bx e N _ a4 s Y rfl b ap)];show q made S es kvs U (a3.same aq) (by rw[c0 (by rw[J];show λF=>nomatch F)];show L) a0 ⋯ rfl (λZ a9=>(Z,a9,⋯)) λc o h ο ο=>aq _ _ (W _ _ h)
   |none=>
    show .inr (.inr (rfl,bp,λb1 U a7 O=>?_));let a0:=ay a3 O a6;unfold mF;rfl';show((_,_,_,a0),_,_,_,a0,_,a3.tup O a1,_,qR L.bi,?_);rw[pA (show (0:Int)=RF kvs (bq (pl e D) b) from (L.b0 _ _ λF=>(L.hit N ab).mp F J).symm)];show q _ _ _ kvs U a7 (by rw[bz J];show L.new N J ab ao.s.b) a0 ⋯ knd c2 λc o h ad ο=>a3.fbn O ad (W _ _ h)
  .unfold yG pH;rfl';show(_,_,_,a6,_,a1,cu,λcn ah a5 ο=>?_);generalize dk:c % 1000000000000000000000000000000000000000000000000000000000000=vv at *;let a8:=a3.mix ax a6 ah a5;let cs:cn c3>(.tup ((bq (pl e D) b).map kV)):=a5 _ _ (λF=>by
    rw[F] at a1;let(_,_,_,_,_,_,_,(h,_)||h):=a6
    .rw[a1] at h;cases h
    .rw[a1] at h;cases h) a1
   let c9:=DL kvs (bq (pl e D) b) (.int vv);show(b3,_,a5 _ _ (λF=>ax (.inl F.symm)) (W _ _ h1),FE ∅,_,_,_,ah,.inr (_,cs,_,(by rw[yN,jA rfl]),?_));show (WO B r F l av g ar bk made S es t n _ vv e p (rfl,(a8,aw,bw,br,(b5 2 (by decide)).2.2.2.2.1,be,bt,N,bl,bm,bo),cx,cz,d2,d0,by rw[b2];show cy,?_));rw[bn,bi];cases J:vD e D with
   |some k=>
    let(s,Y,rfl,a4):=bh J;show .inl (s,Y,rfl,.inl (by have:=L.h1 s Y;omega),λU a7 O=>?_);change Q (V.bl (decide (V.non=V.non))) U;rw[pA rfl];show q _ _ _ _ U a7 (by rw[c0 (by rw[J];show λF=>nomatch F)];show L.box N Y a4 ap) (ay a8 O ah) c9 rfl (λZ a9=>(Z,a9,⋯)) λc o h ad az=>a8.fbn O ad (a5 _ _ az (W _ _ h))
   |none=>
    show .inr (.inr (.inr (.inr (rfl,bp,λb1 U a7 O=>?_))));change Q (V.bl (decide (V.non=V.non))) U;rw[pA rfl];show q _ _ _ _ U a7 (by rw[bz J];show (L.new N J ab ao.s.b).box (e:={e with m:=e.m++[(D,made)]}) (S7 N) (s:=(made,b1,List.replicate (pw g).toNat 0,1)) (vA _ (aA ..)) (x:=D) (show (D,made)∈e.m++[(D,made)] from vA _ (aA ..)) ap) (ay a8 O ah) c9 knd c2 λc o h ad az=>a8.fbn O ad (a5 _ _ az (W _ _ h))
set_option genInjectivity false in
structure AG where
 n:Int
 x:Int
 k:Int
 st:Int
def RI (s:AG):!V:=[.int s.n,.int s.x,.int s.k,.int s.st]
def BV (H:Hp) (us:!V) (sp:!AG):Prop:=us.length=sp.length/\∀(i:Nat) (s:AG),sp[i]?>s->∃a,us[i]?=↑a/\H a>(.tup (RI s))
def WF (ts:!(Bool×Int)):!(!Key×V):=ts.map λp=>(tq p,V.bl true)
theorem LP {ts:!(Bool×Int)} {p:Bool×Int}:zD (WF ts) (tq p) (.bl true)=WF (LH p ts):=by
 unfold zD LH;let e:((WF ts).any λq=>decide (q.1=tq p))=true↔p∈ts:=by
  rw[List.any_eq_true];constructor
  .rintro⟨q,hk,e⟩;let(F,D,rfl):=cA.mp hk;rw[<-bN (EB e)];show D
  .intro h;show(_,cA.mpr (p,h,rfl),pA rfl)
 by_cases c:p∈ts
 .rw[jA (e.mpr c),jA c];show (IA λq hk=>?_).trans (List.map_id _);let(F,D,rfl):=cA.mp hk
  split<;>rfl
 .rw[fA (λJ=>c (e.mp J)),fA c];unfold WF;rw[nA];rfl
structure Sk (l f la:Int) (tks:!Tk) (sp:!AG):Prop where
 len:sp.length=3\/sp.length=5
 sr:∀s∈sp,1<=s.k/\0<=s.x/\s.x+s.k<=la/\∃t∈tks,t.n=s.n/\∀j,0<=j->j < s.k->pm t.rs (s.x+j)>(3,some (0,s.st+j))
 ow:∀n,n=0\/(n=2/\sp.length=5)->∃t∈tks,t.n=n/\pm t.rs la>(3,none)
 la:0<=la/\la < pw (l * f)
structure St (P:Program) (w:World) (A:rD) (G0 B H:Hp) (r:Ro) (z:Hz) (l f g:Int) (tks:!Tk) (many made:Int) (S:!Sh) (es:!Ho) (ts:!(Bool×Int)) (kvs:!(!Key×V)) (la:Int) (td bd sl:Addr) (us:!V) (sp:!AG) (i j:Int):Prop where
 rh:RH A B H r z l f g tks [(inl 0,.int many)] made S es
 cn:Cn g la S es ts kvs
 mx:yD P w H bd "last" (.int (la * pw g)) kvs
 htd:H td>(.dT (WF ts))
 hsl:H sl>(.lst us)
 hus:BV H us sp
 nb:B bd≠none/\B td≠none/\B sl≠none
 sk:Sk l f la tks sp
 mo:r.most=64
 si:(S.length:Int)<=i
 ml:∀e∈es,(e.m.length:Int)<=i
 kj:(kvs.length:Int)<=j
 k0:∀c o,G0 c>o->H c>o/\B c≠none/\c≠bd/\c≠td
 n1:(false,1)∉ts
section
variable {A:rD} {G0 B H H':Hp} {r:Ro} {z:Hz} {l f g:Int} {tks:!Tk} {many made:Int} {S:!Sh} {es:!Ho} {ts:!(Bool×Int)} {kvs:!(!Key×V)} {la:Int} {td bd sl:Addr} {us:!V} {sp:!AG} {i j:Int}
theorem St.asks (h:St P w A G0 B H r z l f g tks many made S es ts kvs la td bd sl us sp i j) (hi:i<=63) {t:Tk} {e:Ho} {x Z:Int} {b:Nat} (V:t∈tks) (J:e∈es) (O:(b:Int) < pw g) (Y:0<=x/\x<=la) {ty:Option (Int×Int)} (U:pm t.rs x>(3,ty)) (L:WC t x=(e.k,(e.n,Z))):∀D,RH A B D r z l f g tks [(inl 0,.int many)] made S es->∀q,Builtin.bitAnd 3 q=q->uH A q B D r z l f g tks [(inl 0,.int many)] made S es t t.n (x * pw g+b) e:=by
 let(F,a0):=W7 (p:=x) (Int.natCast_nonneg b) O;let a2:=h.si;let a3:=h.ml e J;let a1:=h.sk.la;intro D N q W;show(N,h.cn.pc,V,rfl,(3,ty,by rw[F];show U,W),?_,⋯,J,by rw[F,L],by rw[F,L],⋯);show⟨Int.add_nonneg (Int.mul_nonneg Y.1 ⋯) ⋯,?_⟩;have:(x+1) * pw g<=pw (l * f) * pw g:=Int.mul_le_mul_of_nonneg_right ⋯ ⋯;rw[Int.add_mul,Int.one_mul] at this;omega
theorem St.bank (h:St P w A G0 B H r L l f g tks many made S es ts kvs la td bd sl us sp i j) (hi:i<=63) {s:AG} {k:Int} {b:Nat} (a5:s∈sp) (a3:0<=k) (a4:k < s.k) (a1:(b:Int) < pw g):
  ∃t e p,t.n=s.n/\(∀W,RH A B W r L l f g tks [(inl 0,.int many)] made S es->∀V,Builtin.bitAnd 3 V=V->uH A V B W r L l f g tks [(inl 0,.int many)] made S es t s.n ((s.x+k) * pw g+b) e)/\WC t (s.x+k)=(e.k,(e.n,s.st+k))/\(e.k=false->s.st+k=la)/\p∈es/\p.k=false/\p.n=s.n/\p.m.length < 9000/\(p=e\/vD p (s.x+k)=none)/\pl e (s.st+k)=(true,s.st+k):=by
 let(a8,a9,ab,t,Z,U,J):=h.sk.sr s a5;let(p,F,a0,a6,_):=h.rh.pv Z;let a2:(inl 0:Key)∈(tF es).map λe=>(inl e.n:Key):=by rw[h.rh.bm];show aA ..
 let(e,O,N):=cA.mp a2;let(O,D):=HA.mp O;let N:e.n=0:=kB N;let D:e.k=true:=D;let J:=J k a3 a4;let Y:WC t (s.x+k)=(e.k,(e.n,s.st+k)):=by unfold WC;rw[J,D,N];rfl
 let a7:=h.ml p F;show(t,e,p,U,by rw[<-U];show h.asks hi Z O a1 ⟨⋯,⋯⟩ J Y,Y,λL=>absurd (D.symm.trans L) (by decide),F,a0,a6.trans U,⋯,.inr ?_,by unfold pl;rw[jA D]);cases q:vD p (s.x+k) with
 |none=>rfl
 |some c=>
  have:=h.cn.ow p F a0 _ ((KH (h.cn.ux p F)).mp q);have:s.x+k=la:=this;omega
theorem St.own (h:St P w A G0 B H r z l f g tks many made S es ts kvs la td bd sl us sp i j) (hi:i<=63) {n:Int} {b:Nat} (Y:n=0\/(n=2/\sp.length=5)) (W:(b:Int) < pw g):
  ∃t e,t.n=n/\(∀N,RH A B N r z l f g tks [(inl 0,.int many)] made S es->∀L,Builtin.bitAnd 3 L=L->uH A L B N r z l f g tks [(inl 0,.int many)] made S es t n (la * pw g+b) e)/\WC t la=(e.k,(e.n,la))/\e∈es/\e.k=false/\e.n=n/\e.m.length < 9000/\pl e la=(false,n):=by
 let(t,V,q,U):=h.sk.ow n Y;let(p,D,F,J,_):=h.rh.pv V;let O:WC t la=(p.k,(p.n,la)):=by unfold WC;rw[U,F,J];rfl
 let a0:=h.ml p D;let Z:=h.sk.la;show(t,p,q,by rw[<-q];show h.asks hi V D W ⟨⋯,⋯⟩ U O,O,D,F,J.trans q,⋯,by unfold pl;rw[fA (by rw[F];decide),J,q])
end
theorem RH.nt {A:rD} {B H:Hp} {r:Ro} {F:Hz} {l f g:Int} {L:!Tk} {bk:Kvs} {made:Int} {S:!Sh} {es:!Ho} (h:RH A B H r F l f g L bk made S es) {c:Addr} {xs:!V} (D:H c>(.tup xs)):¬iG r F S es c:=by
 let(N,h1):=h.s.me;rintro (rfl|q|⟨s,hs',rfl⟩)
 .rw[h1] at D;cases D
 .unfold qF at q;simp only[uA] at q;let rfl||rfl||rfl||rfl||rfl||rfl||q:=q
  .rw[h.s.s] at D;cases D
  .rw[h.s.h] at D;cases D
  .rw[h.pd] at D;cases D
  .rw[h.bd] at D;cases D
  .rw[h.h.t] at D;cases D
  .rw[h.h.b] at D;cases D
  .let(e,J,rfl):=cA.mp q;rw[h.pe e J] at D;cases D
 .rw[h.s.x s hs'] at D;cases D
theorem TH {H:Hp} {a c:Addr} {x:Str} {v:V} {kvs:!(!Key×V)} {o:HO} (m:yD P w H a x v kvs) (q:H c>o) (D:∀k,o≠.dK k) (F:∀p,o≠.ext p):c≠a:=λe=>by
 subst e;let(_,_,_,_,_,_,_,(h,_)||h):=m
 .show D _ (rA (q.symm.trans h))
 .show F _ (rA (q.symm.trans h))
theorem Y7 {p q:Bool×Int} {ts:!(Bool×Int)} (h:q∈LH p ts):q∈ts\/q=p:=by
 unfold LH at h
 split at h
 .show .inl h
 .show (kA.mp h).imp id bA.mp
theorem fh {p:Bool×Int} {ts:!(Bool×Int)}:(LH p ts).length<=ts.length+1:=by
 unfold LH
 split
 .show Nat.le_succ _
 .rw[xA];show yA _
theorem St.go {A:rD} {ad B H X:Hp} {r:Ro} {D:Hz} {l f g:Int} {a1:!Tk} {a3 made:Int} {S:!Sh} {es:!Ho} {ts:!(Bool×Int)} {kvs:!(!Key×V)} {W:Int} {N bd a9:Addr} {us:!V} {sp:!AG} {i j n x F c:Int} {b:Nat} {t:Tk} {e L:Ho} {U:Addr} {Q:VK} {E:XK} (h:St P w A ad B H r D l f g a1 a3 made S es ts kvs W N bd a9 us sp i j) (hi:i < 63) (cl:j<=1000)
  (b1:∀ac,RH A B ac r D l f g a1 [(inl 0,.int a3)] made S es->∀ab,Builtin.bitAnd 3 ab=ab->uH A ab B ac r D l f g a1 [(inl 0,.int a3)] made S es t n (x * pw g+b) e) (bl:WC t x=(e.k,(e.n,F))) (bi:e.k=false->F=W) (bo:L∈es) (br:L.k=false) (bw:L.n=n) (bt:L.m.length < 9000) (bp:L=e\/vD L x=none) (bb:(b:Int) < pw g) (h1:pl e F≠(false,1))
  (a0:∀a o,H a>o->a≠N->X a>o) (aq:X N>(.dT (WF (LH (pl e F) ts)))) (bh:X U=none)
  (q:∀a8 a4 a6 c9 a7 H',St P w A ad B H' r D l f g a1 a3 a8 a4 a6 c9 a7 W N bd a9 us sp (i+1) (j+1)->Q (.bl true) H'):X7 P w A [.ref r.p,.int n,.int (x * pw g+b),.ref bd,.ref U,.int c] (FC X U (.tup ((bq (pl e F) b).map kV))) Q E:=by
 let(c1,au,c2):=h.nb;let kd:Kd N H X:=λa o J bn=>a0 a o J bn;let b5:=h.rh.kd h.htd (h.rh.nb au) (.inr (.inl ⟨_,rfl⟩)) kd aq;let av:=TH h.mx h.htd (λο D=>nomatch D) (λο D=>nomatch D);let c3:=TH h.mx h.hsl (λο D=>nomatch D) (λο D=>nomatch D);let aw:∀{a:Addr} {ys:!V},H a>(.tup ys)->a≠N:=λJ=>cD J h.htd nofun;let c4:a9≠N:=cD h.hsl h.htd nofun;let b3:yD P w X bd "last" (.int (W * pw g)) kvs:=h.mx.keep λa o J ho=>a0 a o ho (by
  let rfl||(ys,rfl):=J
  .show av.symm
  .show aw ho)
 let(Z,b0):=rF (o:=.tup ((bq (pl e F) b).map kV)) bh;let O:=b5.same Z;let ap:yD P w (FC X U (.tup ((bq (pl e F) b).map kV))) bd "last" (.int (W * pw g)) kvs:=b3.keep λa o ο ho=>Z a o ho;let cs:=h.si;let cq:=h.kj;let cp:=h.mo;generalize FC X U (.tup ((bq (pl e F) b).map kV))=Y at *;show (wK B r D l f g a1 _ made S es ts kvs W _ bd U t n x F c b e L (rfl,h.cn,ap,O.nb c1,b0,b1 Y O,bl,bi,bo,br,bw,bt,bp,bb,⋯,⋯,λa8 a4 a6 a7 H' b4 ao b2 co cn bm a2=>q a8 a4 a6 _ a7 H' (b4,ao,b2,a2 _ _ (Z _ _ aq) (O.nb au) av,a2 _ _ (Z _ _ (a0 _ _ h.hsl c4)) (O.nb c2) c3,⟨h.hus.1,λa s bz=>?_⟩,h.nb,h.sk,h.mo,?_,λaz be=>?_,⋯,λa o J=>?_,λD=>(Y7 D).elim h.n1 λD=>h1 D.symm)))
 .let(ax,ay,ah):=h.hus.2 a s bz;let a5:=Z _ _ (a0 _ _ ah (aw ah));show(ax,ay,a2 _ _ a5 (O.nt a5) (TH ap a5 (λο D=>nomatch D) (λο D=>nomatch D)))
 .let cd:=ao.count;let ch:=h.cn.count;let ck:=fh (p:=pl e F) (ts:=ts);omega
 .let(u,c0,cr):=bm az be;have:=h.ml u c0;omega
 .let(k1,k2,k3,ar):=h.k0 a o J;show(a2 _ _ (Z _ _ (a0 _ _ k1 ar)) (O.nb k2) k3,k2,k3,ar)
def fN (P:Program) (w:World) (A:rD):Sp:=λvs H Q ο=>∃(G0 B:Hp) (r:Ro) (z:Hz) (l f g:Int) (tks:!Tk) (many made:Int) (S:!Sh) (es:!Ho) (ts:!(Bool×Int)) (kvs:!(!Key×V)) (la:Int) (td bd sl:Addr) (us:!V) (sp:!AG) (i j c:Int),vs=[.ref r.p,.ref sl,.ref bd,.ref td,.int c,.int (pw g),.int la]/\St P w A G0 B H r z l f g tks many made S es ts kvs la td bd sl us sp i j/\i < 63/\j<=1000/\0 < pw g/\
 ∀made' S' es' ts' kvs' H',St P w A G0 B H' r z l f g tks many made' S' es' ts' kvs' la td bd sl us sp (i+1) (j+1)->Q (.bl true) H'
theorem MP (T:CD K mg A):pE P w K mg base "_law_turn" 12 ["_law_rooms","_law_spans","_law_boxes","_law_touched","_law_cell","_law_size","_law_last"] [] (fN P w A):=by
 let ar:=@O7 P w K mg base A T;show T.K7.have dM (λvs H Q E U=>?_) ?_
 .let(bh,B,r,U,l,f,g,c1,bz,made,S,es,ts,kvs,ao,b0,bd,c0,us,sp,i,j,c,rfl,_):=U;rfl
 .intro f cd c3 cp s H vs Q E Y U;let(bh,B,r,U,l,ch,g,c1,bz,made,S,es,ts,kvs,ao,b0,bd,c0,us,sp,i,j,c,rfl,D,hi,av,br,q):=U;show(_,(aD (SD (i:=7) dM.nd rfl (Or.inl rfl) (XD ar (-Y) ZC (EC (BC 4) (EC NC (EC (KD LF (YF ZI rfl T.Bh PySem.boot_len (EC (BC 1) IC)) NC) IC)))))
   (aD (SD (i:=8) dM.nd rfl (Or.inl rfl) (XD ar (-Y) ZC (EC (BC 4) (EC NC (EC (BC 5) IC)))))
   (aD (ME (yF fI (BC 7) (YF ZI rfl T.Bh PySem.boot_len (EC (BC 1) IC)) (UC _)) (aD (SD (i:=9) dM.nd rfl (Or.inl rfl) NC)
   (aD (ME (PW.pt (YR (yF tL (YF ZI rfl T.Bh PySem.boot_len (EC (BC 1) IC)) NC (UC _)) (WR (yF fI (XD ar (-Y) ZC (EC (BC 4) (EC NC (EC NC IC)))) NC (UC _))))) (bD (SD (i:=9) dM.nd rfl (Or.inl rfl) NC)) OE)
   (aD (gH (bE Y) (BC 3) (dG (EC xF (EC (BC 9) IC))) ZH rfl)
   (bD (PD (XD (KP T) (-Y) ZC (@EC _ _ _ _ _ (BC 0) (@EC _ _ _ _ _ (BC 9) (@EC _ _ _ _ _ (KD LF (KD OJ (BC 6) (BC 5)) (BC 8)) (@EC _ _ _ _ _ (BC 2) (@EC _ _ _ _ _ (dG (EC xF (EC (BC 9) (EC (BC 8) IC)))) (@EC _ _ _ _ _ (BC 4) IC rfl) rfl) rfl) rfl) rfl) rfl))))))) OE)
   (aD (SD (i:=10) dM.nd rfl (Or.inl rfl) (WD lI (BC 1) (BC 7) (λο ο=>rfl)))
   (aD (SD (i:=11) dM.nd rfl (Or.inl rfl) (XD ar (-Y) ZC (EC (BC 4) (EC NC (EC (WD vE (BC 10) NC (λο ο=>rfl)) IC)))))
   (aD (gH (bE Y) (BC 3) (dG (EC xF (EC (KD LF (WD vE (BC 10) NC (λο ο=>rfl)) (BC 11)) IC))) ZH rfl)
   (bD (PD (XD (KP T) (-Y) ZC (@EC _ _ _ _ _ (BC 0) (@EC _ _ _ _ _ (WD vE (BC 10) NC (λο ο=>rfl)) (@EC _ _ _ _ _ (KD LF (KD OJ (KD LF (WD vE (BC 10) NC (λο ο=>rfl)) (BC 11)) (BC 5)) (BC 8)) (@EC _ _ _ _ _ (BC 2) (@EC _ _ _ _ _ (dG (EC xF (EC (KD LF (WD vE (BC 10) NC (λο ο=>rfl)) (BC 11)) (EC (BC 8) IC)))) (@EC _ _ _ _ _ (BC 4) IC rfl) rfl) rfl) rfl) rfl) rfl)))))))))),?_)
  unfold sp_part;rfl';show(_,.inl (_,pD.of D.hsl,rfl),⋯,λv c4 c2 cr bb=>⟨br,λcu b3 bi W be=>(_,.inl (_,pD.of (be _ _ (bb _ _ D.hsl)),rfl),?_)⟩);let(b,rfl):=Int.eq_ofNat_of_zero_le bi;let Z:=bb.trans be;let aw:(WF ts).length < sizeLine:=by
   unfold WF;rw[iA];have:=D.cn.count;have:=D.si;have:=PySem.sizeLine_eq;omega
  let cn:=II D.rh.gd;let cl:=D.sk.len;let co:=D.hus.1;show pI (λh=>(_,.inl (_,pD.of (Z _ _ D.hsl),rfl),pI (λbm=>λcs a1 a0 c9 ap=>pI (λbn=>?_) (λbn=>?_)) (λbm=>?_))) (λh=>?_)
  .unfold kE;rfl';intro O ah;let(t,e,b1,a4,ab,a7,a8,a9,ac,J):=D.own (n:=2) ⋯ (.inr ⟨rfl,⋯⟩) W;let F:JC H a1:=Z.trans ap;let(L,a3):=rF (o:=.tup [V.str "own",V.int 2]) ah;let a6:=L _ _ (F _ _ D.htd);generalize FC a1 O (.tup [V.str "own",V.int 2])=G1 at *;show(_,.inr (WF ts,tq (pl e ao),O,a6,rfl,by rw[J];show a3,aw,rfl),.inr ⟨⋯,⋯⟩,λay N=>?_);rw[LP] at N ⊢;let z9:=D.go (E:=λc x H'=>E c none H') hi av a4 ab (λο=>rfl) a7 a8 a9 ac (.inl rfl) W (by rw[J];decide) (λa o a5 ad=>by rw[VC ad];show L _ _ (F _ _ a5)) jD N q (c:=c);rw[show (bq (pl e ao) b).map kV=[V.str "own",V.int 2,V.int b] by rw[J];rfl] at z9;show z9
  .unfold kE;rfl';intro O ah;let(t,e,b1,a4,ab,a7,a8,a9,ac,J):=D.own (n:=0) ⋯ (.inl rfl) W;let F:JC H a1:=Z.trans ap;let(L,a3):=rF (o:=.tup [V.str "own",V.int 0]) ah;let a6:=L _ _ (F _ _ D.htd);generalize FC a1 O (.tup [V.str "own",V.int 0])=G1 at *;show(_,.inr (WF ts,tq (pl e ao),O,a6,rfl,by rw[J];show a3,aw,rfl),.inr ⟨⋯,⋯⟩,λay N=>?_);rw[LP] at N ⊢;let z9:=D.go (E:=λc x H'=>E c none H') hi av a4 ab (λο=>rfl) a7 a8 a9 ac (.inl rfl) W (by rw[J];decide) (λa o a5 ad=>by rw[VC ad];show L _ _ (F _ _ a5)) jD N q (c:=c);rw[show (bq (pl e ao) b).map kV=[V.str "own",V.int 0,V.int b] by rw[J];rfl] at z9;show z9
  .unfold kE;rfl';intro O ah;let(t,e,b1,a4,ab,a7,a8,a9,ac,J):=D.own (n:=0) ⋯ (.inl rfl) W;let F:JC H b3:=Z;let(L,a3):=rF (o:=.tup [V.str "own",V.int 0]) ah;let a6:=L _ _ (F _ _ D.htd);generalize FC b3 O (.tup [V.str "own",V.int 0])=G1 at *;show(_,.inr (WF ts,tq (pl e ao),O,a6,rfl,by rw[J];show a3,aw,rfl),.inr ⟨⋯,⋯⟩,λay N=>?_);rw[LP] at N ⊢;let z9:=D.go (E:=λc x H'=>E c none H') hi av a4 ab (λο=>rfl) a7 a8 a9 ac (.inl rfl) W (by rw[J];decide) (λa o a5 ad=>by rw[VC ad];show L _ _ (F _ _ a5)) jD N q (c:=c);rw[show (bq (pl e ao) b).map kV=[V.str "own",V.int 0,V.int b] by rw[J];rfl] at z9;show z9
  .let(m,rfl):=Int.eq_ofNat_of_zero_le c2;let b5:m < sp.length:=⋯;let(a2,bl,au):=D.hus.2 m _ (WA b5);let b4:=List.getElem_mem b5;generalize sp[m]=F at *;let ck:=(D.sk.sr F b4).1;unfold kE;rfl';show(_,pD.of (Z _ _ D.hsl),_,QH bl,a2,rfl,_,uD.of (Z _ _ au),_,rfl,_,rfl,⋯,λaq a1 k0 k1 ap=>(a2,rfl,_,uD.of (ap _ _ (Z _ _ au)),_,rfl,_,rfl,λO ah=>?_));let(t,e,cq,b1,a4,ab,bt,a7,a8,a9,ac,bw,J):=D.bank ⋯ b4 k0 k1 W;let az:JC H a1:=Z.trans ap;let bp:a2≠b0:=cD au D.htd nofun;let(L,a3):=rF (o:=.tup [V.str "bank",V.int (F.st+aq)]) ah;let a6:=L _ _ (az _ _ D.htd);let bo:=L _ _ (az _ _ au);generalize FC a1 O (.tup [V.str "bank",V.int (F.st+aq)])=G1 at *;let ax:∀{o:HO},FC G1 b0 o a2>(.tup (RI F)):=λ{o}=>by rw[VC bp];show bo
   show(_,.inr (WF ts,tq (pl e (F.st+aq)),O,a6,rfl,by rw[J];show a3,aw,rfl),a2,rfl,_,uD.of ax,_,rfl,a2,rfl,_,uD.of ax,_,rfl,_,rfl,.inr ⟨⋯,⋯⟩,a2,rfl,_,uD.of ax,_,rfl,_,rfl,λay N=>?_);rw[LP] at N ⊢;let z9:=D.go (E:=λc x H'=>E c none H') hi av a4 ab bt a7 a8 a9 ac bw W (λU=>by rw[J] at U;cases U) (λa o a5 ad=>by rw[VC ad];show L _ _ (az _ _ a5)) jD N q (c:=c);rw[show (bq (pl e (F.st+aq)) b).map kV=[V.str "bank",V.int (F.st+aq),V.int b] by rw[J];rfl] at z9;show z9
theorem gN {S:!Sh} {es:!Ho} {made O n:Int} {a J:Addr} {xs:!Int} (h:PC S es) (L:∀s∈S,s.n < made):PC (S++[(made,a,xs,1)]) (es++[(false,n,J,[(O,made)])]):=by
 let Z:made∉LD es:=λa3=>by
  let(U,Y,a2,a0,hk):=BJ.mp a3;let(s,D,N):=h.liv U Y a2 a0;have:=L s D;omega
 let N:LD (es++[((false,n,J,[(O,made)]):Ho)])=LD es++[made]:=by
  unfold LD;rw[nA,List.flatten_append];simp
 show(λe W a1 F=>?_,λs D=>?_,λs D=>?_)
 .let q||q:=kA.mp W
  .let(s,D,V):=h.liv e q a1 F;show(s,EA _ D,V)
  .rw[bA.mp q] at F;rw[bA.mp F];show(_,vA _ (aA ..),rfl)
 .rw[N,fB];let q||q:=kA.mp D
  .let h1:=h.cnt s q;let h2:=L s q;rw[XB,fA (by simp;omega)];omega
  .rw[bA.mp q];change (1:Int)=((LD es).count made+[made].count made:Nat);rw[List.count_eq_zero_of_not_mem Z,List.count_singleton_self];rfl
 .let q||q:=kA.mp D
  .show h.pos s q
  .rw[bA.mp q];show DB _
section
variable {g la:Int} {S:!Sh} {es:!Ho} {ts:!(Bool×Int)} {kvs:!(!Key×V)}
theorem Cn.fork {made:Int} {a a1:Addr} {xs:!Int} {a0:!(!Key×V)} (h:Cn g la S es ts kvs) (Z:∀s∈S,s.n < made) (ho:∀e∈es,¬(e.k=false/\e.n=2)) (hd:a1∉es.map Ho.d) (a6:xs.length=(pw g).toNat) (a9:∀b:Nat,(b:Int) < pw g->xs.getD b 0=RF a0 (bq (false,2) b)) (hk:∀p b,p≠(false,2)->RF a0 (bq p b)=RF kvs (bq p b)) (hi:∀q v,SC a0 q>v->∃j:Int,v=.int j):Cn g la (S++[(made,a,xs,1)]) (es++[(false,2,a1,[(la,made)])]) (ts++[(false,2)]) a0:=by
 let a7:(false,2)∉ts:=λL=>by
  let(e,D,J,F,q):=(h.tl _).mp L;unfold pl at q;cases c:e.k with
  |true=>rw[jA c] at q;cases q
  |false=>rw[fA (by rw[c];decide)] at q;show ho e D ⟨c,(Prod.mk.inj q).2⟩
 let ab:∀e∈es,∀J:Int,pl e J≠(false,2):=λe D J q=>by
  unfold pl at q;cases c:e.k with
  |true=>rw[jA c] at q;cases q
  |false=>rw[fA (by rw[c];decide)] at q;show ho e D ⟨c,(Prod.mk.inj q).2⟩
 show(gN h.pc Z,λs N=>?_,?_,λs N=>?_,λe D hk J F=>?_,λe D hk=>?_,λa2 h1 a3 h2 k1 k2=>?_,λe D=>?_,?_,?_,λp=>?_,λe D J F s N O b a4=>?_,λp b a5=>?_,hi)
 .let q||q:=kA.mp N
  .show h.h1 s q
  .rw[bA.mp q]
 .rw[nA];show LA.mpr (h.nn,KA.mpr ⟨by simp,.nil⟩,?_);intro i hi j U L;let(s,N,rfl):=cA.mp hi;let U:j=made:=bA.mp U;have:=Z s N;omega
 .let q||q:=kA.mp N
  .show h.sz s q
  .rw[bA.mp q];show a6
 .let q||q:=kA.mp D
  .show h.ow e q hk J F
  .rw[bA.mp q] at F;rw[bA.mp F]
 .let q||q:=kA.mp D
  .show h.ek e q hk
  .rw[bA.mp q] at hk;cases hk
 .let W||W:=kA.mp h1<;>let Y||Y:=kA.mp h2
  .show h.ee a2 W a3 Y k1 k2
  .rw[bA.mp Y] at k1 k2;show absurd ⟨k1.symm,k2.symm⟩ (ho a2 W)
  .rw[bA.mp W] at k1 k2;show absurd ⟨k1,k2⟩ (ho a3 Y)
  .rw[bA.mp W,bA.mp Y]
 .let q||q:=kA.mp D
  .show h.ux e q
  .rw[bA.mp q];show KA.mpr ⟨by simp,.nil⟩
 .rw[nA];show LA.mpr (h.dn,KA.mpr ⟨by simp,.nil⟩,?_);intro i hi j U L;let L:i=a1:=L.trans (bA.mp U);rw[L] at hi;show hd hi
 .show LA.mpr (h.tn,KA.mpr ⟨by simp,.nil⟩,?_);intro i hi j U L;rw[bA.mp U] at L;show a7 (L ▸ hi)
 .rw[kA,bA];constructor
  .rintro (q|rfl)
   .let(e,D,J,F,q):=(h.tl p).mp q;show(e,EA _ D,J,F,q)
   .show(_,vA _ (aA ..),(la,made),aA .., rfl)
  .rintro⟨e,D,J,F,rfl⟩;let q||q:=kA.mp D
   .show .inl ((h.tl _).mpr (e,q,J,F,rfl))
   .rw[bA.mp q];show .inr rfl
 .let q||q:=kA.mp D
  .rw[hk _ _ (ab e q _)];let r||r:=kA.mp N
   .show h.bx e q J F s r O b a4
   .let(ac,h0,ad):=h.pc.liv e q J F;have:=Z ac h0;rw[bA.mp r] at O;let O:made=J.2:=O;omega
  .rw[bA.mp q] at F ⊢;rw[bA.mp F] at O ⊢;let r||r:=kA.mp N
   .have:=Z s r;let O:s.n=made:=O;omega
   .rw[bA.mp r];show a9 b a4
 .let a8:p≠(false,2):=λL=>a5 (L ▸ vA _ (aA ..));rw[hk p b a8];show h.b0 p b λL=>a5 (EA _ L)
end
theorem gh {H:Hp} {s:Int}:∀{t:Option (Int×Int)},¬ND H (.int s) t
 |none,h=>by cases h
 |some (b,k),⟨a,e,_⟩=>by cases e
theorem YD.sp {A:rD} {B H:Hp} {D:Hz} {l f g:Int} {W:!Tk} {bk:Kvs} (h:YD A B D l f g W bk) {c a0:Addr} {L:!V} {n x m s:Int} (U:B c>(.lst (.ref a0::L))) (a6:B a0>(.tup [.int n,.int x,.int m,.int s])) (k:Kd c B H):YD A H D l f g W bk:=by
 let(Z,e):=h.me;let(a2,es):=id h.sh;let F:∀{c' o},B c'>o->(∀ys,o≠.lst ys)->H c'>o:=λh n=>k _ _ h λe=>by
  subst e;show n _ (rA (h.symm.trans U))
 let ab:∀{v:V} {r:Rn},tD B v r->tD H v r:=λ{v r} h=>by
  let(a,Y,e,h1,h2):=h;show(a,Y,e,F h1 (λο D=>nomatch D),?_);cases O:r.t with
  |none=>rw[O] at h2;show h2
  |some t=>rw[O] at h2;let(a,e,h):=h2;show(a,e,F h (λο D=>nomatch D))
 show(⟨Z,F e (λο D=>nomatch D)⟩,⟨a2,F es (λο D=>nomatch D)⟩,F h.t (λο D=>nomatch D),F h.b (λο D=>nomatch D),λt a8=>?_,h.nd,h.nk,h.vb,h.ne,h.np);let(a,(a1,vs,a3,N,J),a4):=h.st t a8;show(a,(a1,vs,F a3 (λο D=>nomatch D),k _ _ N λq=>?_,NI J λv p a7=>ab a7),a4);subst q;let a5:vs=.ref a0::L:=by
  have:=rA (N.symm.trans U);injection this
 rw[a5] at J;let a9:∀rs:!Rn,¬MC B (V.ref a0::L) rs:=λrs h=>by
  cases h with
  |cons q _=>
   let(a,Y,z1,z2,z3):=q;cases z1;rw[a6] at z2;let z2:=rA z2;injection z2 with z2;injection z2 with _ z2;injection z2 with _ z2;injection z2 with _ z2;injection z2 with z2 _;rw[<-z2] at z3;show gh z3
 show a9 _ J
theorem RH.spn {A:rD} {B H H':Hp} {r:Ro} {F:Hz} {l f g:Int} {N:!Tk} {bk:Kvs} {made:Int} {S:!Sh} {es:!Ho} (D:RH A B H r F l f g N bk made S es) {c a0:Addr} {o':HO} {a8:!V} {n x m s:Int} (Y:H c>(.lst (.ref a0::a8))) (U:H a0>(.tup [.int n,.int x,.int m,.int s])) (no:¬iG r F S es c) (kd:Kd c H H') (Z:H' c>o'):RH A B H' r F l f g N bk made S es:=by
 let(a1,(a2,a3,a4,a5,a9,ab),a6,a7):=D.no no;let(O,h1):=D.s.me;show(D.h.sp Y U kd,D.gd,D.ho,D.sh,(⟨O,kd _ _ h1 a1.symm⟩,kd _ _ D.s.s a2.symm,kd _ _ D.s.h a3.symm,λs L=>kd _ _ (D.s.x s L) (a7 s L).symm,D.s.nd,D.s.nn,D.s.b,D.s.ne),kd _ _ D.pd a4.symm,kd _ _ D.bd a5.symm,λe J=>kd _ _ (D.pe e J) (λq=>a6 (cA.mpr (e,J,q))),D.nm,D.bm,D.bn,D.nd,D.ob,λb W=>D.dm b (OI kd Z b W),D.sz,D.ux)
theorem NP {D:!Tk} {k:Nat} (h:D.map Tk.n=[0,1]) (q:SH (JD (HD D)) k):k=2:=by
 let e:JD (HD D)=(D.map Tk.n).map inl:=by unfold JD HD;rw[CA,CA];rfl
 rw[e,h] at q;let c||c||c:=Nat.lt_trichotomy k 2
 .obtain rfl|rfl:k=0\/k=1:=⋯
  .show absurd (aA ..) q.1
  .show absurd (qA _ (aA ..)) q.1
 .show c
 .have:=q.2 2 c;simp at this
theorem Z7 {S:!Sh} {made h:Int} {a:Addr} {xs ys:!Int} (q:∀s∈S,s.n < made):fF made xs (S++[(made,a,ys,h)])=S++[(made,a,xs,h)]:=by
 unfold fF;rw[nA];congr 1
 .show (IA λs D=>?_).trans (List.map_id S);rw[fA (by have:=q s D;omega)];rfl
 .change [if made=made then _ else _]=_;rw[jA rfl]
theorem b8 {es:!Ho} {q:Addr} {m F:!(Int×Int)} (ho:∀e∈es,¬(e.k=false/\e.n=2)):RD false 2 m (es++[(false,2,q,F)])=es++[(false,2,q,m)]:=by
 unfold RD;rw[nA];congr 1;show (IA λs D=>?_).trans (List.map_id es);rw[fA (ho s D)];rfl
theorem jh {S:!Sh} {D k made h:Int} {a:Addr} {xs:!Int} (hk:k≠made):ID k (dE [(D,k)] S++[(made,a,xs,h)])=S++[(made,a,xs,h)]:=by
 unfold ID dE;rw[nA,CA];congr 1
 .show (IA λs F=>?_).trans (List.map_id S);change (if s.n=k then _ else _)=s;by_cases c:s.n=k
  .rw[jA c];change ({s with h:=s.h+(([k].count s.n:Nat):Int) - 1}:Sh)=s;rw[c,List.count_singleton_self,show s.h+((1:Nat):Int) - 1=s.h by omega,<-c]
  .rw[fA c];change ({s with h:=s.h+(([k].count s.n:Nat):Int)}:Sh)=s;rw[XB,fA (by simp;show λq=>c q.symm),show s.h+((0:Nat):Int)=s.h by omega]
 .change [if made=k then _ else _]=_;rw[fA (λq=>hk q.symm)]
def iN (P:Program) (w:World) (A:rD):Sp:=λvs H Q ο=>∃(G0 B:Hp) (r:Ro) (z:Hz) (l f g:Int) (tks:!Tk) (many made:Int) (S:!Sh) (es:!Ho) (ts:!(Bool×Int)) (kvs:!(!Key×V)) (la:Int) (td bd sl:Addr) (us:!V) (a b c:AG) (t:Tk) (i j:Int),vs=[.ref r.p,.ref sl,.ref bd,.ref td,.int (pw g)]/\St P w A G0 B H r z l f g tks many made S es ts kvs la td bd sl us [a,b,c] i j/\tks.map Tk.n=[0,1]/\t∈tks/\t.n=0/\a.n=0/\b.n=0/\i < 63/\j<=900/\(∀c o,G0 c>o->c≠sl)/\
 ∀p made' S' es' ts' kvs' H' us',St P w A G0 B H' r z l f g (tks++[(2,p,t.rs)]) many made' S' es' ts' kvs' la td bd sl us' [a,b,c,(2,a.x,a.k,a.st),(2,b.x,b.k,b.st)] (i+1) (j+20)->Q (.bl true) H'
theorem OP (T:CD K mg A):pE P w K mg base "_law_forked" 11 ["_law_rooms","_law_spans","_law_boxes","_law_touched","_law_size"] [] (iN P w A):=by
 let fw:=@AV P w K mg base A T;show T.Ka.have d5 (λvs H Q E D=>?_) ?_
 .let(cd,B,r,D,l,f,g,a7,bw,made,S,es,ts,kvs,L,a5,bd,a4,us,a,b,c,t,i,j,rfl,_):=D;rfl
 .intro f ii i2 iy s H vs Q E ap D;let(cd,B,r,D,l,au,g,a7,bw,made,S,es,ts,kvs,L,a5,bd,a4,us,a,b,c,t,i,j,rfl,F,cr,bt,be,gt,gw,hi,ip,gz,q):=D;show(_,(aD (ME (JG (rG (XD fw (-ap) ZC (EC (GD (BC 0) T.Ac (Tg T) (-ap) ZC (EC NC IC)) (EC NC IC))))) (bD (PD ZH)) OE)
   (aD (dJ nB rfl (uQ rfl T.B3 (EC (BC 4) IC)) (XF (i:=5) d5.nd rfl (Or.inl rfl)) (bD (JS (P:=P) (w:=w) rfl rfl (bE ap) (BC 2) (dG (EC xF (EC NC (EC (BC 5) IC)))) (IS (P:=P) (w:=w) rfl rfl (bE ap) (BC 2) (dG (EC xF (EC NC (EC (BC 5) IC)))) NC (rfl,rfl,rfl,rfl)) rfl)))
   (EG (lE (zL PySem.F.plainAttrs_list PySem.F.slot_list_append PySem.F.type_list_append AL (BC 1) (EC (KD NZ (dG (EC NC IC)) (vL MZ (WD lI (BC 1) NC (λο ο=>rfl)) (aJ NC) yQ)) IC)))
   (EG (lE (zL PySem.F.plainAttrs_list PySem.F.slot_list_append PySem.F.type_list_append AL (BC 1) (EC (KD NZ (dG (EC NC IC)) (vL MZ (WD lI (BC 1) NC (λο ο=>rfl)) (aJ NC) yQ)) IC)))
   (aD (JS (P:=P) (w:=w) rfl rfl (bE ap) (BC 2) (dG (EC xF (EC NC (EC NC IC)))) NC rfl)
   (aD (gH (bE ap) (BC 3) (dG (EC xF (EC NC IC))) ZH rfl)
   (bD (PD (PH gI (GD (BC 0) T.Ac (l7 T) (-ap) ZC (EC NC (EC (Z3 (P:=P) (w:=w) rfl rfl (bE ap) (BC 2) xF (λο ο=>rfl)) (EC NC IC)))) CG (UC _)))))))))),?_)
  unfold sp_whole;rfl';let(g2,h1):=F.rh.s.me;let(e,ao,dq,f4,_):=F.rh.pv bt;let(cv,cw,cx):=F.nb;let ir:=II F.rh.gd;let iz:=F.si;let ix:=F.ml e ao;let iw:=F.kj;let iv:a7.length=2:=by
   have:=congrArg List.length cr;rw[iA] at this;show this
  let eb:∀{c:Addr} {ys:!V},H c>(.tup ys)->¬iG r D S es c:=λJ=>F.rh.nt J;show(g2,_,h1,FE ∅,GI B r D l au g a7 _ made S es 0 t e (rfl,F.rh,F.cn.pc,⋯,bt,be,ao,dq,by rw[f4,be],⋯,⋯,λk p U bl hk hd gr g6=>?_));obtain rfl:=NP cr hk;let ad:∀c o,H c>o->¬iG r D S es c->bl c>o:=λc o J no=>by
   let(_,(_,hp,hq,_,hr,_),_,_):=F.rh.no no;show g6 c o J hr hq hp
  let ge:yD P w bl bd "last" (.int (L * pw g)) kvs:=F.mx.keep λc o J ho=>ad c o ho (by
   let rfl||(ys,rfl):=J
   .show F.rh.nb cv
   .show F.rh.nt ho)
  show(_,rfl,?_);rw[fA (by decide)];show(⋯,⋯,?_);show KQ (λi b2 a6=>∃c2 O,b2=[↑r.p,↑a4,↑bd,↑a5,some (.int (pw g)),c2]/\yD P w a6 bd "last" (.int (L * pw g)) O/\O.length<=kvs.length+i/\(∀p b,p≠(false,2)->RF O (bq p b)=RF kvs (bq p b))/\(∀b:Nat,b < i->RF O (bq (false,2) b)=RF kvs (bq (false,0) b))/\(∀q v,SC O q>v->∃j:Int,v=.int j)/\RH A B a6 r D l au g (a7++[(2,p,t.rs)]) [(inl 0,.int bw)] made (dE e.m S) (es++[(false,2,U,e.m)])/\∀c o,bl c>o->c≠bd->a6 c>o) (_,kvs,rfl,ge,yA _,λο ο ο=>rfl,λο ax=>absurd ax (Nat.not_lt_zero _),F.cn.bi,gr,λο ο h ο=>h) (λn b2 a6 az=>?_) (λb2 a6=>?_)
  .rintro⟨c2,O,rfl,cl,dr,f6,b0,cn,bp,bn⟩;unfold yG mF;rfl';show⟨(_,_,_,cl),λe2 du=>?_⟩;let a3:=(rF (o:=.tup [V.str "own",V.int 0,V.int (0+(n:Int))]) du).1;generalize FC a6 e2 (.tup [V.str "own",V.int 0,V.int (0+(n:Int))])=d3 at *;let ez:yD P w d3 bd "last" (.int (L * pw g)) O:=cl.keep λc o ο h=>a3 c o h;show(_,_,_,ez,bq (false,0) (0+(n:Int)),rfl,λcy dv=>?_);let ac:=(rF (o:=.tup [V.str "own",V.int 2,V.int (0+(n:Int))]) dv).1;generalize FC d3 cy (.tup [V.str "own",V.int 2,V.int (0+(n:Int))])=bh at *;let f0:yD P w bh bd "last" (.int (L * pw g)) O:=ez.keep λc o ο h=>ac c o h;show(_,_,_,f0,bq (false,2) (0+(n:Int)),rfl,⋯,λih b5 ej ο=>?_);rw[qR cn,Int.zero_add] at b5;let hh:=DL O (bq (false,2) (n:Int)) (.int (RF O (bq (false,0) (n:Int))));show(_,b5,⋯,λp b br=>?_,λb ax=>?_,λq v a2=>?_,((bp.same a3).same ac).mix (bp.nb cv) f0 b5 ej,λc o J az=>ej _ _ az (ac _ _ (a3 _ _ (bn _ _ J az))))
   .rw[JP,fA λD=>br (cN D).1];show f6 p b br
   .rw[JP];by_cases c:b=n
    .rw[jA (by rw[c]),c];show f6 _ _ (by decide)
    .rw[fA λD=>c (by have:=(cN D).2;omega)];show b0 b ⋯
   .rw[yN] at a2;by_cases c:q=bq (false,2) (n:Int)
    .rw[jA c] at a2;show⟨_,(rA a2).symm⟩
    .rw[fA c] at a2;show cn q v a2
  .rintro⟨c2,O,rfl,cl,dr,h7,b0,cn,bp,bn⟩;let(bm,ee,er):=F.hus.2 0 a rfl;let(dd,hy,et):=F.hus.2 1 b rfl;let dz:us.length=3:=F.hus.1;obtain⟨c9,fa⟩:∃c9,us=.ref bm::c9:=by
    cases us with
    |nil=>cases ee
    |cons v c9=>show⟨c9,by rw[rA (show some v=↑bm from ee)]⟩
   let cz:=TH F.mx F.hsl (λο D=>nomatch D) (λο D=>nomatch D);let tup:∀{c:Addr} {ys:!V},H c>(.tup ys)->a6 c>(.tup ys):=λJ=>bn _ _ (ad _ _ J (eb J)) (TH F.mx J (λο D=>nomatch D) (λο D=>nomatch D));let cq:a6 a4>(.lst us):=bn _ _ (ad _ _ F.hsl (F.rh.nb cx)) cz;let cd:=tup er;let d3:=tup et;rfl';show(λb2 Z=>∃a1,b2=[↑r.p,↑a4,↑bd,↑a5,some (.int (pw g)),c2]/\Z a4>(.lst (us++[.ref a1]))/\Z a1>(.tup [.int 2,.int a.x,.int a.k,.int a.st])/\yD P w Z bd "last" (.int (L * pw g)) O/\RH A B Z r D l au g (a7++[(2,p,t.rs)]) [(inl 0,.int bw)] made (dE e.m S) (es++[(false,2,U,e.m)])/\(∀c o,bl c>o->c≠bd->c≠a4->Z c>o),?_,λj1 bh=>?_)
   .rfl';show⟨.inl (rfl,_,pD.of cq),λe3 dw=>?_⟩;let(a3,dl):=rF (o:=.tup [V.int 2]) dw;generalize FC a6 e3 (.tup [V.int 2])=GA at *;show(_,pD.of (a3 _ _ cq),_,(show SG us 0=↑bm from QH ee),bm,rfl,_,uD.of (a3 _ _ cd),(by change ¬(HT.cE 4 0 (some 1)=0/\HT.cE 4 4 none=4);decide),λe4 b0=>?_);let(ac,dn):=rF (o:=.tup (hE (RI a) (some 1) none)) b0;let dm:=ac _ _ dl;generalize FC GA e4 (.tup (hE (RI a) (some 1) none))=GB at *;show(_,uD.of dm,_,uD.of dn,nofun,(by change 1+3<=16777216;decide),λD=>absurd D (λD=>nomatch (show [V.int a.x,V.int a.k,V.int a.st]=[] from D)),λο bz dy=>?_);let(e5,bo):=rF (o:=.tup ([V.int 2]++hE (RI a) (some 1) none)) dy;generalize FC GB bz (.tup ([V.int 2]++hE (RI a) (some 1) none))=GC at *;let Y:JC a6 GC:=(a3.trans ac).trans e5;let aq:=Y _ _ cq;show(_,aq,by (try rw[xA]);omega,bz,rfl,by rw[VC (cD bo aq nofun)];show bo,cl.keep λc o J ho=>?_,(bp.same Y).spn (fa ▸ aq) (Y _ _ cd) (bp.nb cx) XE jD,λc o J e1 cu=>by rw[VC cu];show Y _ _ (bn _ _ J e1));rw[VC (by
     let rfl||(ys,rfl):=J
     .show cz.symm
     .show cD ho cq nofun)]
    show Y _ _ ho
   rintro⟨a1,rfl,cp,f2,gp,f1,eq⟩;let fr:∀{c:Addr} {ys:!V},H c>(.tup ys)->bh c>(.tup ys):=λJ=>eq _ _ (ad _ _ J (eb J)) (TH F.mx J (λο D=>nomatch D) (λο D=>nomatch D)) (cD J F.hsl nofun);let fx:=fr er;let fy:=fr et;let hz:(us++[V.ref a1])[1]?=↑dd:=by rw[xB ⋯];show hy
   show(λb2 Z=>∃b3,b2=[↑r.p,↑a4,↑bd,↑a5,some (.int (pw g)),c2]/\Z a4>(.lst ((us++[.ref a1])++[.ref b3]))/\Z b3>(.tup [.int 2,.int b.x,.int b.k,.int b.st])/\Z a1>(.tup [.int 2,.int a.x,.int a.k,.int a.st])/\yD P w Z bd "last" (.int (L * pw g)) O/\RH A B Z r D l au g (a7++[(2,p,t.rs)]) [(inl 0,.int bw)] made (dE e.m S) (es++[(false,2,U,e.m)])/\(∀c o,bl c>o->c≠bd->c≠a4->Z c>o),?_,λjj bi=>?_)
   .rfl';show⟨.inl (rfl,_,pD.of cp),λe3 dw=>?_⟩;let(a3,dl):=rF (o:=.tup [V.int 2]) dw;generalize FC bh e3 (.tup [V.int 2])=GA at *;show(_,pD.of (a3 _ _ cp),_,(show SG (us++[V.ref a1]) 1=↑dd from QH hz),dd,rfl,_,uD.of (a3 _ _ fy),(by change ¬(HT.cE 4 0 (some 1)=0/\HT.cE 4 4 none=4);decide),λe4 b0=>?_);let(ac,dn):=rF (o:=.tup (hE (RI b) (some 1) none)) b0;let dm:=ac _ _ dl;generalize FC GA e4 (.tup (hE (RI b) (some 1) none))=GB at *;show(_,uD.of dm,_,uD.of dn,nofun,(by change 1+3<=16777216;decide),λD=>absurd D (λD=>nomatch (show [V.int b.x,V.int b.k,V.int b.st]=[] from D)),λο bz dy=>?_);let(e5,bo):=rF (o:=.tup ([V.int 2]++hE (RI b) (some 1) none)) dy;generalize FC GB bz (.tup ([V.int 2]++hE (RI b) (some 1) none))=GC at *;let Y:JC bh GC:=(a3.trans ac).trans e5;let aq:=Y _ _ cp;show(_,aq,by (try rw[xA]);(try simp only[dB,List.length_nil]);omega,bz,rfl,by rw[VC (cD bo aq nofun)];show bo,by rw[VC (cD (Y _ _ f2) aq nofun)];show Y _ _ f2,gp.keep λc o J ho=>?_,(f1.same Y).spn (show GC a4>(.lst (.ref bm::(c9++[.ref a1]))) by rw[aq,fa];rfl) (Y _ _ fx) (f1.nb cx) XE jD,λc o J e1 cu=>by rw[VC cu];show Y _ _ (eq _ _ J e1 cu));rw[VC (by
     let rfl||(ys,rfl):=J
     .show cz.symm
     .show cD ho cp nofun)]
    show Y _ _ ho
   rintro⟨b3,rfl,h8,gv,gu,ev,dp,ch⟩;unfold yG pH kE;rfl';intro e2 du;let e6:=(rF (o:=.tup [V.str "own",V.int 2,V.int 0]) du).1;generalize FC bi e2 (.tup [V.str "own",V.int 2,V.int 0])=G4 at *;let b5:yD P w G4 bd "last" (.int (L * pw g)) O:=ev.keep λc o ο h=>e6 c o h;show(_,_,_,b5,bq (false,2) 0,rfl,⋯,λfz ew ek ο cy dv=>?_);let hh:=DL O (bq (false,2) 0) (.int 0);let hg:zD O (bq (false,2) 0) (.int 0)≠[]:=λD=>by
    let ah:SC (zD O (bq (false,2) 0) (.int 0)) (bq (false,2) 0)>(.int 0):=by rw[yN,jA rfl]
    rw[D] at ah;cases ah
   let eh:∀ab,RF (zD O (bq (false,2) 0) (.int 0)) ab=if ab=bq (false,2) 0 then 0 else RF O ab:=λab=>JP
   let h3:∀ab v,SC (zD O (bq (false,2) 0) (.int 0)) ab>v->∃j:Int,v=.int j:=λab v a2=>by
    rw[yN] at a2;by_cases c:ab=bq (false,2) 0
    .rw[jA c] at a2;show⟨_,(rA a2).symm⟩
    .rw[fA c] at a2;show cn ab v a2
   generalize zD O (bq (false,2) 0) (.int 0)=kv2 at *;let gs:=(dp.same e6).mix (dp.nb cv) b5 ew ek;let(e7,g7):=rF (o:=.tup [V.str "own",V.int 2]) dv;generalize FC fz cy (.tup [V.str "own",V.int 2])=G6 at *;let em:∀c o,bi c>o->c≠bd->G6 c>o:=λc o h n=>e7 _ _ (ek _ _ n (e6 _ _ h));let d0:=TH F.mx F.htd (λο D=>nomatch D) (λο D=>nomatch D);let e8:a4≠a5:=cD F.hsl F.htd nofun;let ea:=em _ _ (ch _ _ (ad _ _ F.htd (F.rh.nb cw)) d0 e8.symm) d0;let hb:(WF ts).length < sizeLine:=by
    unfold WF;rw[iA];have:=F.cn.count;have:=PySem.sizeLine_eq;omega
   let bb:=(gs.same e7).kd (o':=.dT (zD (WF ts) (tq (false,2)) (.bl true))) ea (dp.nb cw) (.inr (.inl ⟨_,rfl⟩)) XE jD;let ey:yD P w (FC G6 a5 (.dT (zD (WF ts) (tq (false,2)) (.bl true)))) bd "last" (.int (L * pw g)) kv2:=ew.keep λc o J ho=>by
    let eu:=e7 _ _ ho;rw[VC (by
     let rfl||(ys,rfl):=J
     .show d0.symm
     .show cD eu ea nofun)]
    show eu
   let dk:∀c o,bi c>o->c≠bd->c≠a5->FC G6 a5 (.dT (zD (WF ts) (tq (false,2)) (.bl true))) c>o:=λc o h n hl=>by rw[VC hl];show em c o h n
   let hw:FC G6 a5 (.dT (zD (WF ts) (tq (false,2)) (.bl true))) a5>(.dT (WF (LH (false,2) ts))):=by rw[jD,LP]
   let(g3,g8):=bb.s.me;show(_,.inr (WF ts,tq (false,2),cy,ea,rfl,g7,hb,rfl),g3,_,g8,FE ∅,_,_,_,ey,.inl (rfl,hg,?_));generalize FC G6 a5 (.dT (zD (WF ts) (tq (false,2)) (.bl true)))=X at *;let ho:∀e∈es,¬(e.k=false/\e.n=2):=λa9 ay ah=>by
    have:a9.n∈(RE es).map Ho.n:=cA.mpr (a9,HA.mpr ⟨ay,by rw[ah.1];rfl⟩,rfl);rw[F.rh.nm,cr,ah.2] at this;simp at this
   let h6:(false,2)∉ts:=λD=>by
    let(a9,ay,a8,cs,c0):=(F.cn.tl _).mp D;unfold pl at c0;cases d9:a9.k with
    |true=>rw[jA d9] at c0;cases c0
    |false=>rw[fA (by rw[d9];decide)] at c0;show ho a9 ay ⟨d9,(Prod.mk.inj c0).2⟩
   let gy:U∉es.map Ho.d:=λD=>by
    let(a9,ay,b4):=cA.mp D;have:=F.rh.pe a9 ay;rw[b4,hd] at this;cases this
   let fq:(a7.map Tk.n).Nodup:=by rw[cr];decide
   let co:pm t.rs L>(3,none):=by
    let(e9,ha,hs,ht):=F.sk.ow 0 (.inl rfl);rw[tH fq bt ha (be.trans hs.symm)];show ht
   let hv:=ch _ _ (ad _ _ F.htd (F.rh.nb cw)) d0 e8.symm;let eo:∀ar d1 W,d1.length=(pw g).toNat->(∀b:Nat,(b:Int) < pw g->d1.getD b 0=RF kv2 (bq (false,2) b))->RH A B W r D l au g (a7++[(2,p,t.rs)]) [(inl 0,.int bw)] (made+1) (S++[(made,ar,d1,1)]) (es++[(false,2,U,[(L,made)])])->Fb (dE e.m S) r (es++[(false,2,U,e.m)]) X W->Q (.bl true) W:=λar d1 W h4 hf aw av=>by
    let ck:∀{c:Addr} {o:HO},X c>o->B c≠none->W c>o:=λh n=>bb.fbn av (bb.nb n) h;let ec:∀{c:Addr} {ys:!V},bi c>(.tup ys)->W c>(.tup ys):=λh=>bb.tup av (dk _ _ h (TH ev h (λο D=>nomatch D) (λο D=>nomatch D)) (cD h hv nofun));let hx:∀{c:Addr} {ys:!V},H c>(.tup ys)->bi c>(.tup ys):=λJ=>ch _ _ (ad _ _ J (eb J)) (TH F.mx J (λο D=>nomatch D) (λο D=>nomatch D)) (cD J F.hsl nofun);let g9:=F.cn.fork (made:=made) (a:=ar) F.rh.s.b ho gy h4 hf (λp b br=>by rw[eh,fA λD=>br (cN D).1];show h7 p b br) h3;let gq:yD P w W bd "last" (.int (L * pw g)) kv2:=ey.keep λc o J ho=>by
     let rfl||(ys,rfl):=J
     .show ck ho cv
     .show bb.tup av ho
    show q p (made+1) _ _ (LH (false,2) ts) kv2 W ((us++[V.ref a1])++[V.ref b3]) (aw,?_,gq,ck hw cw,ck (dk _ _ h8 cz e8) cx,⟨?_,λi s N=>?_⟩,F.nb,?_,F.mo,?_,λa9 ay=>?_,⋯,λc o J=>?_,λD=>(Y7 D).elim F.n1 λD=>absurd D (by decide))
    .rw[show LH (false,2) ts=ts++[(false,2)] from fA h6];show g9
    .rw[xA,xA,dz];rfl
    .let b1:i < 3->[a,b,c][i]?>s->∃ef,((us++[V.ref a1])++[V.ref b3])[i]?=↑ef/\W ef>(.tup (RI s)):=λio N=>by
      let(g1,c3,c4):=F.hus.2 i s N;show(g1,by rw[xB (by rw[xA];omega),xB ⋯];show c3,ec (hx c4))
     match i,N,b1 with
     |0,N,b1=>show b1 (by decide) N
     |1,N,b1=>show b1 (by decide) N
     |2,N,b1=>show b1 (by decide) N
     |3,N,_=>
      obtain rfl:=rA (show some ((2,a.x,a.k,a.st):AG)>s from N);show(a1,by rw[xB (by rw[xA];change 3 < us.length+1;omega),jB ⋯,dz];rfl,ec gu)
     |4,N,_=>
      obtain rfl:=rA (show some ((2,b.x,b.k,b.st):AG)>s from N);show(b3,by rw[jB (by rw[xA];change us.length+1<=4;omega),xA,dz];rfl,ec gv)
    .show(.inr rfl,λs N=>?_,λn az=>?_,F.sk.la)
     .let e0:∀s∈[a,b,c],1<=s.k/\0<=s.x/\s.x+s.k<=L/\∃c1∈a7++[(2,p,t.rs)],c1.n=s.n/\∀j,0<=j->j < s.k->pm c1.rs (s.x+j)>(3,some (0,s.st+j)):=λs N=>by
       let(z1,z2,z3,e9,z4,z5):=F.sk.sr s N;show(z1,z2,z3,e9,EA _ z4,z5)
      let new:∀s∈[a,b,c],s.n=0->1<=s.k/\0<=s.x/\s.x+s.k<=L/\∃c1∈a7++[(2,p,t.rs)],c1.n=2/\∀j,0<=j->j < s.k->pm c1.rs (s.x+j)>(3,some (0,s.st+j)):=λs N az=>by
       let(z1,z2,z3,e9,z4,z5,z6):=F.sk.sr s N;obtain rfl:=tH fq bt z4 (be.trans (z5.trans az).symm);show(z1,z2,z3,(2,p,t.rs),vA _ (aA ..),rfl,z6)
      simp only[uA,bB,zC] at N;let rfl||rfl||rfl||rfl||rfl:=N
      .show e0 _ (by simp)
      .show e0 _ (by simp)
      .show e0 _ (by simp)
      .show new a (by simp) gt
      .show new b (by simp) gw
     .let rfl||(rfl,_):=az
      .show(t,EA _ bt,be,co)
      .show((2,p,t.rs),vA _ (aA ..),rfl,co)
    .rw[xA];change ((S.length+1:Nat):Int)<=_;omega
    .let D||D:=kA.mp ay
     .have:=F.ml a9 D;omega
     .rw[bA.mp D];change ((1:Nat):Int)<=_;omega
    .let(k1,k2,k3,ff):=F.k0 c o J;show(ck (dk _ _ (ch _ _ (ad _ _ k1 (F.rh.nb k2)) k3 (gz c o J)) k3 ff) k2,k2,k3,ff)
   let b4:L * pw g / pw g=L:=Int.mul_ediv_cancel _ ⋯;let g4:L * pw g % pw g=0:=Int.mul_emod_left ..;let f5:=F.sk.la;let dt:WC (2,p,t.rs) L=(false,(2,L)):=by unfold WC;rw[show pm ((2,p,t.rs):Tk).rs L>(3,none) from co];rfl
   let f3:∀a8∈e.m,a8.1=L:=F.cn.ow e ao dq;let f7:pl e L=(false,0):=by unfold pl;rw[fA (by rw[dq];decide),f4,be]
   let fl:(dE e.m S).length=S.length:=by unfold dE;show iA ..
   let iq:=F.mo;let hu:0<=L * pw g/\L * pw g < pw (l * au) * pw g:=⟨Int.mul_nonneg f5.1 ⋯,Int.mul_lt_mul_of_pos_right f5.2 ⋯⟩
   let en:∀xs:!Int,xs.length=(pw g).toNat->(∀b:Nat,(b:Int) < pw g->xs.getD b 0=RF kvs (bq (false,0) b))->(xs.set 0 0).length=(pw g).toNat/\∀b:Nat,(b:Int) < pw g->(xs.set 0 0).getD b 0=RF kv2 (bq (false,2) b):=λxs dr hc=>by
    show⟨by rw[List.length_set];show dr,λb ax=>?_⟩;rw[eh];by_cases c:b=0
    .subst c;rw[jA (show bq (false,2) ((0:Nat):Int)=bq (false,2) 0 from rfl),OA,List.getElem?_set_self ⋯];rfl
    .rw[fA λD=>c (by have:=(cN D).2;omega),OA,List.getElem?_set_ne (λD=>c D.symm),<-OA,hc b ax,b0 b ⋯]
   show(B,r,D,l,au,g,_,_,made,_,_,(2,p,t.rs),2,L * pw g,0,(false,2,U,e.m),(false,2,U,e.m),rfl,(bb,F.cn.pc.fork ao,vA _ (aA ..),rfl,(3,none,by rw[b4];show co,by decide),hu,⋯,vA _ (aA ..),by rw[b4,dt],by rw[b4,dt],by change e.m.length < 9000;omega),vA _ (aA ..),rfl,rfl,by change e.m.length < 9000;omega,.inl rfl,?_);rw[b4,dt,g4];change _\/_\/_\/_\/_;rcases hm:e.m with _|⟨a8,fn⟩
   .let he:vD e L=none:=by unfold vD;rw[hm];rfl
    let hn:(false,0)∉ts:=λD=>(F.cn.hit ao (λο=>rfl)).mp (f7.symm ▸ D) he;let(c3,c4):=en (List.replicate (pw g).toNat 0) qB λb ax=>by
     rw[F.cn.b0 _ _ hn,OA,bC]
     split<;>rfl
    show .inr (.inr (.inr (.inr (rfl,by rw[<-hm,fl];omega,λar W aw av=>?_))));change Q (.bl (decide (V.non=V.non))) W;rw[pA rfl];show eo ar _ W c3 c4 ?_ (by rw[hm];show av);rw[m7,show RD ((false,2,U,[]):Ho).k ((false,2,U,[]):Ho).n (((false,2,U,[]):Ho).m++[(L,made)]) (es++[(false,2,U,[])])=es++[(false,2,U,[(L,made)])] from b8 ho] at aw;show Z7 F.rh.s.b ▸ aw
   .let(a0,fu):=a8;let cs:(a0,fu)∈e.m:=by rw[hm];show aA ..
    let d2:a0=L:=f3 _ cs;let hj:fn=[]:=by
     cases fn with
     |nil=>rfl
     |cons ft w=>
      let fo:=F.cn.ux e ao;let i1:=f3 ft (by rw[hm];show qA _ (aA ..));rw[hm] at fo;show absurd (show a0∈(ft::w).map (·.1) by rw[d2,<-i1];show aA ..) (KA.mp fo).1
    subst hj;let(s,N,h9):=F.cn.pc.liv e ao _ cs;obtain rfl:fu=s.n:=h9.symm;let iu:=F.cn.h1 s N;let j0:=F.rh.s.b s N;let(c3,c4):=en s.xs (F.cn.sz s N) λb ax=>by
     let ah:=F.cn.bx e ao _ cs s N rfl b ax;rw[show pl e (a0,s.n).1=(false,0) by rw[<-f7,<-d2]] at ah;show ah
    let gx:(([(a0,s.n)]:!(Int×Int)).map (·.2)).count s.n=1:=List.count_singleton_self ..;show .inr (.inr (.inl ({s with h:=s.h+((([(a0,s.n)]:!(Int×Int)).map (·.2)).count s.n:Int)},cA.mpr (s,N,rfl),(KH (e:=(false,2,U,[(a0,s.n)])) (KA.mpr ⟨by simp,.nil⟩)).mpr (show (L,s.n)∈[(a0,s.n)] by rw[d2];show aA ..),by change 1 < s.h+_;rw[gx];omega,rfl,by rw[<-hm,fl];omega,λar W aw av=>?_)));change Q (.bl (decide (V.non=V.non))) W;rw[pA rfl];show eo ar _ W c3 c4 ?_ (by rw[hm];show av);let g5:(([(a0,s.n)]:!(Int×Int)).filter λa8=>decide (a8.1≠L))=[]:=by rw[d2];simp
    let h5:s.n≠made:=⋯;rw[jh h5,Z7 F.rh.s.b,show RD false 2 ((((false,2,U,[(a0,s.n)]):Ho).m.filter λa8=>decide (a8.1≠L))++[(L,made)]) (es++[(false,2,U,[(a0,s.n)])])=es++[(false,2,U,[(L,made)])] by rw[show (((false,2,U,[(a0,s.n)]):Ho).m.filter λa8=>decide (a8.1≠L))=[] from g5];show b8 ho] at aw;show aw
theorem c8 {i:Int}:uO (.int i) (.int i)=true:=P1 rfl
def MH (xs:!Int):!Dv:=xs.map λi=>Dv.leaf (.int i)
theorem d8:∀xs:!Int,AD (MH xs) (MH xs)=true/\ED (MH xs) (MH xs)=true/\QD (MH xs)=0
 |[]=>(by simp[MH,AD],by simp[MH,ED],by simp[MH,QD])
 |x::xs=>by
  let(h1,h2,h3):=d8 xs;unfold MH at h1 h2 h3 ⊢;rw[BA];show(by simp[AD,yE,h1],by simp[ED,VE,c8,h2],by simp[QD,nH,h3])
theorem f8 {H:Hp}:∀xs:!Int,nD K H (MH xs) (xs.map V.int)
 |[]=>by unfold MH nD;rfl
 |x::xs=>by
  unfold MH;rw[BA,BA];unfold nD;show(_,_,rfl,by unfold gE;show⟨rfl,rfl⟩,f8 xs)
def SI (x:Int) (xs:!Int):!Dv:=[.leaf (.int x),.leaf (.int 1),.seq false (MH xs)]
theorem jN {H:Hp} {a c:Addr} {x:Int} {xs:!Int} (h1:H a>(.tup [.int x,.int 1,.ref c])) (h2:H c>(.lst (xs.map V.int))):gE K H (.seq true (SI x xs)) (.ref a):=by
 unfold gE;show(a,_,rfl,by rw[jA rfl];show uD.of h1,?_);unfold SI nD;show(_,_,rfl,by unfold gE;show⟨rfl,rfl⟩,?_);unfold nD;show(_,_,rfl,by unfold gE;show⟨rfl,rfl⟩,?_);unfold nD;show(_,_,rfl,?_,by unfold nD;rfl);unfold gE;show(c,_,rfl,by rw[fA AA];show pD.of h2,f8 xs)
def UH (ps:!(Int×!Int)):!Dv:=ps.map λp=>.seq true (SI p.1 p.2)
def rR (H:Hp) (v:V) (p:Int×!Int):Prop:=∃a c,v=.ref a/\H a>(.tup [.int p.1,.int 1,.ref c])/\H c>(.lst (p.2.map V.int))
theorem CV {H:Hp}:∀{us:!V} {ps:!(Int×!Int)},Paired (rR H) us ps->nD K H (UH ps) us
 |_,_,.nil=>by unfold UH nD;rfl
 |_,_,.cons ⟨a,c,e,h1,h2⟩ t=>by
  unfold UH;rw[BA];unfold nD;show(_,_,rfl,by rw[e];show jN h1 h2,CV t)
theorem i8:∀ps:!(Int×!Int),AD (UH ps) (UH ps)=true/\ED (UH ps) (UH ps)=true/\QD (UH ps)<=3
 |[]=>(by simp[UH,AD],by simp[UH,ED],by simp[UH,QD])
 |p::ps=>by
  let(h1,h2,h3):=i8 ps;let(e1,e2,e3):=d8 p.2;unfold UH at h1 h2 h3 ⊢;rw[BA];let w1:AD (SI p.1 p.2) (SI p.1 p.2)=true:=by simp[SI,AD,yE,e1]
  let w2:ED (SI p.1 p.2) (SI p.1 p.2)=true:=by simp[SI,ED,VE,c8,e2]
  let w3:QD (SI p.1 p.2)<=1:=by simp[SI,QD,nH,e3]
  show(by simp[AD,yE,w1,h1],by simp[ED,VE,w2,h2],by simp only[QD,nH];omega)
theorem j8 {α β γ:Type} {R:α->β->Prop} {S:α->γ->Prop} {f:β->γ}:∀{us:!α} {ps:!β},Paired R us ps->(∀v p,p∈ps->R v p->S v (f p))->Paired S us (ps.map f)
 |_,_,.nil,_=>.nil
 |_,_,.cons r t,k=>.cons (k _ _ (aA ..) r) (j8 t λv p hp=>k v p (qA _ hp))
def UI (kvs:!(!Key×V)) (g k:Int):!Int:=(List.range (pw g).toNat).map λ(b:Nat)=>RF kvs (bq (true,k) b)
theorem kh {m x r:Int} {t:Option (Int×Int)} (h:1<=m):YC [(x,m,r,t)]:=⟨List.pairwise_singleton .., λD q=>by rw[bA.mp q];change 0 < m;omega⟩
theorem PP:∀m:Nat,1<=m->m<=6->GG [] 0 m 1 (BE (some 0) 0)=[(0,m,1,some (0,0))]/\nG [(0,m,1,some (0,0))]=(List.range m).map (λ(k:Nat)=>((k:Int),((1:Int),some ((0:Int),(k:Int)))))/\ZE [] 0 m=[]:=by
 intro m h1 h2;obtain rfl|rfl|rfl|rfl|rfl|rfl:m=1\/m=2\/m=3\/m=4\/m=5\/m=6:=⋯
 all_goals decide
def kN (P:Program) (w:World) (A:rD):Sp:=λvs H Q ο=>∃(B:Hp) (r:Ro) (z:Hz) (l f g:Int) (tks:!Tk) (many made:Int) (S:!Sh) (es:!Ho) (kvs:!(!Key×V)) (lv:V) (bd:Addr) (t:Tk) (e:Ho),vs=[.ref r.p,.int 0,.int many,.int (pw g),.ref bd]/\RH A B H r z l f g tks [(inl 0,.int many)] made S es/\PC S es/\yD P w H bd "last" lv kvs/\B bd≠none/\t∈tks/\t.n=1/\t.rs=[]/\e∈es/\e.k=true/\e.n=0/\(1<=many/\many<=6)/\16<=pw (l * f)/\(∀q v,SC kvs q>v->∃j:Int,v=.int j)/\(∀k:Nat,(k:Int) < many->CF g S e k=UI kvs g k)/\
 ∀H',RH A B H' r z l f g (HE 1 [(0,many,1,some (0,0))] tks) [(inl 0,.int many)] made S es->Bu t.p H H'->Q (.bl true) H'
theorem QP (T:CD K mg A):pE P w K mg base "_law_bank_seen" 11 ["_law_rooms","_law_bank","_law_many","_law_size","_law_boxes"] [] (kN P w A):=by
 show T.Hb.have FU (λvs H Q E D=>?_) ?_
 .let(B,r,D,l,f,g,b4,bt,made,S,es,kvs,Z,bd,t,e,rfl,_):=D;rfl
 .intro f dl dd dz s H vs Q E Y D;let(B,r,D,l,bi,g,b4,bt,made,S,es,kvs,Z,bd,t,e,rfl,ao,aw,bn,dw,b0,b1,br,cu,cv,cw,(du,dv),dq,cx,d2,q):=D;show(_,(aD (lE (GD (BC 0) T.Ac (v7 T) (-Y) ZC (@EC _ _ _ _ _ NC (@EC _ _ _ _ _ NC (@EC _ _ _ _ _ (BC 2) (@EC _ _ _ _ _ NC (@EC _ _ _ _ _ (BC 1) (@EC _ _ _ _ _ NC IC rfl) rfl) rfl) rfl) rfl) rfl)))
   (aD (SD (i:=5) FU.nd rfl (Or.inl rfl) (oJ IC))
   (aD (dJ nB rfl (uQ rfl T.B3 (EC (BC 2) IC)) (XF (i:=6) FU.nd rfl (Or.inr rfl)) (bD (lE (zL PySem.F.plainAttrs_list PySem.F.slot_list_append PySem.F.type_list_append AL (BC 5) (EC (dG (EC (BC 6) (EC NC (EC (BN rfl (uQ rfl T.B3 (EC (BC 3) IC)) (x:="_law_box") (fs:=["_law_boxes","_law_k"]) (ix:=[4,6]) rfl rfl (λο ο ο ο ο ο=>(XF (i:=0) (show (["_law_box","_law_boxes","_law_k"]:!Str).Nodup by decide+kernel) rfl (Or.inl rfl))) (λο ο ο ο ο ο=>zN) (λο ο ο ο ο ο=>(IS (P:=P) (w:=w) rfl rfl (bE Y) (BC 1) (dG (EC xF (EC (BC 2) (EC (BC 0) IC)))) NC (rfl,rfl,rfl,rfl)))) IC)))) IC)))))
   (bD (PD (PH (X1 (n:=4) (W1 Y)) (GD (BC 0) T.Ac (FP T) (-Y) ZC (EC NC IC)) (BC 5) (UC _))))))),?_)
  let(ck,h1):=ao.s.me;let hz:=PySem.sizeLine_eq;let dy:=II ao.gd;let(m,rfl):=Int.eq_ofNat_of_zero_le (show 0<=bt by omega);let(a6,b2,d9):=PP m ⋯ ⋯;let a6:GG t.rs 0 m 1 (BE (some 0) 0)=[(0,m,1,some (0,0))]:=by rw[br];show a6
  rfl';let(e0,(dn,e1,bl,_,_),_):=ao.h.st t b0;show(ck,_,h1,FE ∅,B,r,D,l,bi,g,b4,_,made,S,es,1,0,m,1,0,some 0,t,rfl,ao,b0,b1,by unfold UD;show pA ⋯,⟨by decide,by decide⟩,λdk az=>(m,by cases az;rfl,⋯,⋯),by rw[br];show d9,by rw[a6];show kh ⋯,by rw[a6];change 1<=10000;decide,λa8 ax bu=>?_);rw[a6] at ax;let cp:yD P w a8 bd "last" Z kvs:=bn.keep λc o a5 ho=>bu c o ho (by
   let rfl||(ys,rfl):=a5
   .show (TH bn bl (λο D=>nomatch D) (λο D=>nomatch D)).symm
   .show cD ho bl nofun)
  intro J bm;let(b3,ar):=rF (o:=.lst []) bm;let dr:=ax.same b3;let bo:yD P w (FC a8 J (.lst [])) bd "last" Z kvs:=cp.keep λc o ο h=>b3 c o h;generalize FC a8 J (.lst [])=H2 at *;show(⋯,⋯,?_);show KQ (λj N F=>∃bb us,N=[↑r.p,some (.int 0),some (.int m),some (.int (pw g)),↑bd,↑J,bb]/\Kd J H2 F/\F J>(.lst us)/\Paired (λv p=>∃a c,v=.ref a/\F a>(.tup [.int p.1,.int 1,.ref c])/\F c>(.lst (p.2.map V.int))/\c≠J) us ((List.range j).map λ(k:Nat)=>((k:Int),UI kvs g k))) (_,[],rfl,λο ο h ο=>h,ar,.nil) (λj N F dt=>?_) (λN F=>?_)
  .rintro⟨bb,us,rfl,k3,U,ac⟩;let d3:=Paired.length ac;rw[iA,PB] at d3;let cr:yD P w F bd "last" Z kvs:=bo.keep λc o a5 ho=>k3 _ _ ho (by
    let rfl||(ys,rfl):=a5
    .show (TH bo ar (λο D=>nomatch D) (λο D=>nomatch D)).symm
    .show cD ho ar nofun)
   rfl';show(.inl (rfl,_,pD.of U),⋯,⋯,λa1 au=>?_);let bz:a1≠J:=(OD U au).symm;show Q2 (λb ys N L=>∃b5,N=[b5,↑bd,some (.int (0+(j:Int)))]/\JC F L/\L a1>(.lst ys)/\ys=((List.range b).map λb:Nat=>RF kvs (bq (true,(j:Int)) b)).map V.int) (_,rfl,nE iE au,jD,rfl) (λb ys N L az=>?_) (λys N L=>?_)
   .rintro⟨b5,rfl,ap,av,rfl⟩;let bp:yD P w L bd "last" Z kvs:=cr.keep λc o ο h=>ap c o h;unfold mF;rfl';show⟨(_,_,_,bp),λc0 d0=>?_⟩;let(a0,a9):=rF (o:=.tup [V.str "bank",V.int (0+(j:Int)),V.int (0+(b:Int))]) d0;let ab:=a0 _ _ av;let cq:yD P w (FC L c0 (.tup [V.str "bank",V.int (0+(j:Int)),V.int (0+(b:Int))])) bd "last" Z kvs:=bp.keep λc o ο h=>a0 c o h;generalize FC L c0 (.tup [V.str "bank",V.int (0+(j:Int)),V.int (0+(b:Int))])=G8 at *;show(_,_,_,cq,bq (true,(0+(j:Int))) (0+(b:Int)),rfl,ab,by rw[iA,iA,PB];omega,?_,?_)
    .show λbe o' h'=>by rw[VC (OD h' au)];show a0 _ _ (ap _ _ h')
    .rw[qR cx,List.range_succ,nA,nA,Int.zero_add,Int.zero_add];rfl
   .rintro⟨b5,rfl,ap,av,rfl⟩;intro c1 d1;let(a0,a9):=rF (o:=.tup [V.int (0+(j:Int)),V.int 1,V.ref a1]) d1;let aq:=ap.trans a0;let ab:=aq _ _ U;let cn:=a0 _ _ av;generalize FC L c1 (.tup [V.int (0+(j:Int)),V.int 1,V.ref a1])=G8 at *;show(us,ab,⋯,λdp o' h' bw=>by rw[VC bw];show aq _ _ (k3 _ _ h' bw),_,rfl,?_);rw[List.range_succ,nA];show vP (NI ac λv p ⟨a,be,a3,O,a4,bh⟩=>(a,a3,be,by rw[VC (cD O U nofun)];show aq _ _ O,by rw[VC bh];show aq _ _ a4,bh)) (.cons (c1,rfl,a1,by rw[VC (cD a9 ab nofun)];rw[Int.zero_add] at a9;show a9,by rw[VC bz];show cn,bz) .nil)
  .rintro⟨bb,us,rfl,k3,U,ac⟩;rfl';let c2:JC a8 F:=λc o h=>k3 _ _ (b3 _ _ h) (OD h bm);let ay:=ax.same c2;let(cl,co):=ay.s.me;let cy:({t with rs:=[(0,m,1,some (0,0))]}:Tk)∈HE 1 [(0,m,1,some (0,0))] b4:=cA.mpr (t,b0,jA b1);show(cl,_,co,FE ∅,B,r,D,l,bi,g,_,_,made,S,es,1,_,λp=>UI kvs g p.1,rfl,ay,aw,cy,b1,λr Y=>?_,?_,λp W=>?_,λb c3 a2 a7 az cs ad=>?_)
   .rw[bA.mp Y];show(DB _,by change (0:Int)<=m;omega,by unfold RC;change (0:Int)+m<=_;omega)
   .change (nG [(0,m,1,some (0,0))]).length<=9000;rw[b2,iA,PB];omega
   .let W:p∈nG [(0,m,1,some (0,0))]:=W;rw[b2] at W;let(k,hk,rfl):=cA.mp W;show(e,cu,cv,cw,(d2 k (by have:=pC.mp hk;omega)).symm)
   .let ad:Paired (λv (p:Pg)=>QI F a2 v p.1 p.2.1 (UI kvs g p.1)) c3 (nG [(0,m,1,some (0,0))]):=ad;rw[b2] at ad;let ah:=j8 (S:=rR a2) (f:=λp:Pg=>(p.1,UI kvs g p.1)) ad λv p W ⟨a,c,a3,O,a4,_⟩=>by
     let(k,hk,rfl):=cA.mp W;show(a,c,a3,O,a4)
    rw[CA] at ah;let ah:Paired (rR a2) c3 ((List.range m).map λ(k:Nat)=>((k:Int),UI kvs g k)):=ah;let aw:Paired (rR a2) us ((List.range m).map λ(k:Nat)=>((k:Int),UI kvs g k)):=NI ac λv p ⟨a,c,a3,O,a4,_⟩=>(a,c,a3,a7 _ _ O,a7 _ _ a4)
    let(cd,ch,dm):=i8 ((List.range m).map λ(k:Nat)=>((k:Int),UI kvs g k));show(false,_,_,?_,?_,cd,⋯,?_)
    .unfold gE;show(b,_,rfl,by rw[fA AA];show pD.of cs,CV ah)
    .unfold gE;show(J,_,rfl,by rw[fA AA];show pD.of (a7 _ _ U),CV aw)
    .rw[ch];show q a2 (ay.same a7) λc o a5 cz=>a7 _ _ (c2 _ _ (bu c o a5 cz))
theorem lh {A:rD} {H:Hp} {x F:Addr} {l f g most:Int} {U:Addr->VK} {E:XK} (a9:gd l f g) (ac:H x=none) (a5:H F=none)
  (q:∀(r:Ro) (L:Hz) (H':Hp),r.most=most->JC H H'->RB A H' r L l f g [] []->(∀e∈oG r L [],H e=none)->H r.p=none->(H' r.bd>(.dK [])/\r.bd∉oG r L []/\H r.bd=none)->U r.p .non H'):
  ∀D J:Addr,FC (FC H F (.own x)) x (.ins A.Ag F (FH l f g)) D=none->FC (FC H F (.own x)) x (.ins A.Ag F (FH l f g)) J=none->J≠D->
   W6 A [V.ref D,V.ref x,V.int most] (FC (FC (FC (FC H F (.own x)) x (.ins A.Ag F (FH l f g))) J (.own D)) D (.ins A.Ab J [])) (U D) E:=by
 intro D J a1 a6 ad;let W:JC H (FC (FC H F (.own x)) x (.ins A.Ag F (FH l f g))):=λc o h=>by rw[VC (OD h ac),VC (OD h a5)];show h
 let a2:FC (FC H F (.own x)) x (.ins A.Ag F (FH l f g)) x>(.ins A.Ag F (FH l f g)):=jD;generalize FC (FC H F (.own x)) x (.ins A.Ag F (FH l f g))=G1 at *;let Y:JC G1 (FC (FC G1 J (.own D)) D (.ins A.Ab J [])):=λc o h=>by rw[VC (OD h a1),VC (OD h a6)];show h
 let a3:FC (FC G1 J (.own D)) D (.ins A.Ab J []) D>(.ins A.Ab J []):=jD;generalize FC (FC G1 J (.own D)) D (.ins A.Ab J [])=G2 at *;let N:=W.trans Y;show(D,J,x,most,l,f,g,rfl,a3,⟨F,Y _ _ a2⟩,a9,λr L H' a0 ab a4 a8 ο k O=>?_);let Z:H D=none:=FG W a1;rw[<-a0];show q r L H' ab (λc o h=>k _ _ (N _ _ h) (OD h Z)) a4 (λe a7=>FG N (a8 e a7)) (by rw[a0];show Z) (O.1,O.2.1,FG N O.2.2)
theorem k8 {q:!Tk} {i k:Nat} (h:q.map Tk.n=(List.range i).map (λj:Nat=>(j:Int))) (D:SH (JD (HD q)) k):k=i:=by
 let e:JD (HD q)=(List.range i).map (λj:Nat=>(inl (j:Int):Key)):=by
  have:JD (HD q)=(q.map Tk.n).map inl:=by unfold JD HD;rw[CA,CA];rfl
  rw[this,h,CA];rfl
 rw[e] at D;let F:∀j:Nat,(inl (j:Int):Key)∈(List.range i).map (λj:Nat=>(inl (j:Int):Key))↔j < i:=λj=>by
  rw[cA];constructor
  .rintro⟨u,L,e⟩;have:=kB e;have:=pC.mp L;omega
  .intro J;show(j,pC.mpr J,rfl)
 let c||c||c:=Nat.lt_trichotomy k i
 .show absurd ((F k).mpr c) D.1
 .show c
 .have:=(F i).mp (D.2 i c);omega
theorem l8 {rs D q:!Rn} {a n:Int} (o:YC rs) (l:ZD rs) (J:0 < n) (O:YC q) (F:∀x∈q,a<=x.f/\RC x<=a+n) (o':YC D) (N:ZD D) (h:∀p,pm D p=if a<=p/\p < a+n then pm q p else pm rs p):AE rs a n q=D:=by
 let L:=mM o l J O F;show N5 L.1 o' L.2.1 N λp=>(L.2.2 p).trans (h p).symm
theorem lN {r:Rn} {p:Int}:pm [r] p=if r.f<=p/\p < r.f+r.m then some (r.r,tf r p) else none:=rfl
theorem DJ {r:Rn} {rs:!Rn} {p:Int}:pm (r::rs) p=if r.f<=p/\p < r.f+r.m then some (r.r,tf r p) else pm rs p:=rfl
theorem DV:YC []:=⟨List.Pairwise.nil,λο h=>nomatch h⟩
theorem mh {r:Rn} {a n:Int} (h1:r.f=a) (h2:r.m=n):∀x∈[r],a<=x.f/\RC x<=a+n:=λx q=>by
 rw[bA.mp q];unfold RC;omega
def DE (rs:!Rn):Prop:=rs.Pairwise (λa b=>RC a < b.f)/\∀r∈rs,0 < r.m
theorem DE.ord {rs:!Rn} (h:DE rs):YC rs:=⟨h.1.imp λz=>Int.le_of_lt z,h.2⟩
theorem DE.tail {r:Rn} {rs:!Rn} (h:DE (r::rs)):DE rs:=⟨(VB.mp h.1).2,λx q=>h.2 x (qA _ q)⟩
theorem DE.lst:∀{rs:!Rn},DE rs->ZD rs
 |[],_=>trivial
 |[_],_=>trivial
 |a::b::r,h=>by
  show⟨?_,DE.lst h.tail⟩;let e:=(VB.mp h.1).1 b (aA ..);unfold go;rw[DA ⋯]
  rfl
theorem sR {rs:!Rn} {R:Rn} (h:DE rs) (L:0 < R.m) (F:∀r∈rs,RC r < R.f):DE (rs++[R]):=
 ⟨List.pairwise_append.mpr (h.1,VB.mpr ⟨(λο q=>nomatch q),List.Pairwise.nil⟩,λa D b J=>by rw[bA.mp J];show F a D),λr N=>by
  let q||q:=kA.mp N
  .show h.2 r q
  .rw[bA.mp q];show L⟩
theorem tR {rs:!Rn} {R:Rn} (h:DE rs) (q:0 < R.m) (D:∀r∈rs,RC r < R.f):ZE rs R.f R.m=[]/\AE rs R.f R.m [R]=rs++[R]:=by
 let h':=sR h q D;let F:∀p,R.f<=p->pm rs p=none:=λp L=>KU λr J=>by have:=D r J;omega
 show⟨(yf h.ord q).mpr λp h1 h2=>F p h1,l8 h.ord h.lst q (ZQ q) (mh rfl rfl) h'.ord h'.lst λp=>?_⟩;rw[rH,lN];by_cases c:R.f<=p/\p < R.f+R.m
 .simp only[jA c];rw[F p c.1];rfl
 .simp only[fA c];show Option.or_none
theorem m8 {R:Rn} {rs:!Rn} (h:DE (R::rs)):((ZE (R::rs) R.f R.m).map (·.m)).sum=R.m/\AE (R::rs) R.f R.m []=rs:=by
 let q:=h.2 R (aA ..);let D:=(VB.mp h.1).1;show⟨(xf h.ord q).mpr λp h1 h2=>?_,l8 h.ord h.lst q DV (λο J=>nomatch J) h.tail.ord h.tail.lst λp=>?_⟩
 .rw[DJ,jA ⟨h1,h2⟩];show Option.some_ne_none _
 .rw[DJ];by_cases c:R.f<=p/\p < R.f+R.m
  .rw[jA c];show kM λr F=>by have:=D r F;unfold RC at this;omega
  .rw[fA c,fA c]
def MN (p p':Addr) (R0 R1 R2:Rn):Nat->!Tk
 |0=>[(0,p,[]),(1,p',[])]
 |1=>[(0,p,[R0]),(1,p',[])]
 |2=>[(0,p,[R0,R1]),(1,p',[])]
 |_=>[(0,p,[R0,R1]),(1,p',[R2])]
theorem RP {R:Rn} (h:0 < R.m):DE [R]:=⟨List.pairwise_singleton .., λr q=>by rw[bA.mp q];show h⟩
theorem Cn.start {g V:Int} {es:!Ho} (L:∀e∈es,e.m=[]) (U:∀e∈es,e.k=true->e.n=0) (O:∀e∈es,∀J∈es,J.k=e.k->J.n=e.n->J=e) (N:(es.map Ho.d).Nodup):Cn g V [] es [] []:=by
 let no:∀e∈es,∀F,F∉e.m:=λe q F D=>by rw[L e q] at D;cases D
 show((λe q F D=>absurd D (no e q F),(λο h=>nomatch h),(λο h=>nomatch h)),(λο h=>nomatch h),.nil,(λο h=>nomatch h),λe q ο F D=>absurd D (no e q F),U,O,λe q=>by rw[L e q];show .nil,N,.nil,λp=>⟨nofun,λ⟨e,q,F,D,_⟩=>absurd D (no e q F)⟩,λe q F D=>absurd D (no e q F),λο ο ο=>rfl,(λο ο h=>nomatch h))
theorem o8:DE []:=⟨.nil,λο h=>nomatch h⟩
theorem nh {g:Int} {m:!(Int×Int)} {S:!Sh} {es:!Ho} {e:Ho} {D:Int} (N:PC (qE m S) es) (U:(S.map Sh.n).Nodup) (V:((qE m S).map Sh.n).Nodup) (L:e∈es) (W:(e.m.map (·.1)).Nodup):CF g (qE m S) e D=CF g S e D:=by
 unfold CF;cases J:vD e D with
 |none=>rfl
 |some k=>
  let(s,F,q):=N.liv e L _ ((KH W).mp J);let q:s.n=k:=q;change (RG (qE m S) k).getD _=(RG S k).getD _;rw[<-q,mR V F];let(v,O,rfl,_):=LN F;have:=mR U O;change (some v.xs).getD _=(RG S v.n).getD _;rw[this]
theorem oh {g:Int} {S:!Sh} {e:Ho} {q:Int} {s:Sh} (F:(S.map Sh.n).Nodup) (D:s∈S) (h:vD e q>s.n):CF g S e q=s.xs:=by
 unfold CF;rw[h];change (RG S s.n).getD _=_;rw[mR F D];rfl
theorem RH.bank {A:rD} {B H:Hp} {r:Ro} {N:Hz} {l f g:Int} {L:!Tk} {v:V} {made:Int} {S:!Sh} {es:!Ho} (h:RH A B H r N l f g L [(inl 0,v)] made S es):∃e∈es,e.k=true/\e.n=0:=by
 let F:(inl 0:Key)∈(tF es).map λe=>(inl e.n:Key):=by rw[h.bm];show aA ..
 let(e,q,D):=cA.mp F;let(q,J):=HA.mp q;show(e,q,J,kB D)
structure En (g:Int) (S:!Sh) (es:!Ho) (kvs:!(!Key×V)):Prop where
 pc:PC S es
 h1:∀s∈S,s.h=1
 nn:(S.map Sh.n).Nodup
 ek:∀e∈es,e.k=true->e.n=0
 ee:∀e∈es,∀e'∈es,e'.k=e.k->e'.n=e.n->e'=e
 ux:∀e∈es,(e.m.map (·.1)).Nodup
 dn:(es.map Ho.d).Nodup
 o1:∀e∈es,e.k=false->e.n=1->e.m=[]
 ml:∀e∈es,e.m.length<=9000
 sl:S.length<=9000
 row:∀e∈es,e.k=true->∀k:Nat,CF g S e k=UI kvs g k
 bi:∀q v,SC kvs q>v->∃j:Int,v=.int j
section
variable {g la:Int} {S:!Sh} {es:!Ho} {ts:!(Bool×Int)} {kvs:!(!Key×V)}
theorem En.of (h:Cn g la S es ts kvs) (a1:(false,1)∉ts) (a0:∀e∈es,e.m.length<=9000) (a2:S.length<=9000):En g S es kvs:=by
 show(h.pc,h.h1,h.nn,h.ek,h.ee,h.ux,h.dn,λe D hk Y=>?_,a0,a2,λe D hk k=>?_,h.bi)
 .cases W:e.m with
  |nil=>rfl
  |cons a3 ys=>
   show absurd ((h.tl (false,1)).mpr (e,D,a3,by rw[W];show aA .., ?_)) a1;unfold pl;rw[fA (by rw[hk];decide),Y]
 .let U:pl e k=(true,(k:Int)):=by unfold pl;rw[jA hk]
  let F:∀xs:!Int,xs.length=(pw g).toNat->(∀b:Nat,(b:Int) < pw g->xs.getD b 0=RF kvs (bq (true,(k:Int)) b))->xs=UI kvs g k:=λxs F Z=>by
   unfold UI;show List.ext_getElem (by rw[F,iA,PB]) λi h1 h2=>?_;rw[List.getElem_map,List.getElem_range,<-Z i ⋯,OA,WA h1];rfl
  cases q:vD e k with
  |none=>
   unfold CF;rw[q];show F (List.replicate _ _) qB λb N=>?_;rw[h.b0 _ _ (λL=>(h.hit D (λL=>absurd (hk.symm.trans L) (by decide))).mp (U.symm ▸ L) q),OA,bC]
   split<;>rfl
  |some c=>
   let O:=(KH (h.ux e D)).mp q;let(s,J,V):=h.pc.liv e D _ O;obtain rfl:s.n=c:=V;rw[oh h.nn J q];show F _ (h.sz s J) λb N=>U ▸ h.bx e D _ O s J rfl b N
theorem En.out (h:En g S es kvs) {e:Ho} {n:Int} (F:e∈es) (hk:e.k=false) (J:e.n=n) (N:((qE e.m S).map Sh.n).Nodup):En g (qE e.m S) (YE n es) kvs:=by
 let sub:∀u∈YE n es,u∈es:=λu q=>(HA.mp q).1;let L:=h.pc.out h.dn (λU V k1 a0=>h.ee e F U V (k1.trans hk.symm) (a0.trans J.symm)) F hk J;show(L,λs Y=>?_,N,λu q=>h.ek u (sub u q),λu q O Z=>h.ee u (sub u q) O (sub O Z),λu q=>h.ux u (sub u q),h.dn.sublist (List.filter_sublist.map _),λu q=>h.o1 u (sub u q),λu q=>h.ml u (sub u q),zB (List.length_filterMap_le _ _) h.sl,λu q W k=>?_,h.bi)
 .let(D,h0,rfl,c):=LN Y;have:=h.h1 D h0;let c:0 < D.h - ((e.m.map (·.2)).count D.n:Int):=c;change D.h - ((e.m.map (·.2)).count D.n:Int)=1;omega
 .rw[nh L h.nn N q (h.ux u (sub u q))];show h.row u (sub u q) W k
theorem En.gone (h:En g S es kvs) (U:∀D∈es,D.k=false->D.n=1) {e:Ho} (N:e∈es) (hk:e.k=true):qE e.m S=[]:=by
 show List.filterMap_eq_nil_iff.mpr λs O=>?_;let c:=h.pc.cnt s O;let h1:=h.h1 s O;let V:s.n∈LD es:=List.count_pos_iff.mp ⋯;let(D,F,W,L,q):=BJ.mp V;cases J:D.k with
 |false=>rw[h.o1 D F J (U D F J)] at L;cases L
 |true=>
  obtain rfl:=h.ee e N D F (J.trans hk.symm) ((h.ek D F J).trans (h.ek e N hk).symm);have:0 < (D.m.map (·.2)).count s.n:=List.count_pos_iff.mpr (cA.mpr (W,L,q));unfold zG;rw[fA ⋯]
end
theorem St.same {A:rD} {q B H H':Hp} {r:Ro} {W:Hz} {l f g:Int} {U:!Tk} {L made:Int} {S:!Sh} {es:!Ho} {ts:!(Bool×Int)} {kvs:!(!Key×V)} {J:Int} {O bd N:Addr} {us:!V} {sp:!AG} {i j:Int} (h:St P w A q B H r W l f g U L made S es ts kvs J O bd N us sp i j) (s:JC H H'):St P w A q B H' r W l f g U L made S es ts kvs J O bd N us sp i j:=
 (h.rh.same s,h.cn,h.mx.keep λc o ο ho=>s c o ho,s _ _ h.htd,s _ _ h.hsl,⟨h.hus.1,λi s' Y=>(h.hus.2 i s' Y).elim λa D=>(a,D.1,s _ _ D.2)⟩,h.nb,h.sk,h.mo,h.si,h.ml,h.kj,λc o F=>⟨s _ _ (h.k0 c o F).1,(h.k0 c o F).2⟩,h.n1)
theorem St.ini {A:rD} {a4 B H:Hp} {r:Ro} {Y:Hz} {l f g:Int} {a9:Int} {q k0 k1 k2 N O U D:Int} {W bd a3 p ab a6 d' a5 a0 Z a1:Addr} (a2:RH A B H r Y l f g [(0,p,[(0,k0,3,some (0,N)),(8,k1,3,some (0,O)),(q,1,3,none)]),(1,ab,[(D,k2,3,some (0,U))])] [(inl 0,.int a9)] 0 [] [(false,0,a6,[]),(false,1,d',[]),(true,0,a5,[])])
  (a7:H bd>(.dK [(inr "last",.int (q * pw g))])) (ao:H W>(.dT [])) (ap:H a3>(.lst [.ref a0,.ref Z,.ref a1])) (h0:H a0>(.tup [.int 0,.int 0,.int k0,.int N])) (h1:H Z>(.tup [.int 0,.int 8,.int k1,.int O])) (h2:H a1>(.tup [.int 1,.int D,.int k2,.int U])) (nb:B bd≠none/\B W≠none/\B a3≠none) (av:r.most=64) (au:15<=q/\q < pw (l * f)) (ac:1<=k0/\k0<=6) (ad:1<=k1/\k1<=6) (ah:1<=k2/\k2<=6) (bx:0<=D/\D+6 < q) (aq:∀c o,a4 c>o->H c>o/\B c≠none/\c≠bd/\c≠W):
  St P w A a4 B H r Y l f g [(0,p,[(0,k0,3,some (0,N)),(8,k1,3,some (0,O)),(q,1,3,none)]),(1,ab,[(D,k2,3,some (0,U))])] a9 0 [] [(false,0,a6,[]),(false,1,d',[]),(true,0,a5,[])] [] [] q W bd a3 [.ref a0,.ref Z,.ref a1] [(0,0,k0,N),(0,8,k1,O),(1,D,k2,U)] 0 0:=by
 show(a2,Cn.start (λe F=>?_) (λe F hk=>?_) (λe F aw ar hk V=>a2.one ar F hk V) (AJ a2.nd).nd,(.int _ 0,[],⟨0,rfl⟩,.nil,.nil,by decide,.inl a7,.inl ⟨a7,rfl⟩),ao,ap,⟨rfl,λi s J=>?_⟩,nb,(.inl rfl,λs J=>?_,λn V=>?_,⋯,au.2),av,by decide,λe F=>?_,by decide,aq,λY=>nomatch Y)
 .simp only[uA,bB,zC] at F;let rfl||rfl||rfl:=F<;>rfl
 .simp only[uA,bB,zC] at F;let rfl||rfl||rfl:=F<;>first|rfl|cases hk
 .match i,J with
  |0,J=>obtain rfl:=rA J;show(_,rfl,h0)
  |1,J=>obtain rfl:=rA J;show(_,rfl,h1)
  |2,J=>obtain rfl:=rA J;show(_,rfl,h2)
 .simp only[uA,bB,zC] at J;let rfl||rfl||rfl:=J
  .show(ac.1,DB _,by change 0+k0<=q;omega,_,aA .., rfl,λj a8 L=>?_);let L:j < k0:=L;rw[DJ,jA (by change 0<=0+j/\0+j < 0+k0;omega)];change some ((3:Int),some ((0:Int),N+(0+j) - 0))>(3,some (0,N+j));rw[show N+(0+j) - 0=N+j by omega]
  .show(ad.1,by change (0:Int)<=8;decide,by change 8+k1<=q;omega,_,aA .., rfl,λj a8 L=>?_);let L:j < k1:=L;rw[DJ,fA (by change ¬(0<=8+j/\8+j < 0+k0);omega),DJ,jA (by change 8<=8+j/\8+j < 8+k1;omega)];change some ((3:Int),some ((0:Int),O+(8+j) - 8))>(3,some (0,O+j));rw[show O+(8+j) - 8=O+j by omega]
  .show(ah.1,bx.1,by change D+k2<=q;omega,_,qA _ (aA ..),rfl,λj a8 L=>?_);let L:j < k2:=L;rw[DJ,jA (by change D<=D+j/\D+j < D+k2;omega)];change some ((3:Int),some ((0:Int),U+(D+j) - D))>(3,some (0,U+j));rw[show U+(D+j) - D=U+j by omega]
 .let rfl||(_,V):=V
  .show(_,aA .., rfl,?_);rw[DJ,fA (by change ¬(0<=q/\q < 0+k0);omega),DJ,fA (by change ¬(8<=q/\q < 8+k1);omega),DJ,jA (by change q<=q/\q < q+1;omega)]
   rfl
  .show absurd V (by change ¬(3=5);decide)
 .simp only[uA,bB,zC] at F;let rfl||rfl||rfl:=F<;>show DB 0
def EJ (P:Program) (w:World) (A:rD) (G0 B:Hp) (r:Ro) (z:Hz) (l f g:Int) (t0 t1:Tk) (many la:Int) (td bd sl:Addr) (a b c:AG) (u v:Prop) (i:Nat) (H:Hp):Prop:=∃more made S es ts kvs us sp ii jj,St P w A G0 B H r z l f g (t0::t1::more) many made S es ts kvs la td bd sl us sp ii jj/\sp[2]?>c/\((more=[]/\sp=[a,b,c]/\ii=(i:Int)/\jj=(i:Int)/\u)\/((∃p,more=[(2,p,t0.rs)])/\sp.length=5/\ii=(i:Int)+1/\jj=(i:Int)+20/\v))
theorem EJ.same {A:rD} {D B H H':Hp} {r:Ro} {V:Hz} {l f g:Int} {N O:Tk} {J F:Int} {U bd L:Addr} {a b c:AG} {u v:Prop} {i:Nat} (h:EJ P w A D B r V l f g N O J F U bd L a b c u v i H) (s:JC H H'):EJ P w A D B r V l f g N O J F U bd L a b c u v i H':=by
 let(more,made,S,es,ts,kvs,us,sp,Y,Z,W,q):=h;show(more,made,S,es,ts,kvs,us,sp,Y,Z,W.same s,q)
theorem EJ.k0 {A:rD} {F B H:Hp} {r:Ro} {Y:Hz} {l f g:Int} {U V:Tk} {N L:Int} {W bd O:Addr} {a b c:AG} {u v:Prop} {i:Nat} (h:EJ P w A F B r Y l f g U V N L W bd O a b c u v i H) {D:Addr} {o:HO} (hd:F D>o):H D>o:=by
 let(more,made,S,es,ts,kvs,us,sp,Z,a0,J,q):=h;show (J.k0 D o hd).1
structure p8 (P:Program) (w:World) (A:rD) (B H:Hp) (r:Ro) (z:Hz) (l f g:Int) (tks:!Tk) (many made:Int) (S:!Sh) (es:!Ho) (kvs:!(!Key×V)) (la:Int) (bd sl:Addr) (us:!V) (u:Addr) (xs:!V):Prop where
 rh:RH A B H r z l f g tks [(inl 0,.int many)] made S es
 en:En g S es kvs
 mx:yD P w H bd "last" (.int (la * pw g)) kvs
 sl:H sl>(.lst us)
 gu:H u>(.tup xs)
def FJ (H:Hp) (a:Addr) (o:HO) (G:Hp):Prop:=JC H G/\H a=none/\G a>o
def UP (H:Hp) (cl:Addr) (G:Hp):Prop:=∃cs:!Int,JC H G/\H cl=none/\G cl>(.lst (cs.map V.int))/\cs.length<=55
def VP (many:Int) (H:Hp) (sl:Addr) (G:Hp):Prop:=∃(a0 a1:Addr) (k0 t0 k1 t1:Int),(1<=k0/\0<=t0/\t0+k0<=many)/\(1<=k1/\0<=t1/\t1+k1<=many)/\JC H G/\H sl=none/\G sl>(.lst [.ref a0,.ref a1])/\G a0>(.tup [.int 0,.int 0,.int k0,.int t0])/\G a1>(.tup [.int 0,.int 8,.int k1,.int t1])
def WP (A:rD) (B:Hp) (r:Ro) (z:Hz) (l fn gr:Int) (p p' d d' bd9:Addr) (many la:Int) (sl a0 a1:Addr) (H9 G:Hp):Prop:=∃(a2:Addr) (k2 t2 x2:Int),(1<=k2/\0<=t2/\t2+k2<=many)/\(0<=x2/\x2 < la - 6)/\(∀c o,H9 c>o->c≠sl->G c>o)/\RH A B G r z l fn gr [(0,p,[]),(1,p',[])] [(inl 0,.int many)] 0 [] [(false,0,d,[]),(false,1,d',[]),(true,0,bd9,[])]/\G sl>(.lst [.ref a0,.ref a1,.ref a2])/\G a2>(.tup [.int 1,.int x2,.int k2,.int t2])
def QK (K:W.Frag):Sp:=λvs H Q ο=>∃(a:Addr) (ns:!Int),vs=[.ref a]/\pD K H a (ns.map V.int)/\ns.length<=63/\∀H',Q (.bl true) H'
theorem ph (T:CD K mg A):OF P w K mg base "law" TQ ["_law_script","_law_levels","_law_fan","_law_grain","_law_size","_law_last","_law_many","_law_rooms","_law_bank","_law_cells","_law_spans","_law_span_here","_law_boxes","_law_touched","_law_k","_law_cell"] 16 (QK K):=by
 let l0:=@gM P w K mg base A T;intro f nr nd ot s H vs Q E L D;let(a,ns,rfl,bi,o2,n3):=D;let bn:=@jM P w K mg base A T a ns;show(_,(aD (SD (i:=1) XG.nd rfl (Or.inl rfl) (KD LF NC (KD OH (XD bn (-L) ZC (EC (BC 0) (EC NC IC))) NC)))
   (aD (SD (i:=2) XG.nd rfl (Or.inl rfl) (KD LF NC (KD OH (XD bn (-L) ZC (EC (BC 0) (EC NC IC))) NC)))
   (aD (SD (i:=3) XG.nd rfl (Or.inl rfl) (KD OH (XD bn (-L) ZC (EC (BC 0) (EC NC IC))) NC))
   (aD (SD (i:=4) XG.nd rfl (Or.inl rfl) (KD vZ NC (BC 3)))
   (aD (SD (i:=5) XG.nd rfl (Or.inl rfl) (KD dI (KD vZ NC (KD OJ (BC 1) (BC 2))) NC))
   (aD (SD (i:=6) XG.nd rfl (Or.inl rfl) (KD LF NC (KD OH (XD bn (-L) ZC (EC (BC 0) (EC NC IC))) NC)))
   (EG (SD (i:=7) XG.nd rfl (Or.inl rfl) (rS (vg T) (-L) ZC (EC (rS l0 (-L) ZC (EC (BC 1) (EC (BC 2) (EC (BC 3) IC)))) (EC NC IC))))
   (aD (lE (cJ (BC 7) T.Ac (zP T) (-L) ZC))
   (aD (lE (cJ (BC 7) T.Ac (zP T) (-L) ZC))
   (EG (SD (i:=8) XG.nd rfl (Or.inl rfl) (GD (BC 7) T.Ac (CP T) (-L) ZC (EC (BC 6) IC)))
   (EG (SD (i:=9) XG.nd rfl (Or.inl rfl) (vL sO (BC 0) (aJ NC) (aJ NC)))
   (EG (SD (i:=10) XG.nd rfl (Or.inl rfl) (oJ (EC (XD (HP T) (-L) ZC (EC (XD bn (-L) ZC (EC (BC 0) (EC NC IC))) (EC NC (EC NC (EC (BC 6) IC))))) (EC (XD (HP T) (-L) ZC (EC (XD bn (-L) ZC (EC (BC 0) (EC NC IC))) (EC NC (EC NC (EC (BC 6) IC))))) IC))))
   (EG (lE (zL PySem.F.plainAttrs_list PySem.F.slot_list_append PySem.F.type_list_append AL (BC 10) (EC (XD (HP T) (-L) ZC (EC (XD bn (-L) ZC (EC (BC 0) (EC NC IC))) (EC NC (EC (KD OH (XD bn (-L) ZC (EC (BC 0) (EC NC IC))) (KD dI (BC 5) NC)) (EC (BC 6) IC))))) IC)))
   (EG (dJ nB rfl (YI (BC 10)) (XF (i:=11) XG.nd rfl (Or.inl rfl)) (bD (lE (GD (BC 7) T.Ac (v7 T) (-L) ZC (@EC _ _ _ _ _ (WD vE (BC 11) NC (λο ο=>rfl)) (@EC _ _ _ _ _ (WD vE (BC 11) NC (λο ο=>rfl)) (@EC _ _ _ _ _ (WD vE (BC 11) NC (λο ο=>rfl)) (@EC _ _ _ _ _ NC (@EC _ _ _ _ _ (BC 8) (@EC _ _ _ _ _ (WD vE (BC 11) NC (λο ο=>rfl)) IC rfl) rfl) rfl) rfl) rfl) rfl)))))
   (EG (lE (GD (BC 7) T.Ac (Zg T) (-L) ZC (EC NC (EC (BC 5) (EC NC (EC NC IC))))))
   (@EG _ _ _ _ _ (@SD _ _ 12 _ _ _ _ XG.nd rfl (Or.inl rfl) (@wb _ _ _ _ _ (Wa xF (KD OJ (BC 5) (BC 4)) Va) rfl rfl (List.cons_ne_nil _ _) (show (1:Nat)<=15 by decide)) rfl (Or.inl rfl))
   (EG (SD (i:=13) XG.nd rfl (Or.inl rfl) Ua)
   (EG (dJ nB rfl (cc rfl T.Jo (EC (BC 9) IC)) (pZ (n:=2) rfl (YN (XF (i:=14) XG.nd rfl (Or.inl rfl)) (YN (XF (i:=15) XG.nd rfl (Or.inl rfl)) oZ))) (EG (ME (yF fI (BC 14) (KD vQ (YF ZI rfl T.Bh PySem.boot_len (EC (BC 9) IC)) NC) (UC _)) (bD (ME (JG (rG (XD (OP T) (-L) ZC (@EC _ _ _ _ _ (BC 7) (@EC _ _ _ _ _ (BC 10) (@EC _ _ _ _ _ (BC 12) (@EC _ _ _ _ _ (BC 13) (@EC _ _ _ _ _ (BC 4) IC rfl) rfl) rfl) rfl) rfl)))) (bD (PD ZH)) OE)) OE)
   (aD (ME (JG (rG (XD (MP T) (-L) ZC (@EC _ _ _ _ _ (BC 7) (@EC _ _ _ _ _ (BC 10) (@EC _ _ _ _ _ (BC 12) (@EC _ _ _ _ _ (BC 13) (@EC _ _ _ _ _ (BC 15) (@EC _ _ _ _ _ (BC 4) (@EC _ _ _ _ _ (BC 5) IC rfl) rfl) rfl) rfl) rfl) rfl) rfl)))) (bD (PD ZH)) OE)
   (bD (ME (JG (rG (XD (AV T) (-L) ZC (EC (cJ (BC 7) T.Ac (GM T) (-L) ZC) (EC (YF lc rfl T.Bh PySem.boot_len (EC (BC 13) IC)) IC))))) (bD (PD ZH)) OE)))))
   (EG (lE (GD (BC 7) T.Ac (UM T) (-L) ZC (EC NC IC)))
   (EG (ME (JG (rG (XD (IP T) (-L) ZC (EC (BC 7) (EC (BC 8) IC))))) (bD (PD ZH)) OE)
   (EG (lE (GD (BC 7) T.Ac (GP T) (-L) ZC (EC NC (EC (WD vE (WD lI (BC 10) NC (λο ο=>rfl)) NC (λο ο=>rfl)) (EC (WD vE (WD lI (BC 10) NC (λο ο=>rfl)) NC (λο ο=>rfl)) IC)))))
   (EG (ME (yF tL (YF ZI rfl T.Bh PySem.boot_len (EC (BC 10) IC)) NC (UC _)) (bD (lE (GD (BC 7) T.Ac (UM T) (-L) ZC (EC NC IC)))) OE)
   (aD (ME (PW.pt (SN (JG (rG (XD (QP T) (-L) ZC (@EC _ _ _ _ _ (BC 7) (@EC _ _ _ _ _ (BC 8) (@EC _ _ _ _ _ (BC 6) (@EC _ _ _ _ _ (BC 4) (@EC _ _ _ _ _ (BC 12) IC rfl) rfl) rfl) rfl) rfl)))) (fL (JG (rG (XD (IP T) (-L) ZC (EC (BC 7) (EC (BC 8) IC)))))))) (bD (PD ZH)) OE)
   (aD (lE (GD (BC 7) T.Ac (GP T) (-L) ZC (EC NC (EC NC (EC (BC 6) IC)))))
   (bD (PD (XI (PH gI (GD (BC 7) T.Ac (PK T) (-L) ZC (EC (BC 8) IC)) CG (UC _)) (gL (XD (AV T) (-L) ZC (EC (cJ (BC 7) T.Ac (GM T) (-L) ZC) (EC NC IC))))))))))))))))))))))))))))))),?_)
 unfold p5;rfl';obtain⟨l,jr⟩:∃l,l=2+ns.getD 0 0 % 2:=⟨_,rfl⟩
 obtain⟨F,jp⟩:∃F,F=2+ns.getD 1 0 % 7:=⟨_,rfl⟩
 let jq:0<=ns.getD 2 0 % 5/\ns.getD 2 0 % 5<=4:=⋯;let bw:1<=1+ns.getD 3 0 % 6/\1+ns.getD 3 0 % 6<=6:=⋯;let e7:2<=l/\l<=3:=⋯;let gs:2<=F/\F<=8:=⋯;rw[<-jr,<-jp];generalize ns.getD 2 0 % 5=gr at *;generalize 1+ns.getD 3 0 % 6=many at *;clear jr jp;let gt:gd l F gr:=(e7.1,e7.2,⋯,gs.2,jq.1,⋯)
 let ol:=II gt;let nz:=xS e7.1 e7.2 (show 1<=F by omega) gs.2;let ms:4<=l * F:=by
  have:2 * 2<=l * F:=Int.mul_le_mul e7.1 gs.1 ⋯ ⋯;omega
 let mv:16<=pw (l * F):=by
  have:=vS ms ⋯;let e:pw 4=16:=by decide
  omega
 let cv:(1:Int) * 2 ^ gr.toNat=pw gr:=by unfold pw;omega
 let lr:(1:Int) * 2 ^ (l * F).toNat=pw (l * F):=by unfold pw;omega
 rw[cv,lr];show(bi,bi,bi,jq.1,⋯,by decide,.inl ⟨⋯,⋯⟩,⋯,⋯,by decide,bi,?_);generalize nx:pw (l * F) - 1=la at *;show(λN c3=>∃r D,N=[↑a,some (.int l),some (.int F),some (.int gr),some (.int (pw gr)),some (.int la),some (.int many),↑r.p,none,none,none,none,none,none,none,none]/\r.most=64/\RB A c3 r D l F gr [] []/\JC H c3/\(∀e∈oG r D [],H e=none)/\H r.p=none/\(c3 r.bd>(.dK [])/\r.bd∉oG r D []/\H r.bd=none),?_,λow c3=>?_)
 .unfold HI;rfl';show λx hu n1 mb o1=>?_;rw[jA (sf gt)];show lh gt n1 mb (λr D H' mr f6 m0 br gx av=>?_);show(rfl,r,rfl,mr,D,m0,f6,br,gx,av)
 rintro⟨r,D,rfl,mt,g4,f6,br,oa,cr⟩;rfl';let(fu,ip):=g4.s.me;show(fu,_,ip,FE ∅,UO r D l F gr [] [] (rfl,g4,by decide,λk p aw ec b2 e0 gx hd gv=>?_));obtain rfl:=k8 (i:=0) rfl b2;let e0:RB A ec r D l F gr [(0,p,[])] [(0,aw,[])]:=e0;let(fv,iq):=e0.s.me;show(fv,_,iq,FE ∅,UO r D l F gr _ _ (rfl,e0,(by change 1 < 1000;decide),λk U d' ee m1 et mu jo gw=>?_));obtain rfl:=k8 (i:=1) rfl m1;let et:RB A ee r D l F gr [(0,p,[]),(1,U,[])] [(0,aw,[]),(1,d',[])]:=et;let bz:∀{c},c=r.pd\/c=D.td\/c=D.bd->c∈oG r D []:=λh=>by
  unfold oG;let h||h||h:=h<;>rw[h]<;>simp
 let f5:r.bd≠r.pd/\r.bd≠D.td:=⟨λq=>cr.2.1 (bz (.inl q)),λq=>cr.2.1 (bz (.inr (.inl q)))⟩
 let gp:=gv _ _ cr.1 f5.1 f5.2;let j1:=gw _ _ gp f5.1 f5.2;let js:r.bd∉oG r D [(0,aw,[]),(1,d',[])]:=λq=>by
  let dr:oG r D [(0,aw,[]),(1,d',[])]=oG r D []++[aw,d']:=rfl;rw[dr] at q;let h||h:=kA.mp q
  .show cr.2.1 h
  .simp only[uA,bB,zC] at h;let h||h:=h
   .rw[<-h,cr.1] at hd;cases hd
   .rw[<-h,gp] at jo;cases jo
 let hc:JC H ec:=λc o h=>gv _ _ (f6 _ _ h) (OD h (br _ (bz (.inl rfl)))) (OD h (br _ (bz (.inr (.inl rfl)))));let kk:JC H ee:=λc o h=>gw _ _ (hc _ _ h) (OD h (br _ (bz (.inl rfl)))) (OD h (br _ (bz (.inr (.inl rfl)))));let ob:H p=none:=FG f6 gx;let oe:H U=none:=FG hc mu;let(B,g7,m3,_):=et.rh j1 js;clear g4 e0 et gv gw gp j1 ip iq;show(λN J=>∃B av,N=[↑a,some (.int l),some (.int F),some (.int gr),some (.int (pw gr)),some (.int la),some (.int many),↑r.p,some (.int 0),none,none,none,none,none,none,none]/\RH A B J r D l F gr [(0,p,[]),(1,U,[])] [(inl 0,.int many)] 0 [] [(false,0,aw,[]),(false,1,d',[]),(true,0,av,[])]/\JC H J,?_,λp9 ef=>?_)
 .rfl';let(ld,lz):=g7.s.me;show(ld,_,lz,FE ∅,VO B r D l F gr _ [] 0 [] _ many (rfl,g7,⟨bw.1,⋯⟩,by decide,λk av ef m2 nw ay lv=>?_));obtain rfl:k=0:=by
   let h||h:=Nat.eq_zero_or_pos k
   .show h
   .show absurd (m2.2 0 h) (by unfold JD;simp)
  show(rfl,B,av,ay,λc o h=>lv _ _ (kk _ _ h) (OD h (br _ (bz (.inr (.inr rfl))))) (OD h cr.2.2))
 rintro⟨bo,av,rfl,ay,dl⟩;clear g7 m3 js cr hc kk br bz;show(λN J=>∃(Y:Addr),N=[↑a,some (.int l),some (.int F),some (.int gr),some (.int (pw gr)),some (.int la),some (.int many),↑r.p,some (.int 0),↑Y,none,none,none,none,none,none]/\UP ef Y J,?_,λpa hr=>?_)
 .rfl';show(_,dl.seq bi,λY e5=>?_);let m5:hE (ns.map V.int) (some 8) (some 68)=((ns.take 68).drop 8).map V.int:=by rw[show hE (ns.map V.int) (some 8) (some 68)=((ns.map V.int).take 68).drop 8 from XU (lo:=8) (hi:=68),<-List.map_take,<-List.map_drop]
  rw[m5];let jj:((ns.take 68).drop 8).length<=55:=by rw[TB,aB];omega
  unfold UP;show(_,(rF e5).1,e5,(rF e5).2,jj)
 rintro⟨Y,rfl,a6,c1,e5,g0,jj⟩;let bp:=ay.same c1;let kc:=ay.ex e5;show(λN J=>∃(Z:Addr),N=[↑a,some (.int l),some (.int F),some (.int gr),some (.int (pw gr)),some (.int la),some (.int many),↑r.p,some (.int 0),↑Y,↑Z,none,none,none,none,none]/\VP many hr Z J,?_,λnc kx=>?_)
 .rfl';show((dl.trans c1).seq bi,_,0,0,many,rfl,bw.1,bw.2,λk0 O a0 hs h3 hh h5 hf os lw=>(((dl.trans c1).trans hf).seq bi,_,0,8,many,rfl,bw.1,bw.2,λk1 a5 cu kw h4 hj h6 hg f4 lx Z d1=>?_));let c2:=(rF (o:=.lst [V.ref a0,V.ref cu]) d1).1;unfold VP;show(a0,cu,k0,O,k1,a5,(h3,hh,h5),(h4,hj,h6),(hf.trans hg).trans c2,FG (hf.trans hg) d1,(rF d1).2,c2 _ _ (hg _ _ lw),c2 _ _ lx)
 rintro⟨Z,rfl,a0,cu,k0,O,k1,a5,⟨h3,hh,h5⟩,⟨h4,hj,h6⟩,c2,d1,dv,eo,g1⟩;let ha:=bp.ex d1;let io:=c2 _ _ g0;let he:=c1.trans c2;let ny:9<=la - 6:=⋯;show(λN J=>N=[↑a,some (.int l),some (.int F),some (.int gr),some (.int (pw gr)),some (.int la),some (.int many),↑r.p,some (.int 0),↑Y,↑Z,none,none,none,none,none]/\WP A bo r D l F gr p U aw d' av many la Z a0 cu kx J,?_,λn9 fq=>?_)
 .rfl';show(.inl (rfl,_,pD.of dv),(dl.trans he).seq bi,(dl.trans he).seq bi,⋯,_,1,ns.getD 7 0 % (la - 6),many,rfl,bw.1,bw.2,λk2 a2 eh np k4 ko k5 f7 oq hz=>?_);let g2:=f7 _ _ dv;show(_,g2,(by change 2 < 16777216;decide),by unfold WP;show(eh,k2,a2,_,(k4,ko,k5),⟨Int.emod_nonneg _ ⋯,oC _ ⋯⟩,λc o h n=>by rw[VC n];show f7 _ _ h,((bp.same c2).same f7).spn g2 (f7 _ _ eo) ha XE jD,jD,by rw[VC (cD hz g2 nofun)];show hz))
 rintro⟨rfl,eh,k2,a2,a1,⟨k4,ko,k5⟩,⟨ou,ov⟩,f2,eu,cw,dz⟩;let dw:=f2 _ _ eo (cD eo dv nofun);let dy:=f2 _ _ g1 (cD g1 dv nofun);let ii:=f2 _ _ io (OD g0 d1);clear ay bp c1 c2 he f2 g0 dv eo g1 io;let(_,(_,_,cy,_,_),_):=eu.h.st _ (aA ..);let(_,(_,_,cz,_,_),_):=eu.h.st _ (qA _ (aA ..));show(λN J=>∃ah,N=[↑a,some (.int l),some (.int F),some (.int gr),some (.int (pw gr)),some (.int la),some (.int many),↑r.p,some (.int 0),↑Y,↑Z,ah,none,none,none,none]/\RH A bo J r D l F gr (MN p U (0,k0,3,some (0,O)) (8,k1,3,some (0,a5)) (a1,k2,3,some (0,a2)) 3) [(inl 0,.int many)] 0 [] [(false,0,aw,[]),(false,1,d',[]),(true,0,av,[])]/\∀c o,fq c>o->c≠p->c≠U->J c>o,?_,λoy ky=>?_)
 .rfl';show⟨⟨_,pD.of cw⟩,LQ (K:=K) (xs:=[V.ref a0,V.ref cu,V.ref eh]) (λj N J=>∃ah,N=[↑a,some (.int l),some (.int F),some (.int gr),some (.int (pw gr)),some (.int la),some (.int many),↑r.p,some (.int 0),↑Y,↑Z,ah,none,none,none,none]/\RH A bo J r D l F gr (MN p U (0,k0,3,some (0,O)) (8,k1,3,some (0,a5)) (a1,k2,3,some (0,a2)) j) [(inl 0,.int many)] 0 [] [(false,0,aw,[]),(false,1,d',[]),(true,0,av,[])]/\∀c o,fq c>o->c≠p->c≠U->J c>o) (_,rfl,eu,λο ο h ο ο=>h) (λj N J _ cs=>by let(_,cs):=cs;show pD.of (cs.2.2 _ _ cw (cD cw cy nofun) (cD cw cz nofun))) (λj v N J bt=>?_) (λN J=>?_)⟩
  .rintro⟨ah,rfl,aq,kp⟩;let mp:=(QA.mp bt).1;let d0:DE [((0,k0,3,some (0,O)):Rn)]:=RP (by change 0 < k0;omega);let ea:DE [((0,k0,3,some (0,O)):Rn),(8,k1,3,some (0,a5))]:=sR d0 (by change 0 < k1;omega) (λr L=>by rw[bA.mp L];unfold RC;change 0+k0 < 8;omega)
   match j,mp,bt,aq with
   |0,_,bt,aq=>
    .obtain rfl:v=.ref a0:=(rA bt).symm;let ao:=kp _ _ dw (cD dw cy nofun) (cD dw cz nofun);let e9:=d0;rfl';let(c9,cn):=aq.s.me;let(au,W):=tR (R:=(0,k0,3,some (0,O))) o8 (by change 0 < k0;omega) (λο D=>nomatch D);show(c9,_,cn,FE ∅,_,uD.of ao,_,rfl,_,uD.of ao,_,rfl,_,uD.of ao,_,rfl,_,uD.of ao,_,rfl,bo,r,D,l,F,gr,_,_,0,[],_,0,0,k0,3,O,some 0,(0,p,[]),rfl,aq,by simp[MN],rfl,by unfold UD;show pA ⋯,⟨by decide,by decide⟩,λft cq=>(many,by cases cq;rfl,⋯,⋯),au,by rw[show GG ((0,p,[]):Tk).rs 0 k0 3 (BE (some 0) O)=[]++[(0,k0,3,some (0,O))] from W];show e9.ord,by rw[show GG ((0,p,[]):Tk).rs 0 k0 3 (BE (some 0) O)=[]++[(0,k0,3,some (0,O))] from W];simp,λdm ac bu=>?_);rw[show GG ((0,p,[]):Tk).rs 0 k0 3 (BE (some 0) O)=[]++[(0,k0,3,some (0,O))] from W] at ac;show⟨ac,λc o h az ar=>bu _ _ (kp _ _ h az ar) (by assumption)⟩
   |1,_,bt,aq=>
    .obtain rfl:v=.ref cu:=(rA bt).symm;let ao:=kp _ _ dy (cD dy cy nofun) (cD dy cz nofun);let e9:=ea;rfl';let(c9,cn):=aq.s.me;let(au,W):=tR (R:=(8,k1,3,some (0,a5))) d0 (by change 0 < k1;omega) (λr L=>by rw[bA.mp L];unfold RC;change 0+k0 < 8;omega);show(c9,_,cn,FE ∅,_,uD.of ao,_,rfl,_,uD.of ao,_,rfl,_,uD.of ao,_,rfl,_,uD.of ao,_,rfl,bo,r,D,l,F,gr,_,_,0,[],_,0,8,k1,3,a5,some 0,(0,p,[(0,k0,3,some (0,O))]),rfl,aq,by simp[MN],rfl,by unfold UD;show pA ⋯,⟨by decide,by decide⟩,λft cq=>(many,by cases cq;rfl,⋯,⋯),au,by rw[show GG ((0,p,[(0,k0,3,some (0,O))]):Tk).rs 8 k1 3 (BE (some 0) a5)=[(0,k0,3,some (0,O))]++[(8,k1,3,some (0,a5))] from W];show e9.ord,by rw[show GG ((0,p,[(0,k0,3,some (0,O))]):Tk).rs 8 k1 3 (BE (some 0) a5)=[(0,k0,3,some (0,O))]++[(8,k1,3,some (0,a5))] from W];simp,λdm ac bu=>?_);rw[show GG ((0,p,[(0,k0,3,some (0,O))]):Tk).rs 8 k1 3 (BE (some 0) a5)=[(0,k0,3,some (0,O))]++[(8,k1,3,some (0,a5))] from W] at ac;show⟨ac,λc o h az ar=>bu _ _ (kp _ _ h az ar) (by assumption)⟩
   |2,_,bt,aq=>
    .obtain rfl:v=.ref eh:=(rA bt).symm;let ao:=kp _ _ dz (cD dz cy nofun) (cD dz cz nofun);let e9:=(RP (by change 0 < k2;omega):DE [((a1,k2,3,some (0,a2)):Rn)])
     rfl';let(c9,cn):=aq.s.me;let(au,W):=tR (R:=(a1,k2,3,some (0,a2))) o8 (by change 0 < k2;omega) (λο D=>nomatch D);show(c9,_,cn,FE ∅,_,uD.of ao,_,rfl,_,uD.of ao,_,rfl,_,uD.of ao,_,rfl,_,uD.of ao,_,rfl,bo,r,D,l,F,gr,_,_,0,[],_,1,a1,k2,3,a2,some 0,(1,U,[]),rfl,aq,by simp[MN],rfl,by unfold UD;show pA ⋯,⟨by decide,by decide⟩,λft cq=>(many,by cases cq;rfl,⋯,⋯),au,by rw[show GG ((1,U,[]):Tk).rs a1 k2 3 (BE (some 0) a2)=[]++[(a1,k2,3,some (0,a2))] from W];show e9.ord,by rw[show GG ((1,U,[]):Tk).rs a1 k2 3 (BE (some 0) a2)=[]++[(a1,k2,3,some (0,a2))] from W];simp,λdm ac bu=>?_);rw[show GG ((1,U,[]):Tk).rs a1 k2 3 (BE (some 0) a2)=[]++[(a1,k2,3,some (0,a2))] from W] at ac;show⟨ac,λc o h az ar=>bu _ _ (kp _ _ h az ar) (by assumption)⟩
  .show id
 rintro⟨ah,rfl,aq,kp⟩;let d0:DE [((0,k0,3,some (0,O)):Rn)]:=RP (by change 0 < k0;omega);let ea:DE [((0,k0,3,some (0,O)):Rn),(8,k1,3,some (0,a5))]:=sR d0 (by change 0 < k1;omega) (λr L=>by rw[bA.mp L];unfold RC;change 0+k0 < 8;omega);let ge:∀r∈[((0,k0,3,some (0,O)):Rn),(8,k1,3,some (0,a5))],RC r < la:=λr L=>by
  simp only[uA,bB,zC] at L;let rfl||rfl:=L
  .unfold RC;change 0+k0 < la;omega
  .unfold RC;change 8+k1 < la;omega
 let ju:DE ([((0,k0,3,some (0,O)):Rn),(8,k1,3,some (0,a5))]++[(la,1,3,none)]):=sR ea (Int.zero_lt_one) ge;let(au,W):=tR (R:=(la,1,3,none)) ea (Int.zero_lt_one) ge;let W:GG ((0,p,[(0,k0,3,some (0,O)),(8,k1,3,some (0,a5))]):Tk).rs la 1 3 (BE none 0)=[(0,k0,3,some (0,O)),(8,k1,3,some (0,a5))]++[(la,1,3,none)]:=W;show(λN J=>N=[↑a,some (.int l),some (.int F),some (.int gr),some (.int (pw gr)),some (.int la),some (.int many),↑r.p,some (.int 0),↑Y,↑Z,ah,none,none,none,none]/\RH A bo J r D l F gr [(0,p,[(0,k0,3,some (0,O)),(8,k1,3,some (0,a5)),(la,1,3,none)]),(1,U,[(a1,k2,3,some (0,a2))])] [(inl 0,.int many)] 0 [] [(false,0,aw,[]),(false,1,d',[]),(true,0,av,[])]/\∀c o,ky c>o->c≠p->J c>o,?_,λoz dm=>?_)
 .rfl';let(c9,cn):=aq.s.me;show(c9,_,cn,FE ∅,XO bo r D l F gr _ _ 0 [] _ 0 la 1 3 0 none (0,p,[(0,k0,3,some (0,O)),(8,k1,3,some (0,a5))]) (rfl,aq,by simp[MN],rfl,by unfold UD;show pA ⋯,⟨by decide,by decide⟩,(λft cq=>nomatch cq),au,by rw[W];show ju.ord,by rw[W];simp,λdm ac bu=>?_));rw[W] at ac
  first|exact(rfl,ac,bu)|exact⟨ac,bu⟩
 rintro⟨rfl,ac,bu⟩;show(λN J=>∃a3:Addr,N=[↑a,some (.int l),some (.int F),some (.int gr),some (.int (pw gr)),some (.int la),some (.int many),↑r.p,some (.int 0),↑Y,↑Z,ah,↑a3,none,none,none]/\FJ dm a3 (.dK [((inr "last":Key),V.int (la * pw gr))]) J,?_,λp0 kv=>?_)
 .rfl';intro a3 cx;show(.inr ⟨⋯,⋯⟩,[(inr "last",.int (la * pw gr))],rfl,(by change 1<=15;decide),?_);rw[show zF [] [((inr "last":Key),V.int (la * pw gr))]=[((inr "last":Key),V.int (la * pw gr))] from rfl];unfold FJ;show((rF cx).1,cx,(rF cx).2)
 rintro⟨a3,rfl,hb,cx,i2⟩;show(λN J=>∃a9:Addr,N=[↑a,some (.int l),some (.int F),some (.int gr),some (.int (pw gr)),some (.int la),some (.int many),↑r.p,some (.int 0),↑Y,↑Z,ah,↑a3,↑a9,none,none]/\FJ kv a9 (.dT []) J,?_,λp1 fr=>?_)
 .unfold tDNewT;rfl';intro a9 d2;unfold FJ;show((rF d2).1,d2,(rF d2).2)
 rintro⟨a9,rfl,fa,d2,en⟩;let kf:=ac.ex cx;let g6:=ac.same hb;let kj:=g6.ex d2;let iv:=g6.same fa;let em:=fa _ _ i2;let dk:∀{c:Addr} {o:HO},fq c>o->(∀C hu fs,o≠.ins C hu fs)->fr c>o:=λ{c o} h n=>by
  let az:c≠p:=cD h cy (n _ _ _);let ar:c≠U:=cD h cz (n _ _ _);show fa _ _ (hb _ _ (bu _ _ (kp _ _ h az ar) az))
 let b0:=dk ii (λο ο ο D=>nomatch D);let er:=dk cw (λο ο ο D=>nomatch D);let hy:=dk dw (λο ο ο D=>nomatch D);let i1:=dk dy (λο ο ο D=>nomatch D);let ih:=dk dz (λο ο ο D=>nomatch D);let(a7,iw,ir):=iv.rebase;let eb:∀{c:Addr} {o:HO},fr c>o->¬iG r D [] [(false,0,aw,[]),(false,1,d',[]),(true,0,av,[])] c->a7 c≠none:=λh n=>by
  rw[ir _ n,h];show λD=>nomatch D
 let az:Y≠a3:=cD b0 em nofun;let ar:Y≠a9:=cD b0 en nofun;let dd:Y≠Z:=λe=>by
  rw[e,er] at b0;let b0:=congrArg List.head? (HO.lst.inj (rA b0));cases a6 with
  |nil=>cases b0
  |cons c a6=>cases b0
 let be:EJ P w A (λc=>if c=Y then some (.lst (a6.map V.int)) else none) a7 r D l F gr (0,p,[(0,k0,3,some (0,O)),(8,k1,3,some (0,a5)),(la,1,3,none)]) (1,U,[(a1,k2,3,some (0,a2))]) many la a9 a3 Z (0,0,k0,O) (0,8,k1,a5) (1,a1,k2,a2) (0<=a6.length / 2) (a6.length / 2 < 0) 0 fr:=
  ([],0,[],_,[],[],_,_,0,0,St.ini iw em en er hy i1 ih (eb em kf,eb en kj,eb er ha) mt ⋯ ⋯ ⋯ ⋯ ⋯ (λc o a4=>by
   by_cases e:c=Y
   .subst e;rw[jA rfl] at a4;show(a4 ▸ b0,eb b0 kc,az,ar)
   .rw[fA e] at a4;cases a4),rfl,.inl (rfl,rfl,rfl,rfl,vC _))
 let m4:∀c o,(λc=>if c=Y then some (HO.lst (a6.map V.int)) else none) c>o->c≠Z:=λc o a4=>by
  by_cases e:c=Y
  .rw[e];show dd
  .let a4:(if c=Y then some (HO.lst (a6.map V.int)) else none)>o:=a4;rw[fA e] at a4;cases a4
 let gq:(λc=>if c=Y then some (HO.lst (a6.map V.int)) else none) Y>(.lst (a6.map V.int)):=jA rfl;generalize (λc=>if c=Y then some (HO.lst (a6.map V.int)) else none)=G0 at *;let nv:(0:Int)<=la/\a1+k2<=la:=⟨⋯,⋯⟩
 generalize iy:((0,p,[(0,k0,3,some (0,O)),(8,k1,3,some (0,a5)),(la,1,3,none)]):Tk)=T0 at be;generalize iz:((1,U,[(a1,k2,3,some (0,a2))]):Tk)=T1 at be;generalize jv:((0,0,k0,O):AG)=sa at be;generalize jw:((0,8,k1,a5):AG)=sb at be;generalize jx:((1,a1,k2,a2):AG)=sc at be;let dp:T0.n=0:=by rw[<-iy]
 let n4:sa.n=0:=by rw[<-jv]
 let n5:sb.n=0:=by rw[<-jw]
 clear iy jv jw d0 ea ge ju;clear eu aq ac g6 iv iw kp bu dk eb ir hb fa i2 em en ii b0 er hy i1 ih dw dy dz cw cx d2 kf kj kc ha az ar dd au W cy cz h5 h6 hh hj h3 h4 dl;show(λN J=>∃bl bm,N=[↑a,some (.int l),some (.int F),some (.int gr),some (.int (pw gr)),some (.int la),some (.int many),↑r.p,some (.int 0),↑Y,↑Z,ah,↑a3,↑a9,bl,bm]/\EJ P w A G0 a7 r D l F gr T0 T1 many la a9 a3 Z sa sb sc (a6.length<=a6.length / 2) (a6.length / 2 < a6.length) a6.length J,?_,λpc ku=>?_)
 .rfl';show⟨⟨_,pD.of (be.k0 gq)⟩,dc (K:=K) (xs:=a6.map V.int) (λi N J=>∃bl bm,N=[↑a,some (.int l),some (.int F),some (.int gr),some (.int (pw gr)),some (.int la),some (.int many),↑r.p,some (.int 0),↑Y,↑Z,ah,↑a3,↑a9,bl,bm]/\EJ P w A G0 a7 r D l F gr T0 T1 many la a9 a3 Z sa sb sc (i<=a6.length / 2) (a6.length / 2 < i) i J) (_,_,rfl,be) (λi N J _ cs=>by let(_,_,cs):=cs;show pD.of (cs.2.k0 gq)) (λi v n6 N J hi=>?_) (λN J=>?_)⟩
  .rintro⟨bl,bm,rfl,b2⟩ jz;let ly:=(rF (o:=.tup [V.int (i:Int),v]) jz).2;let b2:=b2.same (rF (o:=.tup [V.int (i:Int),v]) jz).1;obtain⟨c,rfl⟩:∃c:Int,v=V.int c:=by
    let(c,_,e):=cA.mp (VA hi);show⟨c,e.symm⟩
   let mo:=(QA.mp hi).1;rw[iA] at mo;generalize FC J n6 (.tup [V.int (i:Int),V.int c])=G1 at *;clear be;rfl';show(_,uD.of ly,rfl,_,_,rfl,_,_,rfl,rfl,?_);show(λN J=>N=[↑a,some (.int l),some (.int F),some (.int gr),some (.int (pw gr)),some (.int la),some (.int many),↑r.p,some (.int 0),↑Y,↑Z,ah,↑a3,↑a9,some (.int i),some (.int c)]/\EJ P w A G0 a7 r D l F gr T0 T1 many la a9 a3 Z sa sb sc (i < a6.length / 2) (a6.length / 2<=i) i J,?_,λp3 nk=>?_)
   .rfl';show(_,.inl (_,pD.of (b2.k0 gq),rfl),?_);let(more,made,S,es,ts,kvs,us,sp,d3,d9,ad,a4,bh):=b2;by_cases e:(i:Int)=((a6.map V.int).length:Int) / 2
    .rw[jA e];rw[iA] at e;let(rfl,rfl,rfl,rfl,f0)||(_,_,_,_,f1):=bh
     .show (wK G0 a7 r D l F gr _ many made S es ts kvs la a9 a3 Z us sa sb sc T0 i i (rfl,ad,by rw[BA,BA,dp,<-iz];rfl,aA .., dp,n4,n5,⋯,⋯,m4,λc0 f3 dn fy fl h7 H' n7 cp=>?_));show(true,rfl,?_);rw[fA (by decide)];show([(2,c0,T0.rs)],f3,dn,fy,fl,h7,n7,_,_,_,cp,rfl,.inr (⟨c0,rfl⟩,rfl,rfl,rfl,⋯))
     .exfalso;omega
    .rw[fA e];let e:¬(i:Int)=(a6.length:Int) / 2:=λD=>e (by rw[iA,D]);show(more,made,S,es,ts,kvs,us,sp,d3,d9,ad,a4,?_);let(h1,h2,b1,bb,f0)||(h1,h2,b1,bb,f1):=bh
     .show .inl (h1,h2,b1,bb,⋯)
     .show .inr (h1,h2,b1,bb,⋯)
   rintro⟨rfl,b2⟩;let(more,made,S,es,ts,kvs,us,sp,d3,d9,ad,a4,bh):=b2;let gu:d3 < 63/\d9<=1000:=by
    let(h1,h2,b1,bb,f0)||(h1,h2,b1,bb,f1):=bh<;>omega
   rfl';show (YO G0 a7 r D l F gr _ many made S es ts kvs la a9 a3 Z us sp d3 d9 c (rfl,ad,gu.1,gu.2,⋯,λf3 dn fy fl h7 H' cp=>(true,rfl,?_)));rw[fA (by decide)];let(fw,gy):=cp.rh.s.me;let n2:(WF fl).length=dn.length:=by
    unfold WF;rw[iA,cp.cn.count]
   show(fw,_,gy,FE ∅,r,f3,dn,rfl,cp.rh.s,_,cp.htd,_,_,rfl,?_);rw[n2,pA rfl];show(true,rfl,?_);rw[fA (by decide)];show(more,f3,dn,fy,fl,h7,us,sp,_,_,cp,a4,?_);let(h1,h2,b1,bb,f0)||(h1,h2,b1,bb,f1):=bh
   .show .inl (h1,h2,⋯,⋯,⋯)
   .show .inr (h1,h2,⋯,⋯,⋯)
  .rw[iA];show id
 rintro⟨bl,bm,rfl,b2⟩;let(more,made,S,es,ts,kvs,us,sp,d3,d9,ad,a4,bh):=b2;clear be;let gu:d3<=63/\d9<=1000:=by
  let(h1,h2,b1,bb,f0)||(h1,h2,b1,bb,f1):=bh<;>omega
 let e8:(more=[]/\sp.length=3)\/((∃p,more=[(2,p,T0.rs)])/\sp.length=5):=by
  let(h1,h2,_)||(h1,h2,_):=bh
  .show .inl ⟨h1,by rw[h2];rfl⟩
  .show .inr ⟨h1,h2⟩
 clear bh;let(fn,k3,cl):=ad.hus.2 2 sc a4;rw[<-jx] at cl;let op:=ad.hus.1;let oo:=ad.si;let a8:=En.of ad.cn ad.n1 (λe mc=>by have:=ad.ml e mc;omega) ⋯;let ap:=ad.rh;let e1:=ad.mx;let jy:=ad.hsl;let nb:=ad.nb;subst iz;clear ad a4 jx sc;show(λN J=>∃made S es,N=[↑a,some (.int l),some (.int F),some (.int gr),some (.int (pw gr)),some (.int la),some (.int many),↑r.p,some (.int 0),↑Y,↑Z,ah,↑a3,↑a9,bl,bm]/\p8 P w A a7 J r D l F gr ((1,U,[(a1,k2,3,some (0,a2))])::more) many made S es kvs la a3 Z us fn [.int 1,.int a1,.int k2,.int a2],?_,λnc nn=>?_)
 .rfl';let(fw,gy):=ap.s.me;let(dr,ev,hv,ej,_):=ap.pv (t:=T0) (aA ..);let ej:=ej.trans dp;show(fw,_,gy,FE ∅,GI a7 r D l F gr _ _ made S es 0 T0 dr (rfl,ap,a8.pc,aA .., dp,ev,hv,ej,a8.ml dr ev,a8.sl,λc3 co ls=>?_));let ab:=a8.out ev hv ej co.s.nn;let fz:∀c o,ku c>o->¬iG r D S es c->c3 c>o:=λc o a4 no=>by
   let(_,(ar,dd,h8,_,h9,_),f4,_):=ap.no no;show ls c o a4 h9 h8 ar dd λq=>f4 (cA.mpr (dr,ev,q.symm))
  let g5:=e1.keep (H':=c3) λc o a4 ho=>fz c o ho (by
   let rfl||(ys,rfl):=a4
   .show ap.nb nb.1
   .show ap.nt ho)
  let gz:=fz _ _ jy (ap.nb nb.2.2);let g3:=fz _ _ cl (ap.nt cl);rw[show eG 0 (T0::((1,U,[(a1,k2,3,some (0,a2))]):Tk)::more)=(1,U,[(a1,k2,3,some (0,a2))])::more by
   let(rfl,_)||((c0,rfl),_):=e8<;>simp[eG,dp]] at co
  show(made,_,_,co,ab,g5,gz,g3)
 rintro⟨made,c4,ck,rfl,j0⟩;clear ap a8 e1 jy cl;show(λN J=>N=[↑a,some (.int l),some (.int F),some (.int gr),some (.int (pw gr)),some (.int la),some (.int many),↑r.p,some (.int 0),↑Y,↑Z,ah,↑a3,↑a9,bl,bm]/\p8 P w A a7 J r D l F gr ((1,U,[(a1,k2,3,some (0,a2))])::more) many made c4 ck kvs la a3 Z us fn [.int 1,.int a1,.int k2,.int a2],?_,λox ne=>?_)
 .let(co,ab,g5,gz,g3):=j0;rfl';let(b5,b3,ch,du):=co.bank;let o0:more.length<=1:=by let(rfl,_)||((c0,rfl),_):=e8<;>simp
  show (AH a7 r D l F gr _ _ made c4 ck 0 b5 (rfl,co,ab.pc,b3,ch,du,by rw[dB];omega,ab.ml b5 b3,ab.sl,(_,aA .., rfl),λnq ff=>(true,rfl,?_)));rw[fA (by decide)];show(co.same ff,ab,g5.keep λc o ο ho=>ff c o ho,ff _ _ gz,ff _ _ g3)
 rintro⟨rfl,g9⟩;clear j0;show(λN J=>N=[↑a,some (.int l),some (.int F),some (.int gr),some (.int (pw gr)),some (.int la),some (.int many),↑r.p,some (.int 0),↑Y,↑Z,ah,↑a3,↑a9,bl,bm]/\(RH A a7 J r D l F gr ((1,U,[])::more) [(inl 0,.int many)] made c4 ck/\yD P w J a3 "last" (.int (la * pw gr)) kvs/\J Z>(.lst us)),?_,λn9 nf=>?_)
 .let(e3,ab,iu,ey,cl):=g9;rfl';let(fu,mw):=e3.s.me;let(cd,e6,dt,b4,_):=e3.pv (t:=(1,U,[(a1,k2,3,some (0,a2))])) (aA ..);let b4:cd.n=1:=b4;let fx:=ab.o1 cd e6 dt b4;let(au,W):=m8 (R:=(a1,k2,3,some (0,a2))) (rs:=[]) (RP (by change 0 < k2;omega));let W:AE ((1,U,[(a1,k2,3,some (0,a2))]):Tk).rs a1 k2 []=[]:=W;show(fu,_,mw,FE ∅,_,pD.of ey,_,QH k3,fn,rfl,_,uD.of cl,_,rfl,_,pD.of ey,_,QH k3,fn,rfl,_,uD.of cl,_,rfl,a7,r,D,l,F,gr,_,_,made,c4,ck,1,a1,k2,_,cd,rfl,e3,aA .., rfl,e6,dt,b4,by unfold UD;show pA ⋯,au,by rw[W];show DV,by rw[W];show vC _,λn8 ο ο=>by unfold vD;rw[fx];rfl,ab.sl,λec ax hx=>?_);let e2:=iu.keep (H':=ec) λc o a4 ho=>hx c o ho (by
   let(_,(_,_,eq,_,_),_):=e3.h.st _ (aA ..);let rfl||(ys,rfl):=a4
   .show (TH iu eq (λο D=>nomatch D) (λο D=>nomatch D)).symm
   .show cD ho eq nofun)
  let ez:=hx _ _ ey (by
   let(_,(_,_,eq,_,_),_):=e3.h.st _ (aA ..);show cD ey eq nofun)
  rw[W,show HE 1 [] (((1,U,[(a1,k2,3,some (0,a2))]):Tk)::more)=(1,U,[])::more by
   let(rfl,_)||((c0,rfl),_):=e8<;>simp[HE]] at ax
  show(ax,e2,ez)
 rintro⟨rfl,ax,e2,ez⟩;let ab:=g9.en;clear g9;show(λN J=>∃made S es,N=[↑a,some (.int l),some (.int F),some (.int gr),some (.int (pw gr)),some (.int la),some (.int many),↑r.p,some (.int 0),↑Y,↑Z,ah,↑a3,↑a9,bl,bm]/\RH A a7 J r D l F gr [(1,U,[])] [(inl 0,.int many)] made S es/\En gr S es kvs/\yD P w J a3 "last" (.int (la * pw gr)) kvs,?_,λp4 ee=>?_)
 .rfl';show(_,.inl (_,pD.of ez,rfl),?_);let(rfl,b1)||((c0,rfl),nu):=e8
  .rw[fA ⋯];show(made,c4,ck,ax,ab,e2)
  .rw[jA ⋯];let(fv,mx):=ax.s.me;let(cv,ew,hw,ek,_):=ax.pv (t:=(2,c0,T0.rs)) (qA _ (aA ..));let ek:cv.n=2:=ek;show(fv,_,mx,FE ∅,GI a7 r D l F gr _ _ made c4 ck 2 (2,c0,T0.rs) cv (rfl,ax,ab.pc,qA _ (aA ..),rfl,ew,hw,ek,ab.ml cv ew,ab.sl,λee ix lu=>?_));show(made,_,_,ix,ab.out ew hw ek ix.s.nn,e2.keep λc o a4 ho=>?_);let no:¬iG r D c4 ck c:=by
    let rfl||(ys,rfl):=a4
    .show ax.nb nb.1
    .show ax.nt ho
   let(_,(ar,dd,h8,_,h9,_),f4,_):=ax.no no;show lu c o ho h9 h8 ar dd λq=>f4 (cA.mpr (cv,ew,q.symm))
 rintro⟨made,S,es,rfl,ap,a8,e1⟩;clear ax e2 ez ab e8;rfl';let(b5,b3,ch,du):=ap.bank;let mm:∀dq∈es,dq.k=false->dq.n=1:=λdq me mq=>by
  have:dq.n∈(RE es).map Ho.n:=cA.mpr (dq,HA.mpr ⟨me,by rw[mq];rfl⟩,rfl);rw[ap.nm] at this;show bA.mp this
 let ml:=a8.gone mm b3 ch;show (vK a7 r D l F gr _ many made S es kvs _ a3 (1,U,[]) b5 (rfl,ap,a8.pc,e1,nb.1,aA .., rfl,rfl,b3,ch,du,bw,mv,a8.bi,λk ο=>a8.row b5 b3 ch k,λef ay ο=>(true,rfl,?_)));rw[fA (by decide)];let ay:RH A a7 ef r D l F gr [(1,U,[(0,many,1,some (0,0))])] [(inl 0,.int many)] made S es:=ay;clear ap e1;show (AH a7 r D l F gr _ _ made S es 0 b5 (rfl,ay,a8.pc,b3,ch,du,by change 1<=1000;decide,a8.ml b5 b3,a8.sl,(_,aA .., rfl),λhr c1=>(true,rfl,?_)));rw[fA (by decide)];let bp:=ay.same c1;clear ay c1;let(le,jt):=bp.s.me;let(cd,e6,dt,b4,_):=bp.pv (t:=(1,U,[(0,many,1,some (0,0))])) (aA ..);let b4:cd.n=1:=b4;let fx:=a8.o1 cd e6 dt b4;let(au,W):=m8 (R:=(0,many,1,some (0,0))) (rs:=[]) (RP (by change 0 < many;omega));let W:AE ((1,U,[(0,many,1,some (0,0))]):Tk).rs 0 many []=[]:=W;show(le,_,jt,FE ∅,vK a7 r D l F gr _ _ made S es 1 0 many _ cd (rfl,bp,aA .., rfl,e6,dt,b4,by unfold UD;show pA ⋯,au,by rw[W];show DV,by rw[W];show vC _,λn8 ο ο=>by unfold vD;rw[fx];rfl,a8.sl,λhs e4 ο=>?_));rw[W] at e4;let e4:RH A a7 hs r D l F gr [(1,U,[])] [(inl 0,.int many)] made S es:=e4;clear bp au W jt;let(lk,my):=e4.s.me;show(lk,_,my,FE ∅,AH a7 r D l F gr _ _ made S es 0 b5 (rfl,e4,a8.pc,b3,ch,du,by change 1<=1000;decide,a8.ml b5 b3,a8.sl,.inr ⟨λt n0=>by rw[bA.mp n0];rfl,λkw g8=>?_⟩));rw[ml] at g8;let(lq,mz):=g8.me;rw[jA (by decide)];show(lq,_,mz,FE ∅,r,made,[],rfl,g8,_,_,rfl,?_);show n3 _
end
theorem EV {l:W.OpenLaw} {q:Program} {loose:!Str} {XP:(Str->Option Value)->Heap->Prop} {YP:World->Heap->Prop} {D:DefRec} {K:Params->W.Frag} (a5:l.most>63) (a2:D.params.defaults=[]) (a3:D.name="law")
  (a0:∀(w:World) (h:Heap),YP w h->(K w.params).In h)
  (L:∀(w:World) (mg:Str->Option Value) (h:Heap),(K w.params).In h->h.Ns mainGlobals mg->∃A:rD,CD (K w.params) mg A):
  W.WalkO q loose XP YP l.row.toRowW D [] (λf vs=>PySem.call f vs):=by
 show L2.kb (n:=63) (k:=16+1) (x:="_law_script") (CX:=λw=>NG l.prog w) (sp:=λw=>QK (K w.params)) a5 (by decide) a2 (rfl,by decide,by decide) a0 ?_ (λο ο a ns a4 ο Z=>(a,ns,rfl,Z,a4,λο=>rfl)) λ_ _ _ _ _ ⟨_,_,_,_,_,_,_,_,_,_,F⟩=>F;intro w mg a6 h U O J;rw[a3] at J;let(A,T):=L w mg h U O;let(f,Y,e,N,a1):=T.Ni;let V:=J.symm.trans e;cases V;show(Y,a1,λbase ο ο=>N.okE XG (λvs H Q E F=>by let(a,ns,rfl,_):=F;rfl) (ph (P:=l.prog) (w:=w) (base:=base) T))
end Pf
open PySem PySem.W PyProof.Rows
set_option maxRecDepth 100000 in
set_option maxHeartbeats 0 in
theorem PySem.Challenge.cw_frameland_k53_tied_boxes_holds : PySem.Challenge.rw_frameland_k53_tied_boxes.Holds := by
 w_on;o_law
 show holds_open (q:=Pf.vw) (loose:=Pf.lo) (Xt:=λs=>xlAt Pf.vw [] s&&recOk (RowW.records (PySem.Challenge.rw_frameland_k53_tied_boxes).row.toRowW) s) (XP:=XL Pf.vw []) (Yf:=Hook.obs (kHook Pf.Kf Pf.hJ Pf.pQ)) (Ya:=Hook.val (kHook Pf.Kf Pf.hJ Pf.pQ)) (YP:=Hook.says (kHook Pf.Kf Pf.hJ Pf.pQ)) (N:=(12+(1+(2624+(6631))))) Pf.left (Hook.of (kHook Pf.Kf Pf.hJ Pf.pQ)) (Hook.keeps (kHook Pf.Kf Pf.hJ Pf.pQ)) (λs e=>xl_of s (Bool.and_eq_true_iff.mp e).1) XL.keeps (by rfl) (by rfl) (by rfl) (λs e=>recFacts_of (Bool.and_eq_true_iff.mp e).2) (by rfl) (by first|assumption|decide+kernel) (by decide+kernel) (rfl,rfl,rfl,rfl,rfl,by decide+kernel) ?hw ?hc
 case hw=>w_witness2
 k_fill
 show Pf.EV (l:=PySem.Challenge.rw_frameland_k53_tied_boxes) rfl rfl rfl (λw h Y=>PySem.W.kIn_of Y) ?F
 case F=>
  intro w mg h KX G;refine' Pf.eM KX G ?_ ?_ ?_ ?_ ?_ ?_ ?_ ?_ ?_ ?_ ?_ ?_ ?_ ?_ ?_ ?_ ?_ ?_ ?_ ?_ ?_ ?_ ?_ ?_ ?_ ?_ ?_ ?_ ?_ ?_ ?_ ?_ ?_ (.mk ?_ ?_ ?_ ?_) (.mk ?_ ?_ ?_ ?_) (.mk ?_ ?_ ?_ ?_) (.mk ?_ ?_ ?_ ?_) (.mk ?_ ?_ ?_ ?_) (.mk ?_ ?_ ?_ ?_) (.mk ?_ ?_ ?_ ?_) (.mk ?_ ?_ ?_ ?_) (.mk ?_ ?_ ?_ ?_) (.mk ?_ ?_ ?_ ?_) (.mk ?_ ?_ ?_ ?_) (.mk ?_ ?_ ?_ ?_) (.mk ?_ ?_ ?_ ?_) (.mk ?_ ?_ ?_ ?_) (.mk ?_ ?_ ?_ ?_) (.mk ?_ ?_ ?_ ?_) (.mk ?_ ?_ ?_ ?_) (.mk ?_ ?_ ?_ ?_) (.mk ?_ ?_ ?_ ?_) (.mk ?_ ?_ ?_ ?_) (?_,?_,?_,?_) ?_ (.mk ?_ ?_ ?_ ?_ ?_ ?_ ?_) ?_ ?_ ?_ ?_ ?_ ?_ (.mk ?_ ?_ ?_ ?_ ?_) (.mk ?_ ?_ ?_ ?_ ?_) (.mk ?_ ?_ ?_ ?_ ?_) (.mk ?_ ?_ ?_ ?_ ?_) (.mk ?_ ?_ ?_ ?_ ?_) (.mk ?_ ?_ ?_ ?_ ?_) (.mk ?_ ?_ ?_ ?_ ?_) (.mk ?_ ?_ ?_ ?_ ?_) (.mk ?_ ?_ ?_ ?_ ?_) (.mk ?_ ?_ ?_ ?_ ?_) (.mk ?_ ?_ ?_ ?_ ?_) (.mk ?_ ?_ ?_ ?_ ?_) (.mk ?_ ?_ ?_ ?_ ?_) (?_,?_,?_,?_) ?_ ?_ ?_ (.mk ?_ ?_ ?_ ?_ ?_ ?_ ?_) (.mk ?_ ?_ ?_ ?_ ?_) (.mk ?_ ?_ ?_ ?_ ?_) ?_ ?_ ?_ ?_ ?_ ?_ (.mk ?_ ?_ ?_ ?_ ?_) (.mk ?_ ?_ ?_ ?_ ?_) (.mk ?_ ?_ ?_ ?_ ?_) (.mk ?_ ?_ ?_ ?_ ?_) (.mk ?_ ?_ ?_ ?_ ?_) (.mk ?_ ?_ ?_ ?_ ?_) (.mk ?_ ?_ ?_ ?_ ?_) (.mk ?_ ?_ ?_ ?_ ?_) (.mk ?_ ?_ ?_ ?_ ?_) (.mk ?_ ?_ ?_ ?_ ?_) (.mk ?_ ?_ ?_ ?_ ?_) (.mk ?_ ?_ ?_ ?_ ?_) (?_,?_,?_,?_) ?_ ?_ ?_ ?_ ?_ ?_ ?_ ?_ (.mk ?_ ?_ ?_ ?_ ?_ ?_ ?_) (.mk ?_ ?_ ?_ ?_ ?_) (.mk ?_ ?_ ?_ ?_ ?_) (.mk ?_ ?_ ?_ ?_ ?_) ?_ ?_ ?_ ?_ ?_ ?_ (.mk ?_ ?_ ?_ ?_ ?_) (.mk ?_ ?_ ?_ ?_ ?_) (.mk ?_ ?_ ?_ ?_ ?_) (.mk ?_ ?_ ?_ ?_ ?_) (.mk ?_ ?_ ?_ ?_ ?_) (.mk ?_ ?_ ?_ ?_ ?_) (.mk ?_ ?_ ?_ ?_ ?_) (.mk ?_ ?_ ?_ ?_ ?_) (.mk ?_ ?_ ?_ ?_ ?_) (.mk ?_ ?_ ?_ ?_ ?_) (.mk ?_ ?_ ?_ ?_ ?_) (.mk ?_ ?_ ?_ ?_ ?_) (.mk ?_ ?_ ?_ ?_ ?_) (.mk ?_ ?_ ?_ ?_ ?_) (.mk ?_ ?_ ?_ ?_ ?_) (?_,?_,?_,?_) ?_ ?_ ?_ ?_ ?_ ?_ (.mk ?_ ?_ ?_ ?_ ?_ ?_ ?_) (.mk ?_ ?_ ?_ ?_ ?_) (.mk ?_ ?_ ?_ ?_ ?_) (.mk ?_ ?_ ?_ ?_ ?_) (.mk ?_ ?_ ?_ ?_ ?_) (.mk ?_ ?_ ?_ ?_ ?_) ?g0 ?g1 ?g2 ?g3 ?g4 ?g5 ?g6 ?g7 ?g8 ?g9 ?_ ?_ ?_ ?g10 ?_ (.mk ?_ ?_ ?_ ?_)
  all_goals first|k_is|skip
  (case g0=>k_exc)
  (case g1=>k_exc)
  (case g2=>k_exc)
  (case g3=>k_exc)
  (case g4=>k_exc)
  (case g5=>k_exc)
  (case g6=>k_exc)
  (case g7=>k_exc)
  (case g8=>k_exc)
  (case g9=>k_exc)
  (case g10=>k_exc)
